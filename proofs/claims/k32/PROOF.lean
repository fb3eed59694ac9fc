import PyProof.Rows.All
import Wide.All
import OpenK.AllK
import Wide.FinOn
import Lean
import PyProof.EqAt
import PyProof.EqKinds
import PyProof.TupleCall
import PyProof.NsDelKeeps
import PyProof.AttrMissHeap
import KE.KDictOf
import PyProof.Rows.MinMaxN
import KE.KMinBuiltin
import PyProof.Rows.CallKwBuiltin
import KE.KUnpack
import OpenK.KLine
import KE.KNestM
import PySem.Challenge.RW_firnfall_k32_sums_of_a_year
set_option Elab.async false
set_option linter.all false
set_option maxRecDepth 100000
set_option maxHeartbeats 0
open And renaming intro->ie
open Array renaming length_toList->d7,getElem?_setIfInBounds_ne->iJ,getD_eq_getD_getElem?->ly,getElem?_eq_getElem->lS,getD->oV,forIn_toList->oX,mk->pq,toList_map->rE
open Bool renaming false_ne_true->ar,and_eq_true->bw,false_eq_true->c5,eq_iff_iff->fc,true_and->fk,and_false->sU
open False renaming elim->bB
open ForIn renaming forIn->A3
open ForInStep renaming yield->cj
open Int renaming toNat_natCast->b7,zero_add->cS,emod_lt_of_pos->dh,le_refl->dm,emod_nonneg->dQ,add_zero->lB,mul_one->nH,natCast_nonneg->pj,le_trans->pZ,le_of_lt->rf,mul_nonneg->tD
open List renaming getElem?_eq_getElem->aa,length_map->ag,getD_eq_getElem?_getD->ak,map_append->aq,length_append->aw,getElem?_map->ax,size_toArray->az,mem_of_getElem?->aA,mem_cons_of_mem->aC,mem_cons_self->aE,length_take->aG,mem_append_right->aH,append_nil->aJ,range->aM,take_add_one->aQ,Nodup->aS,map_cons->aU,take_length->aX,take_of_length_le->aZ,length_cons->b9,length_replicate->bc,mem_map_of_mem->bg,filter_append->bu,length_singleton->bx,length_filter_le->bz,length_range->bG,getElem_mem->bQ,map_map->bW,getElem?_zipWith->bX,filter_cons_of_pos->bY,range_succ->bZ,all_eq_true->c8,filter_cons_of_neg->cc,mem_append_left->cC,replicate->cD,getElem?_append_right->cE,zipWith->cI,getElem?_append_left->cJ,lookup_cons->cV,reverse->d5,filter->d9,drop_eq_getElem_cons->de,mem_of_mem_drop->dU,sum_cons->ee,map_congr_left->ez,getElem?_range->eA,length_zipWith->eB,getElem?_replicate->eE,length_drop->eI,getElem_map->eM,take_zero->eO,lookup->eQ,find?_cons->ff,mem_cons->fm,mem_of_mem_take->fI,reverse_reverse->fJ,replicate_succ'->fL,not_mem_nil->fO,filterMap_cons->fQ,any_cons->fU,of_mem_zip->fZ,filter_nil->i0,pairwise_cons->i6,getElem?_take->i7,pairwise_singleton->ic,getElem?_set_self->ig,all_map->iB,length_pos_of_mem->iC,ext_getElem?->iD,append_assoc->iE,getElem?_set->iG,drop_eq_nil_of_le->iH,getElem?_set_ne->iT,length_set->iZ,forIn_cons->l9,length_reverse->lx,nodup_nil->lP,reverse_cons->lX,getElem_take->lZ,flatten_cons->m6,drop_nil->md,ext_getElem->mr,map_nil->mL,drop_of_length_le->mM,find?_cons_of_pos->mR,find?_cons_of_neg->mS,sum_append->ni,getElem?_eq_none->nB,length->nJ,map_id->nZ,drop_zero->og,getElem?_append->oh,all_cons->oF,take_nil->oH,find?->ph,toArray->pR,filter_congr->rg,map_snd_zip->rG,zipIdx_cons->rH,map_reverse->rQ,filter_cons->rR,zipIdx_nil->sv,length_nil->sy,forIn_nil->t8
open List.Pairwise renaming nil->ir
open List.Perm renaming refl->nU,cons_inv->oZ
open MonadExcept renaming tryCatch->Aa
open Nat renaming le_refl->au,ne_of_lt->aD,le_trans->aK,zero_le->aN,lt_of_lt_of_le->aT,lt_of_le_of_lt->bM,lt_succ_of_lt->bU,lt_irrefl->cp,ne_of_gt->cH,le_of_lt->dA,lt_succ_self->dG,le_add_right->eL,succ_le_succ->eP,le_succ->ib,min_eq_left->lj,le_of_eq->mE,zero_add->mP,not_lt_zero->mY,zero_min->rh,min_eq_right->rS
open Ne renaming symm->cF
open Option renaming toList_some->c6,isSome_map->pX,getD_none->rC,bind_some->rO
open Option.some renaming inj->aI
open Or renaming inl->aP,inr->df
open Prod renaming snd->A4
open PyProof.Rows renaming seqObj->bH,boot_isinstance->bR,boot_list->cf,callWith_type1->cx,boot_tuple->cB,listUpdate_at->di,IntsAre->dC,get?_update_seq->fe,boot_max->fg,seqEpoch_at->fG,boot_sum->fX,boot_bool->iF,slot_tuple_getitem->iI,boot_int->iL,AllBare->iP,subscriptTail->iQ,envOfC->iY,Subscript_->mG,subscriptTail_builtinR->mI,listItems_at->mO,entry_list_sort->mW,boot_str->nA,slot_list_sort->nR,boot_sorted->nW,preSum_getD->nX,slot_tupleiter_next->oB,size_push'->oW,plain_sorted->pO,entry_sorted->pQ,boot_all->pY,kind_sorted->si,list_sort_plain->sr,boot_range->sO,SortKind->sX,args_list_sort->sZ,failedOf->t7,boot_min->tE,IsTup->tR,tail_any->A2,Call_->Ad
open PyProof.Rows.IsTup renaming new->tS
open PyProof.Rows.KeyOrd renaming kle_refl->dw,kle_of_klt->iA,kle_trans->iO,kle_antisymm->lu
open PySem renaming wpAny_bind->af,Value->aj,wpAny->ay,model->aF,starEach->aO,boot_len->aR,wpAny_mono->ba,wpAny_holding->bC,World->bD,Around->bF,wpAny_field->bO,sizeLine_eq->bS,wpAny_newObj_type->bT,wpAny_truthy_bool->c0,wpAny_loadPart'->ck,wpAny_seqItems->cn,compareOp->cq,rawInt->cw,Paired->cz,wpAny_callSpecial?_slot->cA,backTo->cG,foldedSetIterable->cK,wpAny_standAt->cP,wpAny_Call_Name_kw->cT,bindArgs->cU,wpAny_call_entry->cW,codeAny->cX,assignEach->cY,wpAny_pyIter_list->cZ,letOwnedTupleGo->d8,mem_of_lookup->dz,codeAny_mono->dB,wpAny_setField_rec->dJ,importedModules->dN,wpAny_passesOwn->dO,codeAny_builtin->dP,holding->dR,keywordEach->dS,wpAny_comprehension_free->dX,plainId_quiet->dY,IsPair->ef,pyNext->eC,PyData->eJ,sysModules->eV,wpAny_rule->eY,behindInMarks->fi,wpAny_attempt->fj,standAt->fB,Builtin->fC,binaryOp->fE,wpAny_newFunctionEnv_cells->fF,wpAny_letGo->fH,wpAny_setField->fK,bootBuiltins->fM,attributeBase->fS,wpAny_newList->fW,wpAny_execs_nil->fY,wpAny_call->i4,tupleKind_room_in1->i5,sliceBounds->ia,wpAny_pyNext_list_item->ij,backToKw->il,NameKind->ip,codeAny_compStart_list->iu,assign->iM,getMethod->iN,wpAny_newFunctionEnv->iV,wpAny_updateSeq_pair->iX,swapsWith->lC,noteFrame->lE,wpAny_newTuple->lK,firstArgMember->lM,IsZip->lN,wpAny_tryCatch->lO,getItem->lV,wpAny_of_eq->lY,pyIter->m7,evalPart_none->m8,wpAny_getItem_list_slice->m9,wpAny_onRaise->ma,wpAny_eqBool_int->me,tupleKind->mf,wpAny_execs_cons->mh,callWith->mm,cellsFrom->mn,noFill_tuple_add->mq,seqItems?->mw,wpAny_isInstance->mx,OsState->mB,builtinsNs->mD,Keyword->mF,seqIndex_neg->mH,wpAny_getItem_list_neg->mJ,theTreesLotGoes->mV,field->mZ,wpAny_updateSeq->nh,wpAny_isTrue_Compare1->nj,wpAny_pyNext_list_end->nk,wpAny_pyIter_listiter->nu,codeAny_call_function->nv,Result->nI,seqIndex_of->nM,subscripted->nN,newFunctionEnv->nO,ZipApart->o8,isSubtype_stop->o9,leaving->om,callerA->oo,valueAt->oq,argBest->ou,seq_tuple_add->oC,evalPart_some->oE,eval_ListComp->oG,wpAny_pyIter_tuple->oN,wpAny_pyIter_range->oO,typeLookup->oQ,call_meets->oR,closureFor->oS,wpAny_evalAll_cons->oY,slot_listiter_next->pe,getattributeRaised->pf,Within->pw,wpAny_assign_Name->px,BindsTo->pI,concat_meets->pJ,compEnvC->pK,codeAny_loop->pL,compTurn->pM,newList->pN,wpAny_typeOf->pS,wpAny_evalAll_nil->pT,wpAny_pyIter_enum->pU,wpAny_pyIter_zip->rK,checkBuiltinCall->rM,IsRangeIter->rV,bindL->rX,bindC->rZ,wpAny_Slice->se,wpAny_noted->sf,atKey->sj,wpAny_specialOf->sx,wpAny_Name->sM,wpAny_loadPart->sQ,IsPart->sR,typeOf->sS,compPost->sW,checkCount->sY,getAttr?->tm,boundAndCalled->tu,assignInOrder->tH,rangeSize_one->tI,intBits_le_64->tJ,call_list_seq->tK,call_sum_walk->tN,wpAny_handled->tO,treeTable->tQ,setItem->tV,cellOf->tW,relabel->tX,stored->tY,Params->Ab,newExc->Ac
open PySem.Around renaming under_plainId->dj,frames_deeper->nK,under->pE
open PySem.Builtin.Dict renaming updateFrom->mz
open PySem.Builtin.List renaming listTooLong->fV
open PySem.Builtin.Range renaming rangeSize->mj
open PySem.Builtin.Slice renaming slicePlaces->dM,sliceAdjust->fP,sliceApplied->lL
open PySem.Builtin.SmallTypes renaming nextOf->bL,ownedTupleIsFree->cR,ownedTupleHandOut->fR
open PySem.Builtin.Tuple renaming tupleExact->dZ
open PySem.Calls renaming evalArgs_plain->iU,Name_function_global->lF,spliced_cons->lI,call_function_entry->lR,callWith_builtin->mK,spliced_nil->pH
open PySem.Code renaming isFrame->pG
open PySem.Data renaming fields->i8,cell->mi,seq->A9
open PySem.EntryCells renaming newEntry->oA
open PySem.Env renaming kindOf->sV
open PySem.F renaming slot_list_append->bI,type_list_append->bJ,plainAttrs_list->bK,excBase_ValueError->bP,slot_tuple_iterator_next->dI,plain_max_loop->eN,args_tuple_add_2->fT,entry_tuple_add->i9,slot_tuple_add->iq,slot_dict_get->iK,args_tuple_iterator_next_1->lg,slot_zip_next->lh,entry_tuple_iterator_next->lA,args_dict_get_3->my,entry_dict_get->mQ,slot_list_lt->nQ,args_zip_next_1->pW,entry_zip_next->rJ,entry_max_loop->rP
open PySem.Fin renaming done->t6
open PySem.Heap renaming get?_push_of_some->ai,lt_size->av,get?_push_size->aB,get?_update_other->bE,size_push->c7,get?_update_ne->cu,get?_update_self->cO,get?_push_ne->d4,size_update->eK,SameBut->eW,ExtBut->iW,MadeExcOf->oa
open PySem.Heap.DictOf renaming new->sD
open PySem.Heap.IsSliceOf renaming new->lJ
open PySem.Heap.SameBut renaming update->oz
open PySem.IsRange renaming new->rW
open PySem.NameKind renaming free->bj,cell->iR
open PySem.Obj renaming mapSeq->bb,data_mapFields->eZ,mapFields->fq,isFreed_of_fields->fA,cls_mapFields->pV
open PySem.Paired renaming length->aV,snoc->cN
open PySem.PassesOwn renaming never->bp
open PySem.PyData renaming strOk->rj,canLayAll0->rm,depthAll->sF,canLay0->tF
open PySem.SeqAt renaming shaped->iz
open PySem.SeqAt.EqAt renaming int_str->oK,str_int->oM
open PySem.Str renaming ofString->ao
open PySem.Value renaming ref->aW,none->b8,type->dW,int->fh,builtin->iS,isInt_shape->lT,bool->mC,str->oj,isStrOf_shape->ow,float->rT,isStrOf->tG
open PySem.W renaming Frag->ah,nsIn->aY,kitOne->bf,mg_none_of->bh,mg_of->bo,fnOf->bN,findIn->bV,keepIn->c3,kia_one->cg,emptyDict->cM,codeIn->cQ,boot_heap->d6,instObj->dq,excIn->dE,callWith_K->dH,cellsFrom_some->eX,methodCall_KW->ft,plainGet->fN,hasDictIn->ik,plainGet_of->lp,lookIn->lH,exmOne->lQ,methodObj->lU,plainOver->lW,takerIn->mT,makesIn->mU,boot_drawn->oI,namesBound->oJ,codeRec_of->oP,isFn->pz,kitx_list->pA,kitx_dict->pC,staticsOk->rn,kmHook->rp,handedIn->rA,OpenLaw->su,topStub->sG,kas_rev->sH,tabObj->sI,gensDone->sJ,laidKept->sL,InstAt->sP,funFrames_hide->tj,kas_tail3->tT,topRun->tU,openSeen->tZ,openGood->A0,openEnds->A1,kas_sort->A5,kas_item->A6,kat_snds->A7
open PySem.W.Looks renaming of_pure->tM,ld->A8
open PySem.W.OpenLaw renaming row->nE
open PySem.Walks renaming list->oU
open StateT renaming run_pure->mX
open Sum renaming inr->bA,inl->eR
open Sum.inl renaming inj->fD
open True renaming intro->du
open PySem PySem.Spec PyProof.Rows
local macro_rules | `(∅)=>`(by omega)
local macro_rules | `(⋯)=>`(by decide)
set_option hygiene false
local macro_rules | `(↥0)=>`((jt "slopes" (V.ref acc) (jt "cycle" (V.ref cy) (jt "valley" (V.ref va) []))))
local macro_rules | `(↥1)=>`((by walk_at "w"))
local macro_rules | `(↥2)=>`((aF X.prog X.w))
local macro_rules | `(↥3)=>`((.dK [((.inr "reaches",.ref p):Key×V),(.inr "rows",.ref q),(.inr "single",.ref g),(.inr "grounds",.ref gl)]))
local macro_rules | `(↥4)=>`((by walk_at "z"))
local macro_rules | `(↥5)=>`((upd (upd Hb g (.dK [])) sd (.dK (xA [] [(.inr "reaches",.ref p),(.inr "rows",.ref q),(.inr "single",.ref g)]))))
local macro_rules | `(↥6)=>`((xO elt tg iter tg2 iter2 ifs ifs2 scope pos))
local macro_rules | `(↥7)=>`(((s.heap.push (bH "list" #[] 0)).update s.heap.objs.size (bb (· ++ its.toArray))))
local macro_rules | `(↥8)=>`((s.heap.push { cls:=.type "range",data:=.fields #[.int lo t,.int hi u,.int 1 v] }))
local macro_rules | `(↥9)=>`((X.block scope j H2.objs.size N s H fp))
local macro_rules | `(↥10)=>`((X.block scope j C N s H ex))
local macro_rules | `(↥11)=>`((X.block scope G H2.objs.size N s H fp))
local macro_rules | `(↥12)=>`(((k.update a (bb λ_=>(#[]:Array aj))).push (bH "tuple" its.toArray 0)))
local macro_rules | `(↥13)=>`((.ref s.heap.objs.size))
local macro_rules | `(↥14)=>`((λ_ _ _ _ _=>jv))
local macro_rules | `(↥15)=>`((j0 (pv 0) (j0 j4 j2)))
local macro_rules | `(↥16)=>`((s.heap.objs.size+1))
local macro_rules | `(↥17)=>`((upd (upd M ye (HO.dK [])) p (HO.ins C dx (jt "years" (V.ref ye) ↥0))))
local macro_rules | `(↥18)=>`((g.slopes.length:Int))
local macro_rules | `(↥19)=>`((if qw b d wr c.ts one fst i+qy b d wr c.ts one (fst+(i:Int)) > 0 then qw b d wr c.ts one fst i+qy b d wr c.ts one (fst+(i:Int)) else 0))
local macro_rules | `(↥20)=>`((YK h'.objs.size (uX (X.env.qual ++ "<lambda>") params body scope ((X.mg "__name__").getD .none) c' j)))
local macro_rules | `(↥21)=>`((if qy b d wr c.ts one (fst+(i:Int)) > - qw b d wr c.ts one fst i then qy b d wr c.ts one (fst+(i:Int)) else-qw b d wr c.ts one fst i))
local macro_rules | `(↥22)=>`((.ListComp elt [⟨tg,iter,ifs,0⟩] scope pos))
local macro_rules | `(↥23)=>`((HO.ins C dx (jt "cycle" (V.ref cy) (jt "valley" (V.ref va) []))))
local macro_rules | `(↥24)=>`((x == ("__debug__" : Str)))
local macro_rules | `(↥25)=>`((∀b o,s.heap.get? b=some o->h'.get? b=some o))
local macro_rules | `(↥26)=>`((jm (jd K) (pv 0) j4 (λ_ _=>rfl)))
local macro_rules | `(↥27)=>`((bH "list" its.toArray 0))
local macro_rules | `(↥28)=>`((jW I q (by simp)))
local macro_rules | `(↥29)=>`((λvs H Q E h=>?_))
local macro_rules | `(↥30)=>`((upd (upd H Pt (.tbl #[cw pos.line,cw pos.col,.ref c'])) c' (Z3 c' (X.env.qual ++ "<lambda>"))))
local macro_rules | `(↥31)=>`((.inr "reaches",.ref p))
local macro_rules | `(↥32)=>`((.tup [.ref dl,.int q.1,.int q.2.1,.int q.2.2.1]))
local macro_rules | `(↥33)=>`((false,eval e X.env))
local macro_rules | `(↥34)=>`((j0 (pv 1) j2))
local macro_rules | `(↥35)=>`((bN x x (qg st) (jS st) (j7 st) .none kV doc pm U j z))
local macro_rules | `(↥36)=>`((by walk_at "2"))
local macro_rules | `(↥37)=>`(((j+1:Nat):Int))
local macro_rules | `(↥38)=>`((by decide +kernel))
local macro_rules | `(↥39)=>`((∀σ2 H2,NX σ2 H2->∃m',m'<m/\W (i+1) m' σ2 H2))
local macro_rules | `(↥40)=>`((∀σ2 H2,Y σ2 H2->∃m',m'<m/\W (i+1) m' σ2 H2))
local macro_rules | `(↥41)=>`((by intro z;cases z))
local macro_rules | `(↥42)=>`((j0 (pv 0) j2))
local macro_rules | `(↥43)=>`((dN PySem.Challenge.pw_firnfall_k32_sums_of_a_year.main.body))
local macro_rules | `(↥44)=>`((by walk_at "1"))
local macro_rules | `(↥45)=>`((l<0\/ ↥18<=l->E (.ref CN) none H))
local macro_rules | `(↥46)=>`((wpAny_pure ?_))
local macro_rules | `(↥47)=>`((.Slice none none (some (.UnaryOp .USub (.Constant (.int 1) j3 p3) p4)) p2))
local macro_rules | `(↥48)=>`((bb λ_=>(#[]:Array aj)))
local macro_rules | `(↥49)=>`((((aM i).map λi:Nat=>max 0 (one-qe d-2)+(i:Int)).filter λy=>decide (0<=y+js d y-one/\y+js d y-one<len)))
local macro_rules | `(↥50)=>`((jx (jB d gd.length (0+(i:Int))) (qL d gd wr c.ts 0 i)))
local macro_rules | `(↥51)=>`((EP X pins σ Q))
local macro_rules | `(↥52)=>`((j0 (pv 2) j2))
local macro_rules | `(↥53)=>`((.Call (.Attribute o m apos) (e::es) [] pos))
local macro_rules | `(↥54)=>`((.inr "rows",.ref q))
local macro_rules | `(↥55)=>`((∀b∈fp,H' b=none))
local macro_rules | `(↥56)=>`((Addr×List (Key×V)))
local macro_rules | `(↥57)=>`(((m.take p).filter λx=>decide (0<x)))
local macro_rules | `(↥58)=>`((gd.length:Int))
local macro_rules | `(↥59)=>`((ha pos pins s σ H _ I h))
local macro_rules | `(↥60)=>`((.lst (q.2.2.2.map V.int)))
local macro_rules | `(↥61)=>`((X.block scope G C N s H ex))
local macro_rules | `(↥62)=>`(((.inl z.1,f z.2):Key×V))
local macro_rules | `(↥63)=>`((by with_unfolding_all rfl))
local macro_rules | `(↥64)=>`((.lst (ys++[v])))
local macro_rules | `(↥65)=>`((.Call (.Name x p) (e::es) [] pos))
local macro_rules | `(↥66)=>`((jm (qp K) (pv 0) j4 (λ_ _=>rfl)))
local macro_rules | `(↥67)=>`((cG pos (aO es X.env)))
local macro_rules | `(↥68)=>`(((g.slopes.getD l.toNat []).length:Int))
local macro_rules | `(↥69)=>`((X.env.qual ++ "<lambda>"))
local macro_rules | `(↥70)=>`((g.rows.length:Int))
local macro_rules | `(↥71)=>`(((mv.take j).filter λx=>decide (0<x)))
local macro_rules | `(↥72)=>`((qV wr g.rows (fst+(i:Int))))
local macro_rules | `(↥73)=>`((jm (jd K) (xg K (pv 0)) (pv 1) (λ_ _=>rfl)))
local macro_rules | `(↥74)=>`(((m+1:Nat):Int))
local macro_rules | `(↥75)=>`((A.under (.builtin "type.__call__" ⟨.ref C::us,kw⟩)))
local macro_rules | `(↥76)=>`((∃m,W 0 m σ H))
local macro_rules | `(↥77)=>`((.builtin "object.__class__"))
local macro_rules | `(↥78)=>`((HO.ins C dx (jt "valley" (V.ref va) [])))
local macro_rules | `(↥79)=>`((bA (ao "reaches"):Key))
local macro_rules | `(↥80)=>`(((R.update a ↥48).push (bH "tuple" its.toArray 0)))
local macro_rules | `(↥81)=>`((by simp;omega))
local macro_rules | `(↥82)=>`((ns.map (·.1)))
local macro_rules | `(↥83)=>`((nE PySem.Challenge.rw_firnfall_k32_sums_of_a_year))
local macro_rules | `(↥84)=>`((.frz ob (.dK (ps.map kvI))))
local macro_rules | `(↥85)=>`((.inr "single",.ref j))
local macro_rules | `(↥86)=>`((rp HO.frag.heap_1 HO.asL HO.asE [154]))
local macro_rules | `(↥87)=>`((d.length:Int))
local macro_rules | `(↥88)=>`(((y:Int)-ji 0 0 j m))
local macro_rules | `(↥89)=>`(((kvD R (I.take (p+1))).map kvI))
local macro_rules | `(↥90)=>`((jz (show (bA (ao "single"):Key)≠bA (ao "grounds") by decide +kernel)))
local macro_rules | `(↥91)=>`((qV wr c.ts (0+(i:Int))))
local macro_rules | `(↥92)=>`((λz=>nomatch z))
local macro_rules | `(↥93)=>`((by walk_at "3"))
local macro_rules | `(↥94)=>`((k == bj && env.scope.kind == .function && env.kindOf n == some .cell))
local macro_rules | `(↥95)=>`((c == bj && env.scope.kind == .function && env.kindOf n == some .cell))
local macro_rules | `(↥96)=>`((.frz o (.dK kvs)))
local macro_rules | `(↥97)=>`((jz (show (bA (ao "rows"):Key)≠bA (ao "grounds") by decide +kernel)))
local macro_rules | `(↥98)=>`((if wsh > -j then wsh else -j))
local macro_rules | `(↥99)=>`((jm (jd K) (jy (jM hr) (pv 0) jr (λ_ _=>rfl)) (pv 1) (λ_ _=>rfl)))
local macro_rules | `(↥100)=>`((f.heap.push { cls:=dW "list_iterator",data:=i8 #[aW a,fh 0 0] }))
local macro_rules | `(↥101)=>`((λb o hb e=>eb b o hb e))
local macro_rules | `(↥102)=>`((aH _ (aH _ (qU a e))))
local macro_rules | `(↥103)=>`(((ju rs).length:Int))
local macro_rules | `(↥104)=>`((∀b o,b∉wr->b≠S->s.heap.get? b=some o->h'.get? b=some o))
local macro_rules | `(↥105)=>`((jy (jM J) (pv 0) jr (λ_ _=>rfl)))
local macro_rules | `(↥106)=>`((.tup [.int Z,.int X]))
local macro_rules | `(↥107)=>`((jm (jd K) (pv 3) j4 (λ_ _=>rfl)))
local macro_rules | `(↥108)=>`((∀x c,X.env.cells.lookup x=some c->c≠b))
local macro_rules | `(↥109)=>`((∀z H',N z H'->∃G,G<m/\W (i+1) G z H'))
local macro_rules | `(↥110)=>`((ts.length:Int))
local macro_rules | `(↥111)=>`((ms.map (·.1)))
local macro_rules | `(↥112)=>`((∀z,good (qV wr g.rows z)=true))
local macro_rules | `(↥113)=>`((jA xW (pv 5) j4 (jF _)))
local macro_rules | `(↥114)=>`((thn (hi pins s σ H _ I h) λv s1 h1=>thn h1 λo r h2=>?_))
local macro_rules | `(↥115)=>`((z pins s σ H _ I h))
local macro_rules | `(↥116)=>`((j pins s σ H _ I h))
local macro_rules | `(↥117)=>`((λw b=>vI c d r fs w (by simpa using b)))
local macro_rules | `(↥118)=>`((∀r∈rs,r.2.length<=100))
local macro_rules | `(↥119)=>`((List.getElem?_eq_some_iff.mp e))
local macro_rules | `(↥120)=>`((.tup [.int q.1,.int q.2.1,.int q.2.2.1,.int q.2.2.2.sum]))
local macro_rules | `(↥121)=>`((Addr×List (Int×Int)))
local macro_rules | `(↥122)=>`((j0 j4 (j0 j4 (j0 j4 j2))))
local macro_rules | `(↥123)=>`((.Call (.Attribute o m apos) [] [] pos))
local macro_rules | `(↥124)=>`((bH "list" #[] 0))
local macro_rules | `(↥125)=>`((jz (show ↥79≠bA (ao "grounds") by decide +kernel)))
local macro_rules | `(↥126)=>`((.ins C dx fs))
local macro_rules | `(↥127)=>`((il pos (dS [] X.env)))
local macro_rules | `(↥128)=>`((.builtin "getset_descriptor.__get__"))
local macro_rules | `(↥129)=>`((ns.map V.int))
local macro_rules | `(↥130)=>`((·.setIfInBounds 1 (aW g1.objs.size)))
local macro_rules | `(↥131)=>`((j9 (xV bP j z rfl zH rfl (j0 jr j2))))
local macro_rules | `(↥132)=>`((HO.ins C dx ↥0))
local macro_rules | `(↥133)=>`(((ja c.rs wy).length:Int))
local macro_rules | `(↥134)=>`((jx (jB j gd.length (0+(y:Int))) (qL j gd wr ts 0 y)))
local macro_rules | `(↥135)=>`((wpAny_pure ⟨_,rfl,wpAny_pure h⟩))
local macro_rules | `(↥136)=>`((0<=y+js ns y-one/\y+js ns y-one<len))
local macro_rules | `(↥137)=>`((by simp only [az] <;> omega))
local macro_rules | `(↥138)=>`((je j (a.mono ⋯) rfl ↥15))
local macro_rules | `(↥139)=>`(((d6 w.params).nsMap mainGlobals "__annotations__"))
local macro_rules | `(↥140)=>`((sG PySem.Challenge.pw_firnfall_k32_sums_of_a_year))
local macro_rules | `(↥141)=>`((b∈X.ex\/X.s₀.heap.objs.size<=b))
local macro_rules | `(↥142)=>`((∃m,W 0 m (vj own caps σ) (upd H acc (.lst []))))
local macro_rules | `(↥143)=>`(((d.map λi=>ns.getD i 0).map V.int))
local macro_rules | `(↥144)=>`((λ_ _ _ _ _=>(pv 0)))
local macro_rules | `(↥145)=>`(((ju rs).map λh=>(qT rs h).reverse))
local macro_rules | `(↥146)=>`((.type "list"))
local macro_rules | `(↥147)=>`((ug CX P w K mg base N j scope f z A outer s H E))
local macro_rules | `(↥148)=>`((.tup [.int q.1,.int q.2.1,.int q.2.2.1,.ref dl]))
local macro_rules | `(↥149)=>`((λy=>hc (by simp [y])))
local macro_rules | `(↥150)=>`((Ext.put.trans Ext.put))
local macro_rules | `(↥151)=>`((List Key×Addr×aj))
local macro_rules | `(↥152)=>`((upd H s.heap.objs.size (.lst [])))
local macro_rules | `(↥153)=>`((c.lds.set n (a,zi ns y m)))
local macro_rules | `(↥154)=>`((jy (jM m) (pv 2) jr (λ_ _=>rfl)))
local macro_rules | `(↥155)=>`((jy (jM b) (pv 0) jr (λ_ _=>rfl)))
local macro_rules | `(↥156)=>`((cxH P w K mg base N z (j7 st) f j A outer s H))
set_option hygiene true
section
namespace HO
open PySem PySem.W PyProof.Rows PySem.Calls PySem.Spec
def view:Program:={ PySem.Challenge.pw_firnfall_k32_sums_of_a_year with main:={ PySem.Challenge.pw_firnfall_k32_sums_of_a_year.main with body:=(PySem.Challenge.pw_firnfall_k32_sums_of_a_year.main.body).drop 81 } }
def loose:List Str:=[ao "_wall",ao "FirnError",ao "BadValley",ao "BadRound",ao "BadWeather",ao "BadYear",ao "BadSurge",ao "BadHand",ao "NoLane",ao "NoPlace",ao "MOST_REACHES",ao "MOST_HEIGHTS",ao "GREATEST_HEIGHT",ao "MOST_LANES",ao "LONGEST_LANE",ao "is_valley",ao "is_reach",ao "leads_on",ao "fits",ao "lanes",ao "way_down",ao "way_of",ao "count_places",ao "heights",ao "HIGHEST_LINE",ao "MOST_HANDS",ao "MOST_ROWS",ao "is_weather",ao "is_round",ao "change",ao "LAST_TOLD",ao "LAST_ASKED",ao "GREATEST_SURGE",ao "check_told",ao "check_asked",ao "check_round",ao "Ice",ao "settled",ao "course",ao "year_row",ao "sums",ao "so_far",ao "total",ao "_law_box",ao "_law_mixed",ao "_law_take",ao "_law_whole",ao "_law_alike",ao "_law_far",ao "_law_odd",ao "_law_weather",ao "_law_round",ao "_law_ground_drawn",ao "_law_reaches",ao "_law_roads",ao "_law_ground",ao "_law_year",ao "_law_scene",ao "_law_made",ao "_law_row",ao "_law_wish",ao "_law_ride",ao "_law_marks",ao "_law_spot",ao "_law_refused",ao "_law_due_spot",ao "_law_bent_spot",ao "_law_life",ao "_law_span",ao "_law_depths",ao "_law_depth",ao "_law_life_at",ao "_law_far_sums",ao "_law_try_sums"]
section
local macro_rules | `(tactic| o_head $H)=>`(tactic| (have hook:=$H;assumption))
theorem frag (j: (↥83).Holds): (↥83).Holds:=by
 k_head
end
def asL:List Addr:=[2,3,15,17,18,20,21,22,29,30,31,32,35,42,43,44,47,54,55,56,59,66,67,68,71,78,79,80,83,90,91,92,95,102,103,104,107,114,115,116,119,126,127,128,131,134,135,136,139,140,141,143,144,146,147,148,151,152,153,156,157,158,160,161,163,164,165,167,168,170,171,172,175,176,177,180,181,182,184,185,187,188,189,192,193,194,196,197,199,200,201,203,204,206,207,208,210,211,213,214,215,217,218,220,221,229,232,233,234,236,237,239,240,241,243,244,246,247,248,250,251,253,254,255,257,258,260,261,262,264,265,267,268,269,271,272,274,275,276,278,279,281,282,283,285,286,288,289,290,292,293,295,296,297,299,300,302,303,304,306,307,309,310,311,313,314,316,317,318,321,322,323,326,327,328,330,331,333,334,335,337,338,340,341,342,344,345,347,348,349,350,351,352,353,356,359,360,361,364,365,366,368,369,371,372,373,375,376,378,379,380,383,384,385,388,389,390,392,393,395,396,397,399,400,402,403,404,406,407,409,410,411,413,414,416,417,418,421,422,423,425,426,428,429,430,432,433,435,436,437,439,440,442,443,444,447,448,449,452,453,454,457,458,459,462,463,464,466,467,469,470,471,473,474,476,477,478,481,482,483,485,486,488,489,490,492,493,495,496,497,499,500,502,503,504,507,508,509,512,513,514,516,517,519,520,521,524,525,526,528,529,531,532,533,535,536,538,539,540,542,543,545,546,547,550,551,552,555,556,557,560,561,562,564,565,567,568,569,572,573,574,576,577,579,580,581,584,585]
theorem asE (P:Ab):asL=(frag.heap_1 P).map (·.1):=by kernel_rfl
def EC:List Obj->Nat->BT->BT
 | [],_,t=>t
 | o::r,n,t=>EC r (n+1) (t.ins n o)
noncomputable def s0T (w:bD) (os:mB):SharedT:=⟨EC (d6 w.params).objs.toList 0 .nil,(d6 w.params).objs.size,(d6 w.params).life,pq [],oI,boot_toks,os⟩
noncomputable def topT (w:bD) (os:mB):Option (Flow×SharedT×Code×Pos):=PySem.W.Fast.tw10110043849684766642 PySem.W.Fast.tw14364793385576792824 PySem.Challenge.pw_firnfall_k32_sums_of_a_year w (d6 w.params).objs.size ↥139 0 12000 (s0T w os) ↥140
noncomputable def top (w:bD) (os:mB):Option Shared:=(topT w os).map λr=>r.2.1.abs
def xt (s:Shared):Bool:=xlAt view [] s && recOk (RowW.records (OpenRow.toRowW ↥83)) s
theorem ran2 (w:bD) (os:mB):(top w os).map (λs=>(asL.map s.heap.get?,[154].map s.heap.get?))=some ((frag.heap_1 w.params).map λp=>some p.2,[154].map λ_=>some (sI #[])):=by kernel_rfl
theorem ws:OpenLaw.wellSaid PySem.Challenge.rw_firnfall_k32_sums_of_a_year=true:=by kernel_rfl
theorem ran1 (w:bD) (os:mB):(top w os).map (λs=>tZ view loose ↥43 xt true s)=some (A0 view loose):=by kernel_rfl
theorem ran0 (w:bD) (os:mB):(top w os).map (λs=>rn ↥43 (d6 w.params) s.heap && oJ PySem.Challenge.pw_firnfall_k32_sums_of_a_year s.heap && sJ s && sL (d6 w.params) s.heap)=some true:=by kernel_rfl
theorem Gp (w:bD) (os:mB):(s0T w os).abs=⟨d6 w.params,pq [],oI,boot_toks,os⟩:=by kernel_rfl
theorem XT {m:Nat}:∀{n:Nat}{s s':Shared}{t:Thread}{f:Flow}{c:Code}{q:Pos},segRun tb p w m j 0 n s t=some (f,s',c,q)->tU tb p w m j n s t=some s'
 | 0,_,_,_,_,_,_,h=>by cases h
 | n+1,s,s',t,f,c,q,h=>by
  unfold segRun at h
  unfold tU
  cases d:endAt 0 t with
  | some x =>
   rw [d] at h
   have g:through t=true:=by
    obtain ⟨e,code,pos,st⟩:=t
    cases st with
    | cons a b=>cases d
    | nil =>
     unfold endAt at d
     unfold through
     split at d
     ·rename_i _ _ _ _ u
      have l:e=_:=u
      subst l
      rfl
     ·cases d
   rw [g]
   cases h
   rfl
  | none =>
   rw [d] at h
   have g:through t=false:=by
    obtain ⟨e,code,pos,st⟩:=t
    cases st with
    | cons a b=>rfl
    | nil =>
     cases e <;> first | rfl | (rename_i x;cases x <;> first | rfl | cases d)
   rw [g]
   cases k:stepOk m j t with
   | false=>rw [k] at h;cases h
   | true =>
    rw [k] at h
    cases i:step (denote tb) p w s t with
    | halt o r=>rw [i] at h;cases h
    | go r v=>rw [i] at h;exact XT h
theorem VE {os:mB}(e:top w os=some s):tU tQ PySem.Challenge.pw_firnfall_k32_sums_of_a_year w (d6 w.params).objs.size ↥139 12000 ⟨d6 w.params,pq [],oI,boot_toks,os⟩ ↥140=some s:=by
 obtain ⟨⟨f,b,c,q⟩,h,rfl⟩:=Option.map_eq_some_iff.mp e
 have h2:segRunT tQ PySem.Challenge.pw_firnfall_k32_sums_of_a_year w (d6 w.params).objs.size ↥139 0 12000 (s0T w os) ↥140=some (f,b,c,q):=by
  rw [PySem.W.Fast.te10110043849684766642,PySem.W.Fast.te14364793385576792824]
  exact h
 have a:=XT (segRun_of h2)
 rw [Gp] at a
 exact a
theorem Gx (w:bD):((d6 w.params).isNs mainGlobals && (pq []:Array GenState).size == 0)=true:=by kernel_rfl
theorem Qu {N:Nat}{h:Heap}{j d k os}(U:(h.isNs mainGlobals && j.size == 0)=true) (z:tU tb p w h.objs.size (h.nsMap mainGlobals "__annotations__") N ⟨h,j,d,k,os⟩ (sG p)=some s) (G:(rn (dN p.main.body) h s.heap && oJ p s.heap && sJ s && sL h s.heap)=true):topFrom tb p w N ⟨h,j,d,k,os⟩=some s:=by
 unfold topFrom
 rw [U]
 show ((tU tb p w h.objs.size (h.nsMap mainGlobals "__annotations__") N ⟨h,j,d,k,os⟩ (sG p)).bind _)=_
 rw [z]
 show (match rn (dN p.main.body) h s.heap && oJ p s.heap && sJ s && sL h s.heap with | true=>some s | false=>none)=_
 rw [G]
theorem Yz {N:Nat}(a:fencedOpening tb p w N=some j) (t:topFrom tb p w N j=some s):A1 tb p w N=some s:=by
 unfold A1
 rw [a]
 exact t
theorem left:LeftO (↥83).prog view loose xt (Hook.obs (rp frag.heap_1 asL asE [154])) (Hook.val (rp frag.heap_1 asL asE [154])) 12000:=λw=>by
 obtain ⟨⟨h,m,d,k,os⟩,a,b⟩:=Option.map_eq_some_iff.mp (boot_open (p:=PySem.Challenge.pw_firnfall_k32_sums_of_a_year) (N:=12000) (by kernel_rfl) ⋯ (λs=>by kernel_rfl) w)
 obtain ⟨rfl,rfl,rfl,rfl⟩:h=d6 w.params/\m=pq []/\d=oI/\k=boot_toks:=by simpa using b
 have c:=ran0 w os
 have h1:=ran1 w os
 have h2:=ran2 w os
 cases e:top w os with
 | none=>rw [e] at h1;cases h1
 | some s =>
  rw [e] at c h1 h2
  have l:(rn ↥43 (d6 w.params) s.heap && oJ PySem.Challenge.pw_firnfall_k32_sums_of_a_year s.heap && sJ s && sL (d6 w.params) s.heap)=true:=aI c
  have j:tZ view loose ↥43 xt true s=A0 view loose:=aI h1
  obtain ⟨i,g⟩:=Prod.mk.inj (aI h2)
  have f:asL.map s.heap.get? = (frag.heap_1 w.params).map λp=>some p.2:=i
  have t:=Yz a (Qu (Gx w) (VE e) l)
  show (A1 tQ PySem.Challenge.pw_firnfall_k32_sums_of_a_year w 12000).map _=_
  rw [t]
  show some (tZ view loose ↥43 xt true s,(asL.map s.heap.get?,[154].map s.heap.get?))=some (A0 view loose,_)
  rw [j,f,g]
  rfl
end HO
end
noncomputable section
namespace L2
noncomputable abbrev Key:=Sum Int Str
noncomputable def JE:Key->aj->Bool
 | .inl k,v=>Value.isInt k v
 | .inr x,v=>tG x v
noncomputable def keyH (w:bD):Key->Int
 | .inl k=>hashInt k
 | .inr x=>hashStr w x
theorem qQ:∀{k:Key}{v:aj},JE k v=true->(∃i t,k=eR i/\v=fh i t)\/(∃x t,k=bA x/\v=oj x t)
 | .inl i,v,h=>by
  obtain ⟨t,e⟩:=lT (k:=i) (v:=v) h
  exact .inl ⟨i,t,rfl,e⟩
 | .inr x,v,h=>by
  obtain ⟨t,e⟩:=ow (x:=x) (v:=v) h
  exact .inr ⟨x,t,rfl,e⟩
theorem YJ (i:Int) (t:Tok):JE (.inl i) (.int i t)=true:=by simp [JE,Value.isInt]
theorem Vd (x:Str) (t:Tok):JE (.inr x) (.str x t)=true:=by simp [JE,tG]
theorem WK (a b:Int):decide ((eR a:Key)=eR b)=(a == b):=by
 by_cases e:a=b
 ·subst e;simp
 ·have h:¬(eR a:Key)=eR b:=λq=>e (fD q)
  rw [decide_eq_false h]
  exact (beq_eq_false_iff_ne.mpr e).symm
theorem G9 (a b:Str):decide ((bA a:Key)=bA b)=decide (a=b):=by
 by_cases e:a=b
 ·subst e;simp
 ·have h:¬(bA a:Key)=bA b:=λq=>e (Sum.inr.inj q)
  rw [decide_eq_false h,decide_eq_false e]
theorem GL (a:Int) (b:Str):decide ((eR a:Key)=bA b)=false:=decide_eq_false (λq=>nomatch q)
theorem WF (a:Str) (b:Int):decide ((bA a:Key)=eR b)=false:=decide_eq_false (λq=>nomatch q)
noncomputable def jP (prog:Program) (w:bD):PySem.KeyKind prog w Key where
 is:=JE
 hash:=keyH w
 inj:=λv a b ha hb=>by
  rcases qQ ha with ⟨i,t,rfl,rfl⟩ | ⟨x,t,rfl,rfl⟩
  ·rcases qQ hb with ⟨j,u,rfl,e⟩ | ⟨y,u,rfl,e⟩
   ·injection e with e1 _;rw [e1]
   ·exact nomatch e
  ·rcases qQ hb with ⟨j,u,rfl,e⟩ | ⟨y,u,rfl,e⟩
   ·exact nomatch e
   ·injection e with e1 _;rw [e1]
 byValue:=λk v h=>by
  rcases qQ h with ⟨i,t,rfl,rfl⟩ | ⟨x,t,rfl,rfl⟩ <;> rfl
 pyHash:=λhv h=>by
  rcases qQ hv with ⟨i,t,rfl,rfl⟩ | ⟨x,t,rfl,rfl⟩
  ·exact wpAny_pyHash_int h
  ·exact wpAny_pyHash_str h
 eqBool:=λhu hv h=>by
  rcases qQ hu with ⟨i,t,rfl,rfl⟩ | ⟨x,t,rfl,rfl⟩
  ·rcases qQ hv with ⟨j,u,rfl,rfl⟩ | ⟨y,u,rfl,rfl⟩
   ·rw [WK] at h;exact me h
   ·rw [GL] at h;exact oK i t y u _ _ _ _ h
  ·rcases qQ hv with ⟨j,u,rfl,rfl⟩ | ⟨y,u,rfl,rfl⟩
   ·rw [WF] at h;exact oM x t j u _ _ _ _ h
   ·rw [G9] at h;exact wpAny_eqBool_str h
 «strs»:=λk x t v h=>by
  rcases qQ h with ⟨i,u,rfl,e⟩ | ⟨y,u,rfl,e⟩
  ·exact nomatch e
  ·injection e with e1 _
   subst e1
   cases v <;> rfl
theorem QR (prog:Program) (w:bD) (i:Int) (t:Tok):(jP prog w).is (.inl i) (.int i t)=true:=YJ i t
theorem Xg (prog:Program) (w:bD) (x:Str) (t:Tok):(jP prog w).is (.inr x) (.str x t)=true:=Vd x t
end L2
namespace L2
inductive V where
 | non | bl (b:Bool) | int (i:Int) | str (x:Str) | byt (b:Array UInt8) | flt (b:UInt64) | ref (a:Addr) | ty (n:String)
 deriving DecidableEq
noncomputable def jH:V->aj->Prop
 | .non,u=>u=b8
 | .bl b,u=>u=mC b
 | .int i,u=>∃t,u=fh i t
 | .str x,u=>∃t,u=oj x t
 | .byt b,u=>∃t,u=Value.bytes b t
 | .flt b,u=>∃t,u=rT b t
 | .ref a,u=>u=aW a
 | .ty n,u=>u=dW n
noncomputable abbrev jI:List V->List aj->Prop:=cz jH
theorem jI.length {xs:List V}(r:jI xs us):xs.length=us.length:=aV r
theorem jI.get:∀{xs:List V}{us:List aj}{i:Nat}{x:V},jI xs us->xs[i]? = some x->∃u,us[i]? = some u/\jH x u
 | _,_,_,_,.nil,e=>by simp at e
 | _,_,0,_,.cons r _,e=>by simp at e;subst e;exact ⟨_,rfl,r⟩
 | _,_,i+1,x,.cons _ t,e=>by
  obtain ⟨u,h1,h2⟩:=jI.get (i:=i) (x:=x) t (by simpa using e)
  exact ⟨u,by simpa using h1,h2⟩
theorem jI.set {x:V}(r:jH x u):∀{xs:List V}{us:List aj}(i:Nat),jI xs us->jI (xs.set i x) (us.set i u)
 | _,_,_,.nil=>.nil
 | _,_,0,.cons _ t=>.cons r t
 | _,_,i+1,.cons q t=>.cons q (jI.set r i t)
theorem jI.append:∀{xs ys:List V}{us ws:List aj},jI xs us->jI ys ws->jI (xs++ys) (us++ws)
 | _,_,_,_,.nil,s=>s
 | _,_,_,_,.cons r t,s=>.cons r (jI.append t s)
theorem jI.take:∀{xs:List V}{us:List aj}(n:Nat),jI xs us->jI (xs.take n) (us.take n)
 | _,_,0,_=>.nil
 | _,_,_+1,.nil=>.nil
 | _,_,n+1,.cons r t=>.cons r (jI.take n t)
theorem jI.drop:∀{xs:List V}{us:List aj}(n:Nat),jI xs us->jI (xs.drop n) (us.drop n)
 | _,_,0,r=>r
 | _,_,_+1,.nil=>.nil
 | _,_,n+1,.cons _ t=>jI.drop n t
noncomputable def vo:Option V->Option aj->Prop
 | some v,some u=>jH v u
 | none,none=>True
 | _,_=>False
noncomputable def KV {κ:Type}:List (κ×V)->List (κ×aj)->Prop:=cz λ(p:κ×V) (q:κ×aj)=>p.1=q.1/\jH p.2 q.2
noncomputable def kV:Key->V
 | .inl i=>.int i
 | .inr x=>.str x
inductive HO where
  | lst (xs:List V)
  | tup (xs:List V)
  | dK (kvs:List (Key×V)) | dT (kvs:List (List Key×V))
  | set (S:Int->Bool) (n:Nat)
  | ins (C dx:Addr) (fs:List (Str×V))
  | own (x:Addr)
  | xd (fs:List (Str×V))
  | met (f x:Addr)
  | rng (lo hi:Int)
  | frz (o:Obj) (u:HO)
  | tbl (ps:Array aj)
  | ext (φ:Heap->Prop)
noncomputable abbrev Hp:=Addr->Option HO
noncomputable def upd (H:Hp) (a:Addr) (o:HO):Hp:=λb=>if b=a then some o else H b
theorem j6 :upd H a o a=some o:=by unfold upd;rw [if_pos rfl]
theorem j8 {a b:Addr}(h:b≠a):upd H a o b=H b:=by unfold upd;rw [if_neg h]
theorem jp {H:Hp}(h:H a=some o) (h':H b=some u) (d:o≠u):a≠b:=by
 intro e;subst e;rw [h] at h';exact d (aI h')
theorem j1 {H:Hp}(h:H a=some o) (h':H b=none):a≠b:=by
 intro e;subst e;rw [h] at h';cases h'
section
variable (P:Program) (w:bD)
noncomputable def qB (H:Hp) (h:Heap) (a:Addr):HO->Prop
 | .lst xs=>xs.length<=sizeLine/\∃(b:List aj) (n:Nat),jI xs b/\h.get? a=some { cls:=.type "list",data:=.seq b.toArray n }
 | .tup xs=>xs.length<=sizeLine/\∃b:List aj,jI xs b/\tR h a b.toArray
 | .dK kvs=>kvs.length<=sizeLine/\(a == eV)=false/\∃c,KV kvs c/\h.DictOf (jP P w) a c
 | .dT kvs=>kvs.length<=sizeLine/\(a == eV)=false/\∃xs:List ↥151,
   cz (λ(p:List Key×V) (q:List Key×Addr×aj)=>p.1=q.1/\H q.2.1=some (.tup (p.1.map kV))/\jH p.2 q.2.2) kvs xs /\
   ∃o es d,h.get? a=some o/\o.ExactDict/\o.data = .dict es d/\es.toList=xs.map (entryOfKey (mf (jP P w)))/\(xs.map (·.1)).Nodup
 | .set S n=>h.SetOf (intKind P w) a S n
 | .ins C dx fs=>H dx=some (.own a)/\fs.length<=1000/\dx≠a/\h.get? a=some (dq C dx) /\
   ∃mA,h.Ns1 dx mA/\(∀f,vo (fs.lookup f) (mA f))/\pw mA (fs.map (·.1))
 | .own _=>∃o,h.get? a=some o
 | .xd fs=>∃mA,h.Ns1 a mA/\∀f,vo (fs.lookup f) (mA f)
 | .rng lo hi=>∃t u v,h.get? a=some { cls:=.type "range",data:=.fields #[.int lo t,.int hi u,.int 1 v] }
 | .frz o u=>h.get? a=some o/\qB H h a u
 | .tbl ps=>h.get? a=some { cls:=.none,data:=.fields ps }
 | .met f x=>h.get? a=some (lU (.ref f) (.ref x))
 | .ext φ=>φ h/\(∃o,h.get? a=some o)/\∀h1 h2:Heap,φ h1->(∀o,h1.get? a=some o->h2.get? a=some o)->φ h2
noncomputable def HOk (H:Hp) (h:Heap):Prop:=∀a o,H a=some o->qB P w H h a o
end
section
variable {P:Program}{w:bD}{H H':Hp}{h h':Heap}{a:Addr}{o:HO}
theorem qB.lt (x:qB P w H h a o):a<h.objs.size:=by
 cases o with
 | lst xs=>obtain ⟨_,_,_,_,e⟩:=x;exact av e
 | tup xs=>obtain ⟨_,_,_,p⟩:=x;exact p.lt
 | dK kvs=>obtain ⟨_,_,_,_,o,_,_,e,_⟩:=x;exact av e
 | dT kvs=>obtain ⟨_,_,_,_,o,_,_,e,_⟩:=x;exact av e
 | set S n=>obtain ⟨o,_,_,_,e,_⟩:=x;exact av e
 | ins C dx fs=>obtain ⟨_,_,_,e,_⟩:=x;exact av e
 | own y=>obtain ⟨_,e⟩:=x;exact av e
 | xd fs=>obtain ⟨_,⟨_,_,_,e,_⟩,_⟩:=x;exact av e
 | rng lo hi=>obtain ⟨_,_,_,e⟩:=x;exact av e
 | frz b u=>obtain ⟨e,_⟩:=x;exact av e
 | tbl ps=>exact av (show h.get? a=some _ from x)
 | met f y=>exact av (show h.get? a=some _ from x)
 | ext φ=>obtain ⟨_,⟨_,e⟩,_⟩:=x;exact av e
theorem Paired.mapP {α β:Type}{F G:α->β->Prop}:∀{l₁:List α}{j:List β},cz F l₁ j->(∀a b,F a b->G a b)->cz G l₁ j
 | _,_,.nil,_=>.nil
 | _,_,.cons r t,f=>.cons (f _ _ r) (Paired.mapP t f)
theorem qB.stay (x:qB P w H h a o) (k:∀b u,(b=a\/H b=some (.own a))->h.get? b=some u->h'.get? b=some u)
  (U:∀b,H b=some (.own a)->H' b=some (.own a)) (G:∀b xs,H b=some (.tup xs)->H' b=some (.tup xs)):qB P w H' h' a o:=by
 induction o with
 | lst xs=>obtain ⟨z,j,n,r,e⟩:=x;exact ⟨z,j,n,r,k _ _ (.inl rfl) e⟩
 | tup xs=>obtain ⟨z,j,r,g,e,c⟩:=x;exact ⟨z,j,r,g,k _ _ (.inl rfl) e,c⟩
 | dK kvs=>obtain ⟨z,y,m,r,g,es,i,e,c⟩:=x;exact ⟨z,y,m,r,g,es,i,k _ _ (.inl rfl) e,c⟩
 | dT kvs =>
  obtain ⟨z,y,xs,r,g,es,i,e,c⟩:=x
  exact ⟨z,y,xs,Paired.mapP r λp q z=>⟨z.1,G _ _ z.2.1,z.2.2⟩,g,es,i,k _ _ (.inl rfl) e,c⟩
 | set S n=>obtain ⟨g,es,i,t,e,c⟩:=x;exact ⟨g,es,i,t,k _ _ (.inl rfl) e,c⟩
 | ins C dx fs =>
  obtain ⟨d,z,ne,e,mA,⟨l,es,i,A,c⟩,r⟩:=x
  exact ⟨U _ d,z,ne,k _ _ (.inl rfl) e,mA,⟨l,es,i,k _ _ (.inr d) A,c⟩,r⟩
 | own y=>obtain ⟨g,e⟩:=x;exact ⟨g,k _ _ (.inl rfl) e⟩
 | xd fs=>obtain ⟨mA,⟨l,es,i,e,c⟩,r⟩:=x;exact ⟨mA,⟨l,es,i,k _ _ (.inl rfl) e,c⟩,r⟩
 | rng lo hi=>obtain ⟨t,u,v,e⟩:=x;exact ⟨t,u,v,k _ _ (.inl rfl) e⟩
 | frz g u s=>obtain ⟨e,q⟩:=x;exact ⟨k _ _ (.inl rfl) e,s q⟩
 | tbl ps =>
  have e:h.get? a=some { cls:=.none,data:=.fields ps }:=x
  show h'.get? a=some { cls:=.none,data:=.fields ps }
  exact k a _ (.inl rfl) e
 | met f y =>
  have e:h.get? a=some (lU (.ref f) (.ref y)):=x
  show h'.get? a=some (lU (.ref f) (.ref y))
  exact k a _ (.inl rfl) e
 | ext φ=>obtain ⟨p,⟨o,e⟩,st⟩:=x;exact ⟨st _ _ p λo q=>k _ _ (.inl rfl) q,⟨o,k _ _ (.inl rfl) e⟩,st⟩
theorem HOk.lt (x:HOk P w H h) (e:H a=some o):a<h.objs.size:=(x a o e).lt
theorem HOk.fresh (x:HOk P w H h) (e:h.objs.size<=a):H a=none:=by
 cases q:H a with
 | none=>rfl
 | some u=>exact absurd (aT (x.lt q) e) (cp _)
theorem HOk.kept (x:HOk P w H h) (k:∀b u,h.get? b=some u->h'.get? b=some u):HOk P w H h':=λa o e =>
 (x a o e).stay (λb u _ q=>k b u q) (λ_ q=>q) λ_ _ q=>q
theorem HOk.laid (x:HOk P w H h) (k:∀b u,h.get? b=some u->h'.get? b=some u) (j:h.objs.size<=a) (new:qB P w (upd H a o) h' a o):HOk P w (upd H a o) h':=λb u e=>by
 have d:=x.fresh j
 by_cases f:b=a
 ·subst f;rw [j6] at e;cases e;exact new
 ·rw [j8 f] at e
  exact (x b u e).stay (λc v _ q=>k c v q) (λc q=>by rw [j8 (j1 q d)];exact q) λc xs q=>by rw [j8 (j1 q d)];exact q
end
noncomputable def Rd (H:Hp) (a:Addr) (u:HO):Prop:=H a=some u\/∃o,H a=some (.frz o u)
theorem Rd.ok {w:bD}(r:Rd H a u) (x:HOk P w H h):qB P w H h a u:=by
 rcases r with r | ⟨o,r⟩
 ·exact x a u r
 ·obtain ⟨_,q⟩:=x a _ r
  exact q
noncomputable def Mut:Option HO->Prop
 | some (.lst _)=>True
 | some (.dK _)=>True
 | some (.dT _)=>True
 | some (.set _ _)=>True
 | some (.ins _ _ _)=>True
 | some (.ext _)=>True
 | _=>False
section
variable {P:Program}{w:bD}{H:Hp}{h h':Heap}{x e:Addr}{o':HO}
theorem HOk.write (ok:HOk P w H h) (j:Mut (H x)) (U:e=x\/H e=some (.own x)) (k:∀b u,b≠e->h.get? b=some u->h'.get? b=some u) (G:∃u,h'.get? e=some u)
  (new:qB P w (upd H x o') h' x o'):HOk P w (upd H x o') h':=λb u q=>by
 have d:∀c y,H c=some (.own y)->c≠x:=λc y r z=>by subst z;rw [r] at j;exact j
 have g:∀c xs,H c=some (.tup xs)->c≠x:=λc xs r z=>by subst z;rw [r] at j;exact j
 by_cases f:b=x
 ·subst f;rw [j6] at q;cases q;exact new
 ·rw [j8 f] at q
  by_cases a:b=e
  ·have i:H b=some (.own x):=by
    rcases U with z | z
    ·exact absurd (a.trans z) f
    ·rw [a];exact z
   rw [q] at i;cases i
   obtain ⟨v,l⟩:=G
   exact ⟨v,by rw [a];exact l⟩
  ·refine (ok b u q).stay (λc v hc r=>k c v ?_ r) (λc r=>by rw [j8 (d c b r)];exact r) λc xs r=>by rw [j8 (g c xs r)];exact r
   rcases hc with rfl | hc
   ·exact a
   ·rintro rfl
    rcases U with z | z
    ·exact d c b hc z
    ·rw [hc] at z;cases z;exact f rfl
end
structure Un (fs ex:List Addr) (H H':Hp) (h h':Heap):Prop where
 keep:∀b o,h.get? b=some o->H b=none->b∉fs->b∉ex->h'.get? b=some o
 slot:∀b o,h.get? b=some o->H b=none->b∈fs->b∉ex->∃sl,h'.get? b=some { o with slots:=sl }
 free:∀b o,h.get? b=some o->H b=none->b∉ex->H' b=none
 there:∀b o,h.get? b=some o->b∉ex->∃o',h'.get? b=some o'
 tups:∀b xs,H b=some (.tup xs)->H' b=some (.tup xs)
 frzs:∀b o u,H b=some (.frz o u)->H' b=some (.frz o u)
 tbls:∀b ps,H b=some (.tbl ps)->∃more,H' b=some (.tbl (ps++more))
section
variable {fs fs' ex ex':List Addr}{H H1 H2:Hp}{h h1 h2 h':Heap}{a x e:Addr}{o:HO}
theorem Un.any (u:Un fs ex H H1 h h1) {b:Addr}{j:Obj}(q:h.get? b=some j) (n:H b=none) (z:b∉ex):∃G,h1.get? b=some { j with slots:=G }:=by
 by_cases a:b∈fs
 ·exact u.slot b j q n a z
 ·exact ⟨j.slots,u.keep b j q n a z⟩
theorem Un.kept (k:∀b u,h.get? b=some u->h'.get? b=some u):Un fs ex H H h h' :=
 ⟨λb a q _ _ _=>k b a q,λb a q _ _ _=>⟨a.slots,k b a q⟩,λ_ _ _ n _=>n,λb a q _=>⟨a,k b a q⟩,λ_ _ q=>q,λ_ _ _ q=>q,λ_ ps q=>⟨#[],by rw [q];simp⟩⟩
theorem Un.refl:Un fs ex H H h h:=Un.kept λ_ _ q=>q
theorem Un.laid (k:∀b u,h.get? b=some u->h'.get? b=some u) (hp:h.objs.size<=a) (hn:H a=none):Un fs ex H (upd H a o) h h' where
 keep:=λb u q _ _ _=>k b u q
 slot:=λb u q _ _ _=>⟨u.slots,k b u q⟩
 free:=λb u q n _=>by rw [j8 (aD (aT (av q) hp))];exact n
 there:=λb u q _=>⟨u,k b u q⟩
 tups:=λb xs q=>by rw [j8 (j1 q hn)];exact q
 frzs:=λb u xs q=>by rw [j8 (j1 q hn)];exact q
 tbls:=λb ps q=>⟨#[],by rw [j8 (j1 q hn),q];simp⟩
theorem Un.write (j:Mut (H x)) (U:e=x\/H e=some (.own x)) (k:∀b u,b≠e->h.get? b=some u->h'.get? b=some u) (G:∃u,h'.get? e=some u):Un fs ex H (upd H x o) h h':=by
 have d:∀b,H b=none->b≠x:=λb n z=>by subst z;rw [n] at j;exact j
 have f:∀b,H b=none->b≠e:=λb n z=>by
  subst z
  rcases U with r | r
  ·exact d b n r
  ·rw [n] at r;cases r
 have c:∀b u,H b=some u->¬Mut (some u)->b≠x:=λb u q nm z=>by subst z;rw [q] at j;exact nm j
 refine ⟨λb u q n _ _=>k b u (f b n) q,λb u q n _ _=>⟨u.slots,k b u (f b n) q⟩,λb u q n _=>by rw [j8 (d b n)];exact n,λb u q _=>?_,
  λb xs q=>by rw [j8 (c b _ q λz=>z)];exact q,λb u xs q=>by rw [j8 (c b _ q λz=>z)];exact q,λb ps q=>⟨#[],by rw [j8 (c b _ q λz=>z),q];simp⟩⟩
 by_cases a:b=e
 ·subst a;exact G
 ·exact ⟨u,k b u a q⟩
end
noncomputable def trk (h:Heap) (H:Hp):List Addr:=(aM h.objs.size).filter λa=>(H a).isSome
noncomputable def Jc (h:Heap) (H:Hp):Heap:=PySem.W.hideAll h (trk h H)
theorem YG (h:Heap) (H:Hp):(Jc h H).objs.size=h.objs.size:=PySem.W.hideAll_size _ _
theorem VJ {h:Heap}{H:Hp}{b:Addr}(e:h.get? b=some o) (n:H b=none):(Jc h H).get? b=some o :=
 PySem.W.hideAll_get _ e λa=>by
  have q:(H b).isSome=true:=(List.mem_filter.mp a).2
  rw [n] at q;simp at q
theorem UU {b:Addr}(e:(Jc h H).get? b=some o):h.get? b=some o/\H b=none:=by
 have a:h.get? b=some o:=PySem.W.of_hideAll (trk h H) e
 refine ⟨a,?_⟩
 cases q:H b with
 | none=>rfl
 | some x =>
  have c:b∈trk h H:=List.mem_filter.mpr ⟨List.mem_range.mpr (av a),by simp [q]⟩
  have z:(Jc h H).get? b=none:=PySem.W.hideAll_none (trk h H) c
  rw [z] at e;cases e
noncomputable def UC (g h:Heap) (L:Addr):List (Addr×Obj):=(aM h.objs.size).filterMap λa=>if a=L\/(g.get? a).isSome=true then none else (h.get? a).map λo=>(a,o)
noncomputable def vn (g h:Heap) (L d:Addr):List (Addr×Obj):=(UC g h L).filter λp=>decide (p.1≠d)
end L2
namespace L2
structure Mod (K:ah) (mg:Str->Option aj) (base:Heap):Prop where
 kin:K.In base
 glob:base.Ns mainGlobals mg
 blt:∃mb,base.Ns mD mb/\∀x:Str,x ≠ "__name__" -> mb x=fM x
 nolimit:base.NoLimit
structure Cx where
 prog:Program
 w:bD
 K:ah
 mg:Str->Option aj
 base:Heap
 A:bF
 N:List Str
 s₀:Shared
 H₀:Hp
 env:Env
 outer:List Env
 stack:List Env
 ex:List Addr
 fn:Str->Bool
 calm:Bool
 pn:List (Addr×Obj)
 xe:aj->Shared->Prop
noncomputable def frs (l:List Env):List Addr:=l.filterMap (·.frame)
noncomputable abbrev Cx.fs (X:Cx):List Addr:=frs X.outer
noncomputable def Vis (j:Scope) (x:Str):Prop:=j.names.lookup x=some .local\/j.names.lookup x=some .cell\/j.names.lookup x=some .free
noncomputable def Loc (j:Scope) (x:Str):Prop:=j.names.lookup x=some .local\/j.names.lookup x=some .cell
noncomputable def Look (env:Env) (h:Heap) (m:Str->Option aj) (x:Str) (u:aj):Prop :=
 (env.kindOf x=some .local/\m x=some u)\/((env.kindOf x=some .cell\/env.kindOf x=some .free)/\∃c,env.cells.lookup x=some c/\h.IsCell c (some u))
structure Cx.Ok (X:Cx):Prop where
 mod:Mod X.K X.mg X.base
 kind:X.env.scope.kind = .function
 glob:X.env.globals=mainGlobals
 blt:X.env.builtins=mD
 above:X.s₀.heap.objs.size<=X.env.locals
 inj:∀x y c,X.env.cells.lookup x=some c->X.env.cells.lookup y=some c->x=y
 has:∀x,(X.env.kindOf x=some .cell\/X.env.kindOf x=some .free)->∃c,X.env.cells.lookup x=some c
 cab:∀x c,X.fn x=true->X.env.cells.lookup x=some c->X.s₀.heap.objs.size<=c
 hd:X.calm=true->X.A.handled=none
 frames:X.A.frames=some X.stack
 stk:X.stack=X.outer\/(X.stack=X.env::X.outer/\X.env.frame=some X.env.locals)
 exf:∀b∈X.ex,b≠X.env.locals/\∀x c,X.env.cells.lookup x=some c->c≠b
 bs:∀b o,X.base.get? b=some o->X.s₀.heap.get? b=some o/\X.H₀ b=none
 bsz:X.base.objs.size<=X.s₀.heap.objs.size
 noex:∀b o,X.base.get? b=some o->b∉X.ex
 exfs:∀b∈X.ex,b∉X.fs
 funs:X.s₀.heap.FunFrames X.base X.outer
 frf:∀b∈X.fs,X.H₀ b=none
structure Inv (X:Cx) (pins:List (Addr×Obj)) (σ:List (Option V)) (H:Hp) (s:Shared):Prop where
 ok:X.Ok
 os:s.os=X.s₀.os
 bare:iP s.gens
 base:Un X.fs X.ex X.H₀ H X.s₀.heap s.heap
 loc:∃m,s.heap.Ns X.env.locals m/\∀(i:Nat) (x:Str) (v:V),X.N[i]? = some x->σ[i]? = some (some v)->Vis X.env.scope x->∃u,jH v u/\Look X.env s.heap m x u
 cell:∀x c,X.env.cells.lookup x=some c->∃v,s.heap.IsCell c v
 free:H X.env.locals=none
 freeC:∀x c,X.env.cells.lookup x=some c->H c=none
 pin:∀p∈X.pn++pins,s.heap.get? p.1=some p.2/\H p.1=none/\p.1≠X.env.locals/\p.1∉X.fs/\∀v,p.2.data≠.cell v
 hok:HOk X.prog X.w H s.heap
 len:σ.length=X.N.length
section
variable {X:Cx}{pins:List (Addr×Obj)}{σ:List (Option V)}{H H':Hp}{s:Shared}{h':Heap}
theorem Cx.Ok.nofr (ok:X.Ok) {b:Addr}(e:X.base.get? b=some o):b∉X.fs:=λa=>by
 have:=(ok.funs.mem a).1
 rw [e] at this;cases this
theorem Inv.bs (I:Inv X pins σ H s):∀b o,X.base.get? b=some o->s.heap.get? b=some o/\H b=none:=λb o e =>
 ⟨I.base.keep b o (I.ok.bs b o e).1 (I.ok.bs b o e).2 (I.ok.nofr e) (I.ok.noex b o e),I.base.free b o (I.ok.bs b o e).1 (I.ok.bs b o e).2 (I.ok.noex b o e)⟩
theorem Inv.bk (I:Inv X pins σ H s):∀b o,X.base.get? b=some o->s.heap.get? b=some o:=λb o e=>(I.bs b o e).1
theorem Inv.mod (I:Inv X pins σ H s):Mod X.K X.mg X.base:=I.ok.mod
theorem Inv.kIn (I:Inv X pins σ H s):X.K.In s.heap:=I.ok.mod.kin.keeps I.bk
theorem Inv.lt (I:Inv X pins σ H s):X.env.locals<s.heap.objs.size:=let ⟨_,a,_⟩:=I.loc;a.lt
theorem Inv.sz (I:Inv X pins σ H s):X.s₀.heap.objs.size<=s.heap.objs.size:=aK I.ok.above (dA I.lt)
theorem Inv.nofs (I:Inv X pins σ H s) {a:Addr}(h:s.heap.objs.size<=a):a∉X.fs:=λc=>by
 obtain ⟨_,o,b,_⟩:=I.ok.funs.mem c
 exact absurd (aT (av b) (aK I.sz h)) (cp _)
theorem Inv.cne (I:Inv X pins σ H s):∀x c,X.env.cells.lookup x=some c->c≠X.env.locals:=λx c e z=>by
 obtain ⟨v,o,b,f⟩:=I.cell x c e
 obtain ⟨m,⟨o',es,g,a,d,_⟩,_⟩:=I.loc
 rw [z,a] at b;cases b;rw [d] at f;cases f
theorem Inv.funs (I:Inv X pins σ H s):s.heap.FunFrames X.base X.outer:=by
 have all:∀(l:List Env),(∀b∈frs l,b∈X.fs)->X.s₀.heap.FunFrames X.base l->s.heap.FunFrames X.base l:=by
  intro l
  induction l with
  | nil=>intro _ _;trivial
  | cons env r g =>
   intro f k
   obtain ⟨m,⟨L,o,a,j,i,n⟩,h⟩:=k
   have d:L∈X.fs:=f L (by unfold frs;rw [fQ,a];exact aE)
   obtain ⟨p,e⟩:=I.base.slot L o i (I.ok.frf L d) d λz=>I.ok.exfs L z d
   exact ⟨m,⟨L,_,a,j,e,n⟩,g (λb c=>f b (by unfold frs;rw [fQ,a];exact aC _ c)) h⟩
 exact all X.outer (λ_ c=>c) I.ok.funs
theorem Inv.stack (I:Inv X pins σ H s):s.heap.FunFrames X.base X.stack:=by
 rcases I.ok.stk with e | ⟨e,b⟩
 ·rw [e];exact I.funs
 ·rw [e]
  obtain ⟨m,a,_⟩:=I.loc
  refine .cons (by rw [I.ok.kind];decide) b a ?_ I.funs
  exact Heap.get?_none_of_le (aK I.ok.bsz I.ok.above)
theorem Inv.stkSub (I:Inv X pins σ H s):∀b∈frs X.stack,b∈X.env.locals::X.fs:=λb a=>by
 rcases I.ok.stk with e | ⟨e,c⟩
 ·rw [e] at a;exact aC _ a
 ·rw [e] at a
  unfold frs at a
  rw [fQ,c] at a
  exact a
theorem Inv.stkFree (I:Inv X pins σ H s):∀b∈frs X.stack,H b=none:=λb hb=>by
 rcases List.mem_cons.mp (I.stkSub b hb) with e | hb
 ·rw [e];exact I.free
 ·obtain ⟨_,o,a,_⟩:=I.ok.funs.mem hb
  exact I.base.free b o a (I.ok.frf b hb) λz=>I.ok.exfs b z hb
theorem Inv.step {t':Nat}{d':Drawn}{ch:List Addr}(I:Inv X pins σ H s)
  (j:∀b∈ch,↥141/\b≠X.env.locals/\ ↥108/\∀p∈X.pn++pins,p.1≠b)
  (keep:∀b o,b≠X.env.locals->b∉X.fs->b∉ch->s.heap.get? b=some o->H b=none->h'.get? b=some o)
  (G:∀b o,b≠X.env.locals->b∈X.fs->b∉ch->s.heap.get? b=some o->H b=none->∃sl,h'.get? b=some { o with slots:=sl }) (free:∀b o,b∉ch->s.heap.get? b=some o->H b=none->H' b=none)
  (U:∀b o,b∉ch->s.heap.get? b=some o->∃o',h'.get? b=some o')
  (Y:∀b xs,H b=some (.tup xs)->H' b=some (.tup xs)) (ae:∀b o u,H b=some (.frz o u)->H' b=some (.frz o u)) (ab:∀b ps,H b=some (.tbl ps)->∃ac,H' b=some (.tbl (ps++ac)))
  (ns:∀m,s.heap.Ns X.env.locals m->h'.Ns X.env.locals m) (hok:HOk X.prog X.w H' h') (hg:iP g') :
  Inv X pins σ H' { s with heap:=h',gens:=g',drawn:=d',toks:=t' }:=by
 have neL:∀b o,X.s₀.heap.get? b=some o->b≠X.env.locals:=λb o e=>aD (aT (av e) I.ok.above)
 have t:∀b o,X.s₀.heap.get? b=some o->b∉X.ex->b∉ch:=λb o e a h=>by
  rcases (j b h).1 with z | z
  ·exact a z
  ·exact absurd (aT (av e) z) (cp _)
 have y:∀x c,X.env.cells.lookup x=some c->∀v,s.heap.IsCell c v->h'.IsCell c v:=λx c e v ⟨o,A,C⟩=>by
  have g:c∉ch:=λz=>(j c z).2.2.1 x c e rfl
  by_cases K:c∈X.fs
  ·obtain ⟨sl,q⟩:=G c o (I.cne x c e) K g A (I.freeC x c e)
   exact ⟨_,q,C⟩
  ·exact ⟨o,keep c o (I.cne x c e) K g A (I.freeC x c e),C⟩
 refine ⟨I.ok,I.os,hg,⟨λb o e n h a=>?_,λb o e n h a=>?_,λb o e n a=>?_,λb o e a=>?_,λb xs e=>Y b xs (I.base.tups b xs e),λb o xs e=>ae b o xs (I.base.frzs b o xs e),λb ps e=>?_⟩,?_,λx c e=>?_,?_,λx c e=>?_,λp J=>?_,hok,I.len⟩
 ·exact keep b o (neL b o e) h (t b o e a) (I.base.keep b o e n h a) (I.base.free b o e n a)
 ·obtain ⟨sl,f⟩:=I.base.slot b o e n h a
  obtain ⟨D,B⟩:=G b _ (neL b o e) h (t b o e a) f (I.base.free b o e n a)
  exact ⟨D,B⟩
 ·obtain ⟨o',f⟩:=I.base.there b o e a
  exact free b o' (t b o e a) f (I.base.free b o e n a)
 ·obtain ⟨o',f⟩:=I.base.there b o e a
  exact U b o' (t b o e a) f
 ·obtain ⟨M,f⟩:=I.base.tbls b ps e
  obtain ⟨L,B⟩:=ab b _ f
  exact ⟨M++L,by rw [B,Array.append_assoc]⟩
 ·obtain ⟨m,N,O⟩:=I.loc
  refine ⟨m,ns m N,λi x v f B P=>?_⟩
  obtain ⟨u,r,l⟩:=O i x v f B P
  refine ⟨u,r,?_⟩
  rcases l with l | ⟨k,c,e,z⟩
  ·exact .inl l
  ·exact .inr ⟨k,c,e,y x c e _ z⟩
 ·obtain ⟨v,z⟩:=I.cell x c e
  exact ⟨v,y x c e v z⟩
 ·obtain ⟨m,⟨o,_,_,A,_⟩,_⟩:=I.loc
  exact free _ o (λz=>(j _ z).2.1 rfl) A I.free
 ·obtain ⟨v,o,A,C⟩:=I.cell x c e
  exact free c o (λz=>(j c z).2.2.1 x c e rfl) A (I.freeC x c e)
 ·obtain ⟨e,n,ne,E,d⟩:=I.pin p J
  have g:p.1∉ch:=λz=>(j p.1 z).2.2.2 p J rfl
  exact ⟨keep p.1 p.2 ne E g e n,free p.1 p.2 g e n,ne,E,d⟩
theorem Inv.un {t':Nat}(I:Inv X pins σ H s) (u:Un X.fs [] H H' s.heap h') (hok:HOk X.prog X.w H' h'):Inv X pins σ H' { s with heap:=h',toks:=t' }:=by
 obtain ⟨m,⟨o,es,p,d,r⟩,_⟩:=id I.loc
 obtain ⟨k,j⟩:=u.any d I.free (by simp)
 exact I.step (g':=s.gens) (d':=s.drawn) (ch:=[]) (λ_ z=>nomatch z) (λb o _ c _ e n=>u.keep b o e n c (by simp)) (λb o _ c _ e n=>u.slot b o e n c (by simp)) (λb o _ e n=>u.free b o e n (by simp)) (λb o _ e=>u.there b o e (by simp)) u.tups u.frzs u.tbls (λl i=>by
  obtain ⟨o',f,g,a,h⟩:=i
  rw [d] at a;cases a
  exact ⟨_,f,g,j,h⟩) hok I.bare
theorem Inv.call {t':Nat}{d':Drawn}{ch:List Addr}(I:Inv X pins σ H s) (u:Un (frs X.stack) ch H H' s.heap h') (hok:HOk X.prog X.w H' h') (G:iP g')
  (j:∀b∈ch,↥141/\b≠X.env.locals/\ ↥108/\∀p∈X.pn++pins,p.1≠b) :
  Inv X pins σ H' { s with heap:=h',gens:=g',drawn:=d',toks:=t' }:=by
 obtain ⟨m,⟨o,es,y,g,r⟩,_⟩:=id I.loc
 obtain ⟨t,f⟩:=u.any g I.free λz=>(j _ z).2.1 rfl
 exact I.step (ch:=ch) j (λb o f q a e n=>u.keep b o e n (λz=>(List.mem_cons.mp (I.stkSub b z)).elim f q) a) (λb o _ _ a e n=>u.any e n a) (λb o a e n=>u.free b o e n a) (λb o a e=>u.there b o e a) u.tups u.frzs u.tbls (λv l=>by
  obtain ⟨o',h,i,d,k⟩:=l
  rw [g] at d;cases d
  exact ⟨_,h,i,f,k⟩) hok G
theorem Inv.turned {t':Nat}{it:Addr}(I:Inv X pins σ H s) (k:∀b o,b≠it->s.heap.get? b=some o->h'.get? b=some o) (G:H it=none) (j:it≠X.env.locals)
  (h1:it∈X.ex\/X.s₀.heap.objs.size<=it) (h2:∀x c,X.env.cells.lookup x=some c->c≠it) (U:∀p∈X.pn++pins,p.1≠it):Inv X pins σ H { s with heap:=h',toks:=t' }:=by
 have d:∀b u,H b=some u->b≠it:=λb u e z=>by rw [z,G] at e;cases e
 refine I.step (g':=s.gens) (d':=s.drawn) (ch:=[it]) (λb h=>?_) (λb o _ _ a e _=>k b o (λz=>a (by simp [z])) e) (λb o _ _ a e _=>⟨o.slots,k b o (λz=>a (by simp [z])) e⟩) (λ_ _ _ _ n=>n)
  (λb o a e=>⟨o,k b o (λz=>a (by simp [z])) e⟩) (λ_ _ e=>e) (λ_ _ _ e=>e) (λb ps e=>⟨#[],by rw [e];simp⟩) (λm g=>?_) (λb u e=>?_) I.bare
 ·have e:b=it:=by simpa using h
  subst e
  exact ⟨h1,j,h2,U⟩
 ·obtain ⟨o,es,i,f,r⟩:=g
  exact ⟨o,es,i,k _ o (cF j) f,r⟩
 ·refine (I.hok b u e).stay (λc v a q=>k c v ?_ q) (λ_ q=>q) λ_ _ q=>q
  rcases a with z | z
  ·rw [z];exact d b u e
  ·exact d c _ z
theorem Inv.tok (I:Inv X pins σ H s) (t:Nat):Inv X pins σ H { s with toks:=t }:=I.un (h':=s.heap) (t':=t) Un.refl I.hok
theorem Inv.kept {t':Nat}(I:Inv X pins σ H s) (k:∀b u,s.heap.get? b=some u->h'.get? b=some u):Inv X pins σ H { s with heap:=h',toks:=t' }:=I.un (Un.kept k) (I.hok.kept k)
theorem Inv.laid {a:Addr}{t':Nat}(I:Inv X pins σ H s) (k:∀b u,s.heap.get? b=some u->h'.get? b=some u) (j:s.heap.objs.size<=a) (new:qB X.prog X.w (upd H a o) h' a o) :
  Inv X pins σ (upd H a o) { s with heap:=h',toks:=t' }:=I.un (Un.laid k j (I.hok.fresh j)) (I.hok.laid k j new)
theorem Inv.write {x e:Addr}{t':Nat}(I:Inv X pins σ H s) (z:Mut (H x)) (G:e=x\/H e=some (.own x)) (k:∀b u,b≠e->s.heap.get? b=some u->h'.get? b=some u) (j:∃u,h'.get? e=some u)
  (new:qB X.prog X.w (upd H x o) h' x o):Inv X pins σ (upd H x o) { s with heap:=h',toks:=t' }:=I.un (Un.write z G k j) (I.hok.write z G k j new)
theorem Inv.pins_of {j:List (Addr×Obj)}(I:Inv X pins σ H s) (h:∀p∈j,s.heap.get? p.1=some p.2/\H p.1=none/\p.1≠X.env.locals/\p.1∉X.fs/\∀v,p.2.data≠.cell v):Inv X j σ H s :=
 ⟨I.ok,I.os,I.bare,I.base,I.loc,I.cell,I.free,I.freeC,λp a=>(List.mem_append.mp a).elim (λz=>I.pin p (cC _ z)) (h p),I.hok,I.len⟩
theorem gq {N:List Str}(z:N.Nodup) {i j:Nat}(a:N[i]? = some x) (b:N[j]? = some x):i=j:=by
 obtain ⟨h1,d⟩:=List.getElem?_eq_some_iff.mp a
 obtain ⟨h2,c⟩:=List.getElem?_eq_some_iff.mp b
 exact (List.getElem_inj z).mp (d.trans c.symm)
theorem JA {i:Nat}{Q:Unit->Shared->Prop}(I:Inv X pins σ H s) (hN:X.N.Nodup) (hi:X.N[i]? = some x) (G:Loc X.env.scope x) (r:jH v u)
  (h:∀s',Inv X pins (σ.set i (some v)) H s'->(∃a,eW a s.heap s'.heap/\(a=X.env.locals\/X.env.cells.lookup x=some a))->Q () s') (hf:X.fn x=true\/X.env.scope.names.lookup x=some .local:=by first | exact .inl rfl | exact .inr rfl | assumption):ay M A (storeName X.env x u) Q E s:=by
 obtain ⟨m,hn,hl⟩:=id I.loc
 have ac:(X.env.scope.kind == .class || (X.env.scope.kind == .module && X.env.locals != X.env.globals))=false:=by rw [I.ok.kind];rfl
 have P:i<σ.length:=by rw [I.len];exact (List.getElem?_eq_some_iff.mp hi).1
 have cne:=I.cne
 have l:∀{a:Addr} {h':Heap},(∃o,s.heap.get? a=some o/\H a=none)->eW a s.heap h'->HOk X.prog X.w H h':=λ{a h'} ha f b ob e=>by
  obtain ⟨_,_,D⟩:=ha
  refine (I.hok b ob e).stay (λc K hc q=>(f.2 c ?_).trans q) (λ_ q=>q) λ_ _ q=>q
  rintro rfl
  rcases hc with rfl | hc
  ·rw [D] at e;cases e
  ·rw [D] at hc;cases hc
 rcases G with hk | hk
 ·refine wpAny_storeName_local hk hn (λh' al f=>?_) ac
  obtain ⟨oL,_,_,ae,_⟩:=id hn
  refine h _ ⟨I.ok,I.os,I.bare,⟨λb o e n C G=>?_,λb o e n C G=>?_,I.base.free,λb o e G=>?_,I.base.tups,I.base.frzs,I.base.tbls⟩,⟨_,al,λj y T g t e3=>?_⟩,λy c e=>?_,I.free,I.freeC,λp hp=>?_,l ⟨oL,ae,I.free⟩ f,by simpa using I.len⟩ ⟨_,f,.inl rfl⟩
  ·exact (f.2 b (aD (aT (av e) I.ok.above))).trans (I.base.keep b o e n C G)
  ·obtain ⟨V,g⟩:=I.base.slot b o e n C G
   exact ⟨V,(f.2 b (aD (aT (av e) I.ok.above))).trans g⟩
  ·obtain ⟨o',g⟩:=I.base.there b o e G
   exact ⟨o',(f.2 b (aD (aT (av e) I.ok.above))).trans g⟩
  ·by_cases B:j=i
   ·subst B
    rw [hi] at g;cases g
    rw [ig P] at t
    cases t
    exact ⟨u,r,.inl ⟨hk,by simp⟩⟩
   ·rw [iT (cF B)] at t
    obtain ⟨U,Y,q⟩:=hl j y T g t e3
    refine ⟨U,Y,?_⟩
    rcases q with ⟨k,e⟩ | ⟨k,c,e,z⟩
    ·refine .inl ⟨k,?_⟩
     have:y≠x:=λe=>B (gq hN g (e ▸ hi))
     simp [this,e]
    ·exact .inr ⟨k,c,e,z.sameBut f (cne y c e)⟩
  ·obtain ⟨K,z⟩:=I.cell y c e
   exact ⟨K,z.sameBut f (cne y c e)⟩
  ·obtain ⟨e,n,ne,Z,d⟩:=I.pin p hp
   exact ⟨(f.2 p.1 ne).trans e,n,ne,Z,d⟩
 ·have J:X.fn x=true:=by
   rcases hf with z | z
   ·exact z
   ·rw [z] at hk;cases hk
  obtain ⟨c,hc⟩:=I.ok.has x (.inl hk)
  obtain ⟨K,z⟩:=I.cell x c hc
  refine wpAny_storeName_cell I.ok.kind hk hc z (λh' S f=>?_)
  obtain ⟨oc,O,ab⟩:=id z
  refine h { s with heap:=h' } ⟨I.ok,I.os,I.bare,⟨λb o e n C G=>?_,λb o e n C G=>?_,I.base.free,λb o e G=>?_,I.base.tups,I.base.frzs,I.base.tbls⟩,⟨m,hn.sameBut f (cF (cne x c hc)),λj y T g t e3=>?_⟩,λy L e=>?_,I.free,I.freeC,λp hp=>?_,l ⟨oc,O,I.freeC x c hc⟩ f,by simpa using I.len⟩ ⟨c,f,.inr hc⟩
  ·exact (f.2 b (aD (aT (av e) (I.ok.cab x c J hc)))).trans (I.base.keep b o e n C G)
  ·obtain ⟨V,g⟩:=I.base.slot b o e n C G
   exact ⟨V,(f.2 b (aD (aT (av e) (I.ok.cab x c J hc)))).trans g⟩
  ·obtain ⟨o',g⟩:=I.base.there b o e G
   exact ⟨o',(f.2 b (aD (aT (av e) (I.ok.cab x c J hc)))).trans g⟩
  ·by_cases B:j=i
   ·subst B
    rw [hi] at g;cases g
    rw [ig P] at t
    cases t
    exact ⟨u,r,.inr ⟨.inl hk,c,hc,S⟩⟩
   ·rw [iT (cF B)] at t
    obtain ⟨U,Y,q⟩:=hl j y T g t e3
    refine ⟨U,Y,?_⟩
    rcases q with q | ⟨k,L,e,z'⟩
    ·exact .inl q
    ·refine .inr ⟨k,L,e,z'.sameBut f ?_⟩
     rintro rfl
     exact B (gq hN g (I.ok.inj _ _ _ e hc ▸ hi))
  ·by_cases R:L=c
   ·subst R;exact ⟨_,S⟩
   ·obtain ⟨w2,z2⟩:=I.cell y L e
    exact ⟨w2,z2.sameBut f R⟩
  ·obtain ⟨e,n,ne,Z,d⟩:=I.pin p hp
   refine ⟨(f.2 p.1 ?_).trans e,n,ne,Z,d⟩
   intro q
   rw [q,O] at e
   have q':oc=p.2:=aI e
   exact d K (by rw [<- q'];exact ab)
theorem kT {i:Nat}{Q:Unit->Shared->Prop}(I:Inv X pins σ H s) (G:X.N.Nodup) (hi:X.N[i]? = some x) (j:Loc X.env.scope x) (r:jH v u)
  (h:∀s',Inv X pins (σ.set i (some v)) H s'->Q () s') (z:X.fn x=true\/X.env.scope.names.lookup x=some .local:=by first | exact .inl rfl | exact .inr rfl | assumption):ay M A (storeName X.env x u) Q E s :=
 JA I G hi j r (λs' a _=>h s' a) z
theorem Inv.call' {s':Shared}{ch:List Addr}(I:Inv X pins σ H s) (z:s'.os=s.os) (u:Un (frs X.stack) ch H H' s.heap s'.heap) (hok:HOk X.prog X.w H' s'.heap) (G:iP s'.gens)
  (j:∀b∈ch,↥141/\b≠X.env.locals/\ ↥108/\∀p∈X.pn++pins,p.1≠b):Inv X pins σ H' s':=by
 obtain ⟨h',g',d',t',o'⟩:=s'
 have e:o'=s.os:=z
 subst e
 exact I.call (g':=g') (t':=t') (d':=d') u hok G j
end
noncomputable abbrev XK:=aj->Option Addr->Hp->Prop
noncomputable abbrev St:=List (Option V)
noncomputable abbrev VK:=V->Hp->Prop
noncomputable abbrev TE:=St->Hp->VK->Prop
noncomputable abbrev TT:=St->Hp->(Bool->Hp->Prop)->Prop
noncomputable abbrev TA:=St->Hp->(List V->Hp->Prop)->Prop
structure Ends where
 nx:St->Hp->Prop
 rt:VK
 bk:St->Hp->Prop:=λ_ _=>False
 ct:St->Hp->Prop:=λ_ _=>False
noncomputable abbrev TS:=Ends->St->Hp->Prop
noncomputable def EP (X:Cx) (pins:List (Addr×Obj)) (σ:St) (Q:VK) (u:aj) (s':Shared):Prop:=∃v H',Inv X pins σ H' s'/\jH v u/\Q v H'
noncomputable def TP (X:Cx) (pins:List (Addr×Obj)) (σ:St) (Q:Bool->Hp->Prop) (b:Bool) (s':Shared):Prop:=∃H',Inv X pins σ H' s'/\Q b H'
noncomputable def AP (X:Cx) (pins:List (Addr×Obj)) (σ:St) (Q:List V->Hp->Prop) (us:List aj) (s':Shared):Prop:=∃a H',Inv X pins σ H' s'/\jI a us/\Q a H'
noncomputable def SP (X:Cx) (pins:List (Addr×Obj)) (D:Ends) (f:Flow) (s':Shared):Prop :=
 match f with
 | .next=>∃a H',Inv X pins a H' s'/\D.nx a H'
 | .brk=>∃a H',Inv X pins a H' s'/\D.bk a H'
 | .cont=>∃a H',Inv X pins a H' s'/\D.ct a H'
 | .ret u=>∃v a H',Inv X pins a H' s'/\jH v u/\D.rt v H'
noncomputable def PE (X:Cx) (e:Expr) (t:TE):Prop :=
 ∀(pins:List (Addr×Obj)) (s:Shared) (σ:St) (H:Hp) (Q:VK),Inv X pins σ H s->t σ H Q->ay ↥2 X.A (eval e X.env) ↥51 X.xe s
noncomputable def PT (X:Cx) (e:Expr) (t:TT):Prop :=
 ∀(pins:List (Addr×Obj)) (s:Shared) (σ:St) (H:Hp) (Q:Bool->Hp->Prop),Inv X pins σ H s->t σ H Q->ay ↥2 X.A (isTrue e X.env (eval e X.env)) (TP X pins σ Q) X.xe s
noncomputable def PW (X:Cx) (e:Expr) (t:TT):Prop :=
 ∀(a:Sem aj) (pins:List (Addr×Obj)) (s:Shared) (σ:St) (H:Hp) (Q:Bool->Hp->Prop),Inv X pins σ H s->t σ H Q->ay ↥2 X.A (isTrue e X.env a) (TP X pins σ Q) X.xe s
theorem PW.pt {X:Cx}{e:Expr}(h:PW X e t):PT X e t:=h _
noncomputable def PA (X:Cx) (es:List Expr) (t:TA):Prop :=
 ∀(pos:Pos) (pins:List (Addr×Obj)) (s:Shared) (σ:St) (H:Hp) (Q:List V->Hp->Prop),Inv X pins σ H s->t σ H Q->ay ↥2 X.A (spliced ↥67) (AP X pins σ Q) X.xe s
noncomputable def PS (X:Cx) (st:Stmt) (t:TS):Prop :=
 ∀(pins:List (Addr×Obj)) (s:Shared) (σ:St) (H:Hp) (D:Ends),Inv X pins σ H s->t D σ H->ay ↥2 X.A (exec st X.env) (SP X pins D) X.xe s
noncomputable def PSs (X:Cx) (st:List Stmt) (t:TS):Prop :=
 ∀(pins:List (Addr×Obj)) (s:Shared) (σ:St) (H:Hp) (D:Ends),Inv X pins σ H s->t D σ H->ay ↥2 X.A (execs st X.env) (SP X pins D) X.xe s
theorem thn {α:Type}{t:Sem α}{Q j:α->Shared->Prop}{M:Model}{A:bF}{E:aj->Shared->Prop}{s:Shared}(h:ay M A t Q E s) (z:∀a s,Q a s->j a s):ay M A t j E s:=ba h z λ_ _ x=>x
end L2
namespace L2
section
variable {X:Cx}
theorem bin {a b:Expr}{ta tb:TE}(ha:PE X a ta) (Y:PE X b tb) {pins:List (Addr×Obj)}{s:Shared}{σ:St}{H:Hp}{R:V->V->Hp->Prop}(I:Inv X pins σ H s) (h:ta σ H λx H1=>tb σ H1 λy H2=>R x y H2)
  {α:Type} {Q:α->Shared->Prop} {f:aj->aj->Sem α}
  (U:∀v u j x y H2,Inv X pins σ H2 j->jH x v->jH y u->R x y H2->ay ↥2 X.A (f v u) Q X.xe j) :
  ay ↥2 X.A (eval a X.env) (λv G=>ay ↥2 X.A (eval b X.env) (λu z=>ay ↥2 X.A (f v u) Q X.xe z) X.xe G) X.xe s:=by
 refine thn (ha pins s σ H _ I h) λv s1 ⟨x,H1,k,d,g⟩=>?_
 refine thn (Y pins s1 σ H1 _ k g) λu j ⟨y,H2,i,c,e⟩=>?_
 exact U v u j x y H2 i d c e
inductive tVar (i:Nat) (σ:St) (H:Hp) (Q:VK):Prop
 | mk (v:_) (_:σ[i]? = some (some v)) (_:Q v H)
noncomputable def tC (v:V):TE:=λ_ H Q=>Q v H
theorem Gz {i:Nat}{pos:Pos}(U:X.N[i]? = some x) (G:Vis X.env.scope x) (j: ↥24=false:=by decide) (z:(x == ("__classdict__" : Str))=false:=by decide):PE X (.Name x pos) (tVar i):=by
 intro pins s σ H Q I h
 obtain ⟨v,e,h⟩:=h
 obtain ⟨m,f,k⟩:=I.loc
 obtain ⟨u,r,l⟩:=k i x v U e G
 have b:EP X pins σ Q u s:=⟨v,H,I,r,h⟩
 rcases l with ⟨hk,g⟩ | ⟨hk,c,d,a⟩
 ·exact sM (wpAny_loadName_local I.ok.kind hk f g b) j
 ·rcases hk with hk | hk
  ·exact sM (wpAny_loadName_cell I.ok.kind hk d a b) j
  ·exact sM (wpAny_loadName_free I.ok.kind hk d a b z) j
theorem j4 {i j pos}:PE X (.Constant (.int i) j pos) (tC (.int i)):=λ_ _ _ H _ I h=>wpAny_Constant_int ⟨.int i,H,I.tok _,⟨_,rfl⟩,h⟩
theorem Ju {b j pos}:PE X (.Constant (.bool b) j pos) (tC (.bl b)):=λ_ _ _ H _ I h=>Constant_bool ⟨.bl b,H,I,rfl,h⟩
theorem ur {j pos}:PE X (.Constant .none j pos) (tC .non):=λ_ _ _ H _ I h=>Constant_none ⟨.non,H,I,rfl,h⟩
theorem jr {x j pos}:PE X (.Constant (.str x) j pos) (tC (.str x)):=λ_ _ _ H _ I h=>Calls.Constant_str ⟨.str x,H,I.tok _,⟨_,rfl⟩,h⟩
noncomputable def Gl (X:Cx) (x:Str):Prop:=X.env.kindOf x=some .globalImplicit
theorem yV {pos:Pos}{Q:aj->Shared->Prop}(I:Inv X pins σ H s) (z:Gl X x) (j:X.mg x=some u) (h:Q u s)
  (G: ↥24=false:=by decide):ay ↥2 X.A (eval (.Name x pos) X.env) Q E s :=
 lF I.ok.kind z (Calls.loadGlobal_global (by rw [I.ok.glob];exact I.mod.glob.keeps I.bk) j h) G
theorem ym {pos:Pos}{Q:aj->Shared->Prop}(I:Inv X pins σ H s) (U:Gl X x) (G:X.mg x=none) (j:fM x=some u) (h:Q u s)
  (z:x ≠ "__name__":=by decide) (Y: ↥24=false:=by decide):ay ↥2 X.A (eval (.Name x pos) X.env) Q E s:=by
 obtain ⟨a,h1,h2⟩:=I.mod.blt
 exact lF I.ok.kind U (Calls.loadGlobal_builtin (by rw [I.ok.glob];exact I.mod.glob.keeps I.bk) G (by rw [I.ok.blt];exact h1.keeps I.bk) ((h2 x z).trans j) h) Y
theorem qW {pos:Pos}(z:Gl X x) (j:X.mg x=some u) (r:jH v u) (G: ↥24=false:=by decide):PE X (.Name x pos) (tC v) :=
 λ_ _ _ H _ I h=>yV I z j ⟨v,H,I,r,h⟩ G
theorem xF {pos:Pos}(U:Gl X x) (G:X.mg x=none) (j:fM x=some u) (r:jH v u) (z:x ≠ "__name__":=by decide) (Y: ↥24=false:=by decide):PE X (.Name x pos) (tC v) :=
 λ_ _ _ H _ I h=>ym I U G j ⟨v,H,I,r,h⟩ z Y
variable {a b:Expr}{ta tb:TE}{pos:Pos}
noncomputable def PC (X:Cx) (j:CmpOp) (a b:Expr) (t:TE):Prop :=
 ∀(pins:List (Addr×Obj)) (s:Shared) (σ:St) (H:Hp) (Q:VK),Inv X pins σ H s->t σ H Q ->
  ay ↥2 X.A (eval a X.env) (λv d=>ay ↥2 X.A (eval b X.env) (λu c=>ay ↥2 X.A (cq j v u) ↥51 X.xe c) X.xe d) X.xe s
theorem Vg (b:Expr) {j:CmpOp}(h:j≠.In) (h2:j≠.NotIn):fi j b=false:=by
 have c:(j == CmpOp.In)=false:=by cases j <;> first | rfl | exact absurd rfl h
 have a:(j == CmpOp.NotIn)=false:=by cases j <;> first | rfl | exact absurd rfl h2
 cases b <;> simp [fi,c,a]
inductive tBI (Q:Bool->Hp->Prop) (x:V) (H1:Hp):Prop
 | mk (c:_) (_:x = .bl c) (_:Q c H1)
noncomputable def tB (t:TE):TT:=λσ H Q=>t σ H λx H1=>tBI Q x H1
theorem WY (h:PC X j a b t) (h1:fi j b=false:=by first | exact Vg _ ⋯ ⋯ | rfl):PT X (.Compare a [j] [b] pos) (tB t):=by
 intro pins s σ H Q I g
 refine nj (thn (h pins s σ H _ I g) λv s1 h1=>thn h1 λu l h2=>thn h2 λc k ⟨x,H1,i,e,f⟩=>?_) h1
 obtain ⟨d,rfl,q⟩:=f
 cases e
 exact c0 ⟨H1,i,q⟩
theorem zN (h:PE X e t) (z:∀j,isTrue e X.env j=(do let v <- j;fB e.pos;dR [v] (truthy v)):=by intro _;rfl):PT X e (tB t):=by
 intro pins s σ H Q I c
 refine isTrue_plain (thn (h pins s σ H _ I c) λv s1 ⟨x,H1,f,a,b⟩=>?_) (z _)
 obtain ⟨d,rfl,q⟩:=b
 cases a
 exact c0 ⟨H1,f,q⟩
variable {tA tB':TT}{vn:List Expr}
noncomputable def tAnd (t u:TT):TT:=λσ H Q=>t σ H λc H1=>if c=true then u σ H1 Q else Q false H1
noncomputable def tOr (t u:TT):TT:=λσ H Q=>t σ H λc H1=>if c=true then Q true H1 else u σ H1 Q
noncomputable def tNot (t:TT):TT:=λσ H Q=>t σ H λc H1=>Q (!c) H1
theorem Y8 (j:PT X a tA):PW X (.BoolOp .And [a] pos) tA:=by
 intro b pins s σ H Q I h
 refine isTrue_and (thn (j pins s σ H Q I h) λc s1 e=>?_)
 cases c with
 | true=>exact isTrue_and_nil e
 | false=>exact e
theorem kO (j:PT X a tA):PW X (.BoolOp .Or [a] pos) tA:=by
 intro b pins s σ H Q I h
 refine isTrue_or (thn (j pins s σ H Q I h) λc s1 e=>?_)
 cases c with
 | false=>exact isTrue_or_nil e
 | true=>exact e
theorem Vp (z:PT X a tA) (j:PW X (.BoolOp .And (b::vn) pos) tB'):PW X (.BoolOp .And (a::b::vn) pos) (tAnd tA tB'):=by
 intro f pins s σ H Q I h
 refine isTrue_and (thn ↥115 λc s1 ⟨H1,e,d⟩=>?_)
 cases c with
 | true=>exact j f pins s1 σ H1 Q e d
 | false=>exact ⟨H1,e,d⟩
theorem Jp (z:PT X a tA) (j:PW X (.BoolOp .Or (b::vn) pos) tB'):PW X (.BoolOp .Or (a::b::vn) pos) (tOr tA tB'):=by
 intro f pins s σ H Q I h
 refine isTrue_or (thn ↥115 λc s1 ⟨H1,e,d⟩=>?_)
 cases c with
 | true=>exact ⟨H1,e,d⟩
 | false=>exact j f pins s1 σ H1 Q e d
theorem xn (j:PT X a tA):PT X (.UnaryOp .Not a pos) (tNot tA):=by
 intro pins s σ H Q I h
 exact isTrue_not (j pins s σ H (λc H1=>Q (!c) H1) I h)
inductive tAndVI (tb:TE) (σ:St) (Q:VK) (x:V) (H1:Hp):Prop
 | mk (c:_) (_:x = .bl c) (_:if c=true then tb σ H1 Q else Q (.bl false) H1)
noncomputable def Ex (ta tb:TE):TE:=λσ H Q=>ta σ H λx H1=>tAndVI tb σ Q x H1
inductive tOrVI (tb:TE) (σ:St) (Q:VK) (x:V) (H1:Hp):Prop
 | mk (c:_) (_:x = .bl c) (_:if c=true then Q (.bl true) H1 else tb σ H1 Q)
noncomputable def tOrV (ta tb:TE):TE:=λσ H Q=>ta σ H λx H1=>tOrVI tb σ Q x H1
inductive tNotVI (Q:VK) (x:V) (H1:Hp):Prop
 | mk (c:_) (_:x = .bl c) (_:Q (.bl (!c)) H1)
noncomputable def Eo (ta:TE):TE:=λσ H Q=>ta σ H λx H1=>tNotVI Q x H1
theorem yT {j}(h:PE X a t):PE X (.BoolOp j [a] pos) t:=λpins s σ H Q I b=>BoolOp_one (h pins s σ H Q I b)
theorem yX (z:PE X a ta) (j:PE X (.BoolOp .And (b::vn) pos) tb):PE X (.BoolOp .And (a::b::vn) pos) (Ex ta tb):=by
 intro pins s σ H Q I h
 refine BoolOp_and (thn ↥115 λv s1 ⟨x,H1,e,f,d⟩=>?_)
 obtain ⟨c,rfl,d⟩:=d
 cases f
 refine c0 ?_
 cases c with
 | true=>exact j pins s1 σ H1 Q e d
 | false=>exact ⟨.bl false,H1,e,rfl,d⟩
theorem Er (z:PE X a ta) (j:PE X (.BoolOp .Or (b::vn) pos) tb):PE X (.BoolOp .Or (a::b::vn) pos) (tOrV ta tb):=by
 intro pins s σ H Q I h
 refine BoolOp_or (thn ↥115 λv s1 ⟨x,H1,e,f,d⟩=>?_)
 obtain ⟨c,rfl,d⟩:=d
 cases f
 refine c0 ?_
 cases c with
 | false=>exact j pins s1 σ H1 Q e d
 | true=>exact ⟨.bl true,H1,e,rfl,d⟩
theorem WL (j:PE X a ta):PE X (.UnaryOp .Not a pos) (Eo ta):=by
 intro pins s σ H Q I h
 refine UnaryOp_ (thn ↥116 λv s1 ⟨x,H1,e,d,b⟩=>?_)
 obtain ⟨c,rfl,b⟩:=b
 cases d
 exact not_of (c0 ⟨.bl (!c),H1,e,rfl,b⟩)
end
end L2
namespace L2
noncomputable def SqL (K:ah) (H:Hp) (a:Addr) (xs:List V):Prop :=
 Rd H a (.lst xs) \/
  ∃(o:Obj) (b:Array aj) (n:Nat),K.lookup a=some o/\o.cls = .type "list" /\ o.dict=none/\o.data = .seq b n/\b.size<=sizeLine/\jI xs b.toList
noncomputable def SqT (K:ah) (H:Hp) (a:Addr) (xs:List V):Prop :=
 Rd H a (.tup xs) \/
  ∃(o:Obj) (b:Array aj) (n:Nat),K.lookup a=some o/\o.cls = .type "tuple" /\ o.data = .seq b n/\b.size<=sizeLine/\jI xs b.toList
noncomputable def absV:aj->Option V
 | .none=>some .non
 | .bool b=>some (.bl b)
 | .int i _=>some (.int i)
 | .str x _=>some (.str x)
 | .bytes b _=>some (.byt b)
 | .float b _=>some (.flt b)
 | .ref a=>some (.ref a)
 | .type n=>some (.ty n)
 | _=>none
theorem jH.abs {x:V}(r:jH x u):absV u=some x:=by
 cases x with
 | non=>cases r;rfl
 | bl _=>cases r;rfl
 | int _=>obtain ⟨t,rfl⟩:=r;rfl
 | str _=>obtain ⟨t,rfl⟩:=r;rfl
 | byt _=>obtain ⟨t,rfl⟩:=r;rfl
 | flt _=>obtain ⟨t,rfl⟩:=r;rfl
 | ref _=>cases r;rfl
 | ty _=>cases r;rfl
theorem jH.inj {x:V}(r:jH x u) (q:jH y u):x=y:=aI (r.abs.symm.trans q.abs)
theorem jI.inj:∀{xs ys:List V}{us:List aj},jI xs us->jI ys us->xs=ys
 | _,_,_,.nil,.nil=>rfl
 | _,_,_,.cons r t,.cons b a=>by rw [r.inj b,jI.inj t a]
section
variable {X:Cx}{pins:List (Addr×Obj)}{σ:St}{H:Hp}{s:Shared}{a:Addr}{xs ys:List V}
theorem SqL.of {K:ah}(h:H a=some (.lst xs)):SqL K H a xs:=.inl (.inl h)
theorem SqT.of {K:ah}(h:H a=some (.tup xs)):SqT K H a xs:=.inl (.inl h)
theorem Inv.list (I:Inv X pins σ H s) (h:SqL X.K H a xs):∃its:List aj,jI xs its/\PlainL s.heap a its.toArray/\xs.length<=sizeLine:=by
 rcases h with h | ⟨o,its,n,c,f,d,b,g,r⟩
 ·obtain ⟨z,its,n,r,e⟩:=h.ok I.hok
  exact ⟨its,r,⟨_,n,e,rfl,rfl,rfl⟩,z⟩
 ·refine ⟨its.toList,r,⟨o,n,I.kIn a o c,f,d,by simpa using b⟩,?_⟩
  have e:=r.length
  simp only [d7] at e
  omega
theorem Inv.tuple (I:Inv X pins σ H s) (h:SqT X.K H a xs):∃its:List aj,jI xs its/\tR s.heap a its.toArray/\xs.length<=sizeLine:=by
 rcases h with h | ⟨o,its,n,c,d,b,f,r⟩
 ·obtain ⟨z,its,r,p⟩:=h.ok I.hok
  exact ⟨its,r,p,z⟩
 ·refine ⟨its.toList,r,⟨o,I.kIn a o c,d,n,by simpa using b⟩,?_⟩
  have e:=r.length
  simp only [d7] at e
  omega
theorem Inv.list_inj (I:Inv X pins σ H s) (h:SqL X.K H a xs) (h':SqL X.K H a ys):xs=ys:=by
 obtain ⟨b,r,⟨o,n,e,_,_,d⟩,_⟩:=I.list h
 obtain ⟨its',g,⟨o',j,c,_,_,f⟩,_⟩:=I.list h'
 rw [e] at c;cases c
 rw [d] at f
 injection f with i _
 have:b=its':=by simpa using congrArg Array.toList i
 subst this
 exact r.inj g
theorem Inv.tuple_inj (I:Inv X pins σ H s) (h:SqT X.K H a xs) (h':SqT X.K H a ys):xs=ys:=by
 obtain ⟨b,r,⟨o,e,_,n,d⟩,_⟩:=I.tuple h
 obtain ⟨its',g,⟨o',c,_,j,f⟩,_⟩:=I.tuple h'
 rw [e] at c;cases c
 rw [d] at f
 injection f with i _
 have:b=its':=by simpa using congrArg Array.toList i
 subst this
 exact r.inj g
end
noncomputable abbrev Cx.wish (X:Cx) (E:aj->Shared->Prop):Cx:={ X with xe:=E }
noncomputable abbrev Cx.nox (X:Cx):Cx:=X.wish λ_ _=>False
theorem Cx.Ok.wish {X:Cx}(ok:X.Ok) (E:aj->Shared->Prop):(X.wish E).Ok :=
 ⟨ok.mod,ok.kind,ok.glob,ok.blt,ok.above,ok.inj,ok.has,ok.cab,ok.hd,ok.frames,ok.stk,ok.exf,ok.bs,ok.bsz,ok.noex,ok.exfs,ok.funs,ok.frf⟩
theorem Cx.Ok.unwish {X:Cx}(ok:(X.wish E).Ok):X.Ok :=
 ⟨ok.mod,ok.kind,ok.glob,ok.blt,ok.above,ok.inj,ok.has,ok.cab,ok.hd,ok.frames,ok.stk,ok.exf,ok.bs,ok.bsz,ok.noex,ok.exfs,ok.funs,ok.frf⟩
section
variable {X:Cx}{pins:List (Addr×Obj)}{σ:St}{H:Hp}{s:Shared}{E:aj->Shared->Prop}
theorem Inv.wish (I:Inv X pins σ H s) (E:aj->Shared->Prop):Inv (X.wish E) pins σ H s:=⟨I.ok.wish E,I.os,I.bare,I.base,I.loc,I.cell,I.free,I.freeC,I.pin,I.hok,I.len⟩
theorem Inv.unwish (I:Inv (X.wish E) pins σ H s):Inv X pins σ H s:=⟨I.ok.unwish,I.os,I.bare,I.base,I.loc,I.cell,I.free,I.freeC,I.pin,I.hok,I.len⟩
theorem SP.unwish {D:Ends}(h:SP (X.wish E) pins D f s'):SP X pins D f s':=by
 cases f with
 | next=>obtain ⟨a,H',I,q⟩:=h;exact ⟨a,H',I.unwish,q⟩
 | brk=>obtain ⟨a,H',I,q⟩:=h;exact ⟨a,H',I.unwish,q⟩
 | cont=>obtain ⟨a,H',I,q⟩:=h;exact ⟨a,H',I.unwish,q⟩
 | ret u=>obtain ⟨v,a,H',I,r,q⟩:=h;exact ⟨v,a,H',I.unwish,r,q⟩
theorem PE.nox {e:Expr}(h:PE X.nox e t):PE X e t:=λpins s σ H Q I a =>
 ba (h pins s σ H Q (I.wish _) a) (λ_ _ ⟨v,H',b,r,q⟩=>⟨v,H',b.unwish,r,q⟩) λ_ _ z=>bB z
theorem PSs.nox {st:List Stmt}(h:PSs X.nox st t):PSs X st t:=λpins s σ H D I a =>
 ba (h pins s σ H D (I.wish _) a) (λ_ _ q=>q.unwish) λ_ _ z=>bB z
end
section
variable {X:Cx}{st:Stmt}{vn:List Stmt}{t u:TS}{e:Expr}{te:TE}{pos:Pos}
noncomputable def E2:TS:=λD σ H=>D.nx σ H
noncomputable def tSeq (t u:TS):TS:=λD σ H=>t { D with nx:=u D } σ H
theorem jw:PSs X [] E2:=λ_ _ σ H _ I h=>fY ⟨σ,H,I,h⟩
theorem j5 (h1:PS X st t) (h2:PSs X vn u):PSs X (st::vn) (tSeq t u):=by
 intro pins s σ H D I h
 refine mh (thn (h1 pins s σ H { D with nx:=u D } I h) λf s1 q=>?_)
 cases f with
 | next =>
  obtain ⟨a,H',b,q⟩:=q
  exact h2 pins s1 a H' D b q
 | ret v=>exact q
 | brk=>exact q
 | cont=>exact q
theorem j9 (h1:PS X st t):PSs X [st] t:=by
 intro pins s σ H D I h
 refine mh (thn (h1 pins s σ H D I h) λf s1 q=>?_)
 cases f with
 | next=>exact fY q
 | ret v=>exact q
 | brk=>exact q
 | cont=>exact q
theorem Inv.quiet (I:Inv X pins σ H s):interactive X.env=false:=by simp [interactive,I.ok.kind]
noncomputable def Eh (te:TE):TS:=λD σ H=>te σ H λ_ H1=>D.nx σ H1
theorem jX (z:PE X e te) (j:lC e none pos.line X.env=pure false:=by rfl):PS X (.Expr e pos) (Eh te):=by
 intro pins s σ H D I h
 exact wpAny_Expr_any (thn ↥115 λv s1 ⟨x,H1,b,c,a⟩=>⟨σ,H1,b,a⟩) I.quiet j
noncomputable def Vu (te:TE):TS:=λD σ H=>te σ H D.rt
theorem jj (j:PE X e te):PS X (.Return (some e) pos) (Vu te):=by
 intro pins s σ H D I h
 exact wpAny_Return_some (thn ↥116 λv s1 ⟨x,H1,c,a,b⟩=>⟨x,σ,H1,c,a,b⟩)
noncomputable def tIfS (c:TT) (t u:TS):TS:=λD σ H=>c σ H λb H1=>if b=true then t D σ H1 else u D σ H1
theorem jV (j:PT X c tc) (G:PSs X a t) (z:PSs X b u):PS X (.If c a b pos) (tIfS tc t u):=by
 intro pins s σ H D I h
 refine wpAny_If (thn ↥116 λd s1 ⟨H1,f,e⟩=>?_)
 cases d with
 | true=>exact G pins s1 σ H1 D f e
 | false=>exact z pins s1 σ H1 D f e
end
noncomputable abbrev TG:=V->St->Hp->(St->Hp->Prop)->Prop
noncomputable abbrev TGs:=List V->St->Hp->(St->Hp->Prop)->Prop
noncomputable def PG (X:Cx) (j:Expr) (t:TG):Prop :=
 ∀(pins:List (Addr×Obj)) (s:Shared) (σ:St) (H:Hp) (v:V) (u:aj) (Q:St->Hp->Prop),Inv X pins σ H s->jH v u->t v σ H Q ->
  ay ↥2 X.A (iM j X.env u) (λ_ s'=>∃a H',Inv X pins a H' s'/\Q a H') X.xe s
noncomputable def PGs (X:Cx) (ts:List Expr) (t:TGs):Prop :=
 ∀(pins:List (Addr×Obj)) (s:Shared) (σ:St) (H:Hp) (b:List V) (c:List aj) (Q:St->Hp->Prop),Inv X pins σ H s->jI b c->t b σ H Q ->
  ay ↥2 X.A (tH ((cY ts X.env).map (·.2)) c) (λ_ s'=>∃a H',Inv X pins a H' s'/\Q a H') X.xe s
noncomputable abbrev GE:=V->V->V->Hp->(Hp->Prop)->Prop
noncomputable def WP (X:Cx) (t:GE):Prop :=
 ∀(pins:List (Addr×Obj)) (s:Shared) (σ:St) (H:Hp) (o i v:V) (a b u:aj) (Q:Hp->Prop),Inv X pins σ H s->jH o a->jH i b->jH v u->t o i v H Q ->
  ay ↥2 X.A (tV a b u) (λ_ s'=>∃H',Inv X pins σ H' s'/\Q H') X.xe s
noncomputable abbrev TIp:=V->V->Hp->VK->Prop
noncomputable def PIp (X:Cx) (j:Operator) (t:TIp):Prop :=
 ∀(pins:List (Addr×Obj)) (s:Shared) (σ:St) (H:Hp) (x y:V) (v u:aj) (Q:VK),Inv X pins σ H s->jH x v->jH y u->t x y H Q ->
  ay ↥2 X.A (inplaceOp j v u) ↥51 X.xe s
section
variable {X:Cx}{pos:Pos}
noncomputable def vJ (i:Nat):TG:=λv σ H Q=>Q (σ.set i (some v)) H
theorem jc {i:Nat}(G:X.N.Nodup) (hi:X.N[i]? = some x) (j:Loc X.env.scope x) (z:X.fn x=true\/X.env.scope.names.lookup x=some .local:=by first | exact .inl rfl | exact .inr rfl | assumption):PG X (.Name x pos) (vJ i):=by
 intro pins s σ H v u Q I r h
 exact px (kT I G hi j r (λs' a=>⟨_,H,a,h⟩) z)
noncomputable def gNil:TGs:=λa σ H Q=>a=[]/\Q σ H
inductive gCons (t:TG) (u:TGs) (vs:List V) (σ:St) (H:Hp) (Q:St->Hp->Prop):Prop
 | mk (v:_) (r:_) (_:vs=v::r) (_:t v σ H λσ' H'=>u r σ' H' Q)
theorem qz:PGs X [] gNil:=by
 intro pins s σ H a b Q I r h
 obtain ⟨e,h⟩:=h
 subst e
 cases r
 exact assignInOrder_nil ⟨σ,H,I,h⟩
theorem jn (h1:PG X e t) (h2:PGs X es u)
  (j:(cY (e::es) X.env).map (·.2)=iM e X.env::(cY es X.env).map (·.2):=by rfl):PGs X (e::es) (gCons t u):=by
 intro pins s σ H g k Q I r h
 obtain ⟨v,i,d,h⟩:=h
 subst d
 cases r with
 | cons r b =>
  rw [j]
  refine assignInOrder_cons (thn (h1 pins s σ H _ _ _ I r h) λ_ s1 ⟨a,H1,f,c⟩=>?_)
  exact h2 pins s1 a H1 _ _ Q f b c
inductive gTup (K:ah) (n:Nat) (t:TGs) (v:V) (σ:St) (H:Hp) (Q:St->Hp->Prop):Prop
 | mk (a:_) (xs:_) (_:v = .ref a) (_:SqT K H a xs) (_:xs.length=n) (_:t xs σ H Q)
theorem G7 {k:Nat}{n:Nat}(G:X.calm=true) (h:PGs X es t)
  (z:(cY es X.env).length=n:=by rfl) (j:(cY es X.env).findIdx? (·.1)=none:=by rfl):PG X (.Tuple es k pos) (gTup X.K n t):=by
 intro pins s σ H v u Q I r c
 obtain ⟨a,xs,m,i,l,c⟩:=c
 subst m
 cases r
 obtain ⟨q,d,g,w⟩:=I.tuple i
 refine assign_Tuple_tuple (I.ok.hd G) g (by simp [z,<- l,d.length]) j λh' f=>?_
 have p:Inv X pins σ H { s with heap:=h' }:=I.kept (t':=s.toks) λb o e=>f b o (aD (av e)) e
 exact h pins _ σ H xs _ Q p (by simpa using d) c
noncomputable def gSub (to j:TE) (t:GE):TG:=λv σ H Q=>to σ H λo H1=>j σ H1 λi H2=>t o i v H2 λa=>Q σ a
theorem kD (Y:PE X o to) (hi:PE X i G) (U:WP X t)
  (ha:∀v,iM (.Subscript o i pos) X.env v=(do
   let j <- dR [v] (eval o X.env)
   let z <- dR [v,j] (eval i X.env)
   fB pos
   dR [v,j,z] (tV j z v)
   release [v,j,z] []):=by intro _;rfl):PG X (.Subscript o i pos) (gSub to G t):=by
 intro pins s σ H v u Q I r h
 rw [ha]
 refine af (bC (thn (Y pins s σ H _ I h) λj s1 ⟨x,H1,l,c,f⟩=>?_))
 refine af (bC (thn (hi pins s1 σ H1 _ l f) λz a ⟨y,H2,k,b,e⟩=>?_))
 refine af (cP (af (bC (thn (U pins a σ H2 x y v j z u _ k c b r e) λ_ n ⟨m,g,d⟩=>?_))))
 exact wpAny_release ⟨σ,m,g,d⟩
noncomputable def UR (te:TE) (g:TG):TS:=λD σ H=>te σ H λx H1=>g x σ H1 D.nx
theorem zj (U:PE X e te) (G:PG X tg g) (z:swapsWithSole [tg] e pos.line X.env=pure false:=by rfl) (j:swappedStores [tg] e X.env=pure none:=by rfl)
  (h1:(cY [tg] X.env).map (·.2)=[iM tg X.env]:=by rfl):PS X (.Assign [tg] e pos) (UR te g):=by
 intro pins s σ H D I h
 refine wpAny_Assign_stores (thn (U pins s σ H _ I h) λv s1 ⟨x,H1,c,a,b⟩=>?_) z j
 rw [h1]
 exact thn (G pins s1 σ H1 x v _ c a b) λ_ d q=>q
theorem xa {i:Nat}(Y:X.N.Nodup) (hi:X.N[i]? = some x) (j:Loc X.env.scope x) (U:PE X e te) (z:lC e (some (.Name x pos')) pos.line X.env=pure false:=by rfl) (G:X.fn x=true\/X.env.scope.names.lookup x=some .local:=by first | exact .inl rfl | exact .inr rfl | assumption) :
  PS X (.Assign [.Name x pos'] e pos) (UR te (vJ i)):=by
 intro pins s σ H D I h
 refine wpAny_Assign_Name (thn (U pins s σ H _ I h) λv s1 ⟨y,H1,d,a,b⟩=>?_) z
 exact kT d Y hi j a (λf c=>⟨_,H1,c,b⟩) G
theorem jo (i:Nat)(Y:X.N.Nodup) (U:PE X e te) (hi:X.N[i]?=some x:=by rfl) (j:Loc X.env.scope x:=by exact aP rfl) (z:lC e (some (.Name x pos')) pos.line X.env=pure false:=by rfl) (G:X.fn x=true\/X.env.scope.names.lookup x=some .local:=by first | exact .inl rfl | exact .inr rfl | assumption):PS X (.Assign [.Name x pos'] e pos) (UR te (vJ i)):=xa Y hi j U z G
noncomputable def Ei (to Y te:TE) (G:V->V->Hp->VK->Prop) (U:TIp) (j:GE):TS:=λD σ H=>to σ H λo H1=>Y σ H1 λi H2=>G o i H2 λx d=>te σ d λy c=>U x y c λz b=>j o i z b λa=>D.nx σ a
noncomputable def Ec (X:Cx) (t:V->V->Hp->VK->Prop):Prop :=
 ∀(pins:List (Addr×Obj)) (s:Shared) (σ:St) (H:Hp) (o i:V) (a b:aj) (Q:VK),Inv X pins σ H s->jH o a->jH i b->t o i H Q ->
  ay ↥2 X.A (lV a b) ↥51 X.xe s
theorem Wu (ho:PE X o to) (hi:PE X i ti) (hg:Ec X U) (he:PE X e te) (hp:PIp X op Y) (hs:WP X G)
  (ha:∀j z new,augStore i j z new=(do dR [new,j,z] (tV j z new);release [new,j,z] [];pure .next):=by intros;rfl):PS X (.AugAssign (.Subscript o i tpos) op e pos) (Ei to ti te U Y G):=by
 intro pins s σ H D I h
 refine wpAny_AugAssign_SubscriptAny (thn (ho pins s σ H _ I h) λj s1 ⟨b,H1,N,d,C⟩=>?_) ha
 refine thn (hi pins s1 σ H1 _ N C) λz q ⟨a,H2,M,c,B⟩=>?_
 refine thn (hg pins q σ H2 b a j z _ M d c B) λf p ⟨l,R,L,u,A⟩=>?_
 refine thn (he pins p σ R _ L A) λv n ⟨k,Q,K,t,y⟩=>?_
 refine thn (hp pins n σ Q l k f v _ K u t y) λnew m ⟨g,P,J,r,x⟩=>?_
 exact thn (hs pins m σ P b a g j z new _ J d c r x) λ_ S ⟨O,E,w⟩=>⟨σ,O,E,w⟩
noncomputable def ipI (f:Int->Int->Int):TIp:=λx y H Q=>∃i j,x = .int i/\y = .int j/\Q (.int (f i j)) H
theorem WG:PIp X .Add (ipI λi j=>i+j):=by
 intro pins s σ H x y v u Q I b a h
 obtain ⟨i,j,d,c,q⟩:=h
 subst d;subst c
 obtain ⟨t,rfl⟩:=b
 obtain ⟨e,rfl⟩:=a
 exact iadd_int ⟨.int _,H,I.tok _,⟨_,rfl⟩,q⟩
end
section
variable {X:Cx}{pos:Pos}
noncomputable def U3 (c:TT) (tb:TS):TS:=λD σ H=>∃W:Nat->St->Hp->Prop,(∃m,W m σ H)/\∀m σ H,W m σ H ->
 c σ H λb H1=>if b=true then ∃N:St->Hp->Prop,(∀a H',N a H'->∃d,d<m/\W d a H')/\tb { D with nx:=N,ct:=N,bk:=D.nx } σ H1 else D.nx σ H1
theorem QS (z:PassesOwn ↥2 X.A X.env X.xe) (G:PT X c tc) (U:PSs X body tb):PS X (.While c body [] pos) (U3 tc tb):=by
 intro pins s σ H D I h
 obtain ⟨W,⟨B,x⟩,k⟩:=h
 refine wpAny_While (codeAny_whileLoop (λn s'=>∃q H',Inv X pins q H' s'/\W n q H') ?_ B ⟨σ,H,I,x⟩)
 rintro n s1 ⟨e,H1,C,u⟩
 refine dO z (thn (G pins s1 e H1 _ C (k n e H1 u)) λb y ⟨H2,t,i⟩=>?_)
 cases b with
 | true =>
  obtain ⟨N,r,i⟩:=i
  rw [if_pos rfl]
  refine dO z (thn (U pins y e H2 _ t i) λf E g=>?_)
  cases f with
  | next =>
   obtain ⟨a,d,p,l⟩:=g
   obtain ⟨m,o,j⟩:=r a d l
   exact ⟨m,o,a,d,p,j⟩
  | cont =>
   obtain ⟨a,d,p,l⟩:=g
   obtain ⟨m,o,j⟩:=r a d l
   exact ⟨m,o,a,d,p,j⟩
  | brk=>exact g
  | ret v=>exact g
 | false =>
  rw [if_neg ar]
  exact fY ⟨e,H2,t,i⟩
end
structure It where
 go:Nat->Hp->Prop
 yld:Nat->Hp->V->Hp->Prop
 stop:Nat->Hp->Prop
noncomputable def yN (X:Cx) (pins:List (Addr×Obj)) (H:Hp) (b:Addr):Prop :=
 H b=none/\b≠X.env.locals/\b∉X.fs/\ ↥141/\ ↥108/\∀p∈X.pn++pins,p.1≠b
theorem Inv.fpOk {X:Cx}{H':Hp}{b:Addr}(I:Inv X pins σ H s) (j:s.heap.objs.size<=b) (G:H' b=none):yN X pins H' b:=by
 refine ⟨G,cH (aT I.lt j),I.nofs j,.inr (aK I.sz j),λx c e z=>?_,λp a z=>?_⟩
 ·obtain ⟨v,q⟩:=I.cell x c e
  exact absurd (aT q.lt (by rw [z];exact j)) (cp _)
 ·exact absurd (aT (av (I.pin p a).1) (by rw [z];exact j)) (cp _)
structure Turn (P:Program) (w:bD) (K:ah) (tg:Expr) (J:It) (fp:List Addr) (it:Addr) (tn:Nat->Heap->Prop):Prop where
 mem:it∈fp
 obj:∀i h,tn i h->∀b∈fp,∃o,h.get? b=some o/\∀v,o.data≠.cell v
 keep:∀i h h',tn i h->(∀b∈fp,∀o,h.get? b=some o->h'.get? b=some o)->tn i h'
 item:∀(X:Cx),X.prog=P->X.w=w->X.K=K->X.calm=true->∀(i:Nat) (pins:List (Addr×Obj)) (s:Shared) (σ:St) (H:Hp) (E:aj->Shared->Prop),Inv X pins σ H s->(∀b∈fp,yN X pins H b)->tn i s.heap->J.go i H ->
  ay (aF P w) X.A (eC (.ref it)) (λr s1=>∃u,r=some u /\
   ay (aF P w) X.A (d8 tg (.ref it) u) (λ_ s2=>∃x H',Inv X pins σ H' s2/\jH x u/\J.yld i H x H'/\tn (i+1) s2.heap/\∀b∈fp,H' b=none) E s1) E s
 done:∀(X:Cx),X.prog=P->X.w=w->X.K=K->X.calm=true->∀(i:Nat) (pins:List (Addr×Obj)) (s:Shared) (σ:St) (H:Hp) (E:aj->Shared->Prop),Inv X pins σ H s->(∀b∈fp,yN X pins H b)->tn i s.heap->J.stop i H ->
  ay (aF P w) X.A (eC (.ref it)) (λr s1=>r=none/\Inv X pins σ H s1) E s
 self:∀(A:bF) (i:Nat) (s:Shared) (Q:aj->Shared->Prop) (E:aj->Shared->Prop),tn i s.heap->Q (.ref it) s->ay (aF P w) A (m7 (.ref it)) Q E s
noncomputable abbrev TI:=St->Hp->(It->Hp->Prop)->Prop
noncomputable def PIE (X:Cx) (pins:List (Addr×Obj)) (σ:St) (tg:Expr) (R:It->Hp->Prop) (z:aj) (j:Shared):Prop :=
 ∃(it:Addr) (fp:List Addr) (a:Nat->Heap->Prop) (J:It) (H':Hp),z = .ref it/\Inv X pins σ H' j/\Turn X.prog X.w X.K tg J fp it a/\a 0 j.heap/\(∀b∈fp,yN X pins H' b)/\R J H'
noncomputable def PI (X:Cx) (tg iter:Expr) (j:TI):Prop :=
 ∀(pins:List (Addr×Obj)) (s:Shared) (σ:St) (H:Hp) (R:It->Hp->Prop),Inv X pins σ H s->j σ H R ->
  ay ↥2 X.A (eval iter X.env) (λv s1=>ay ↥2 X.A (m7 v) (PIE X pins σ tg R) X.xe s1) X.xe s
theorem JH {s:Shared}{it:Addr}{n:String}{Q:Unit->Shared->Prop}(z:s.heap.get? it=some o) (Y:o.cls = .type n) (U:o.data = .fields vs)
  (G:["enumerate","zip","dict_itemiterator","dict_reverseitemiterator","odict_iterator","itertools.zip_longest","itertools.pairwise"].contains n=false) (j:Q () s):ay M A (d8 tg (.ref it) u) Q E s:=by
 unfold d8
 cases tg <;> first
  | exact wpAny_pure j
  | (cases u <;> first
    | exact wpAny_pure j
    | (refine af (wpAny_load z ?_)
       rw [Y,U]
       show ay M A (if (["enumerate","zip","dict_itemiterator","dict_reverseitemiterator","odict_iterator","itertools.zip_longest","itertools.pairwise"].contains n && vs[0]? == some (cw _))=true then _ else _) Q E s
       rw [if_neg (by intro h;rw [G,Bool.false_and] at h;cases h)]
       exact wpAny_pure j))
noncomputable def Itl (K:ah) (a:Addr):It :=
 ⟨λi H=>∃xs x,SqL K H a xs/\xs[i]? = some x,λi H x H'=>H'=H/\∀xs,SqL K H a xs->xs[i]? = some x,λi H=>∃xs,SqL K H a xs/\xs.length<=i⟩
noncomputable def Itt (K:ah) (a:Addr):It :=
 ⟨λi H=>∃xs x,SqT K H a xs/\xs[i]? = some x,λi H x H'=>H'=H/\∀xs,SqT K H a xs->xs[i]? = some x,λi H=>∃xs,SqT K H a xs/\xs.length<=i⟩
noncomputable def Itr (lo:Int) (n:Nat):It:=⟨λi _=>i<n,λi H x H'=>H'=H/\x = .int (lo+i),λi _=>n<=i⟩
theorem Ye {K:ah}(a it:Addr):Turn P w K tg (Itl K a) [it] it (λi h=>h.IsListIter it a i) where
 mem:=by simp
 obj:=λi h st b hb=>by
  have e:b=it:=by simpa using hb
  subst e
  obtain ⟨o,e,c,d⟩:=st
  exact ⟨o,e,λv z=>by rw [d] at z;cases z⟩
 keep:=λi h h' st k=>st.at λo e=>k it (by simp) o e
 item:=by
  intro X hP hw hK hc i pins s σ H E I hf st hg
  subst hP hw hK
  obtain ⟨xs,x,hq,hx⟩:=hg
  obtain ⟨its,rv,p,hz⟩:=I.list hq
  obtain ⟨u,hu,ru⟩:=rv.get hx
  obtain ⟨f0,f1,f2,f3,f4,f5⟩:=hf it (by simp)
  refine ij st p.isList (x:=u) (by simpa using hu) λh' st' sb=>?_
  have I1:Inv X pins σ H { s with heap:=h' }:=I.turned (t':=s.toks) (λb o hb e=>(sb.2 b hb).trans e) f0 f1 f3 f4 f5
  obtain ⟨o,e,c,d⟩:=id st'
  exact ⟨u,rfl,JH (s:={ s with heap:=h' }) e c d ⋯ ⟨x,H,I1,ru,⟨rfl,λys hy=>by rw [I.list_inj hy hq];exact hx⟩,st',λb hb=>(hf b hb).1⟩⟩
 done:=by
  intro X hP hw hK hc i pins s σ H E I hf st hg
  subst hP hw hK
  obtain ⟨xs,hq,hx⟩:=hg
  obtain ⟨its,rv,p,hz⟩:=I.list hq
  obtain ⟨f0,f1,f2,f3,f4,f5⟩:=hf it (by simp)
  have hl:=rv.length
  exact nk (I.ok.hd hc) st p.isList ↥81 λh' eb=>⟨rfl,I.turned (t':=s.toks) ↥101 f0 f1 f3 f4 f5⟩
 self:=λ_ _ _ _ _ st h=>nu st h
theorem ZB {K:ah}(a it:Addr):Turn P w K tg (Itt K a) [it] it (λi h=>h.IsTupleIter it a i) where
 mem:=by simp
 obj:=λi h st b hb=>by
  have e:b=it:=by simpa using hb
  subst e
  obtain ⟨o,e,c,d⟩:=st
  exact ⟨o,e,λv z=>by rw [d] at z;cases z⟩
 keep:=λi h h' st k=>st.at λo e=>k it (by simp) o e
 item:=by
  intro X hP hw hK hc i pins s σ H E I hf st hg
  subst hP hw hK
  obtain ⟨xs,x,hq,hx⟩:=hg
  obtain ⟨its,rv,p,hz⟩:=I.tuple hq
  obtain ⟨u,hu,ru⟩:=rv.get hx
  obtain ⟨f0,f1,f2,f3,f4,f5⟩:=hf it (by simp)
  refine wpAny_pyNext_tuple_item st (show s.heap.IsTuple a its.toArray from p) (x:=u) (by simpa using hu) λh' st' sb=>?_
  have I1:Inv X pins σ H { s with heap:=h' }:=I.turned (t':=s.toks) (λb o hb e=>(sb.2 b hb).trans e) f0 f1 f3 f4 f5
  obtain ⟨o,e,c,d⟩:=id st'
  exact ⟨u,rfl,JH (s:={ s with heap:=h' }) e c d ⋯ ⟨x,H,I1,ru,⟨rfl,λys hy=>by rw [I.tuple_inj hy hq];exact hx⟩,st',λb hb=>(hf b hb).1⟩⟩
 done:=by
  intro X hP hw hK hc i pins s σ H E I hf st hg
  subst hP hw hK
  obtain ⟨xs,hq,hx⟩:=hg
  obtain ⟨its,rv,p,hz⟩:=I.tuple hq
  obtain ⟨f0,f1,f2,f3,f4,f5⟩:=hf it (by simp)
  have hl:=rv.length
  exact wpAny_pyNext_tuple_end (I.ok.hd hc) st (show s.heap.IsTuple a its.toArray from p) ↥81 λh' eb=>⟨rfl,I.turned (t':=s.toks) ↥101 f0 f1 f3 f4 f5⟩
 self:=λ_ _ _ _ _ st h=>wpAny_pyIter_tupleiter st h
theorem J4 {K:ah}(it:Addr) (lo:Int) (n:Nat):Turn P w K tg (Itr lo n) [it] it (λi h=>rV h it (lo+(i:Nat)*1) ((n:Int)-(i:Nat)) 1) where
 mem:=by simp
 obj:=λi h st b hb=>by
  have e:b=it:=by simpa using hb
  subst e
  exact ⟨_,st,λv z=>by
   have z':i8 _=mi v:=z
   cases z'⟩
 keep:=λi h h' st k=>k it (by simp) _ st
 item:=by
  intro X hP hw hK hc i pins s σ H E I hf st hg
  subst hP hw hK
  obtain ⟨f0,f1,f2,f3,f4,f5⟩:=hf it (by simp)
  have W:=Walks.range (prog:=X.prog) (w:=X.w) (I.ok.hd hc) it lo 1 n
  refine W.item i s _ _ hg st λv h' tk hv st' kk=>?_
  obtain ⟨t,rfl⟩:=hv
  have I1:Inv X pins σ H { s with heap:=h',toks:=tk }:=I.turned (λb o hb e=>kk b o (by simpa using hb) e) f0 f1 f3 f4 f5
  refine ⟨_,rfl,JH (s:={ s with heap:=h',toks:=tk }) (n:="range_iterator") st' rfl rfl ⋯ ⟨.int (lo+i),H,I1,⟨t,?_⟩,⟨rfl,rfl⟩,st',λb hb=>(hf b hb).1⟩⟩
  rw [nH]
 done:=by
  intro X hP hw hK hc i pins s σ H E I hf st hg
  subst hP hw hK
  obtain ⟨f0,f1,f2,f3,f4,f5⟩:=hf it (by simp)
  exact wpAny_pyNext_range_end (I.ok.hd hc) st (by have:n<=i:=hg;omega) λh' eb=>⟨rfl,I.turned (t':=s.toks) ↥101 f0 f1 f3 f4 f5⟩
 self:=λ_ _ _ _ _ st h=>wpAny_pyIter_rangeiter st h
end L2
namespace L2
section
variable {X:Cx}{tg:Expr}
inductive iListI (K:ah) (R:It->Hp->Prop) (x:V) (H1:Hp):Prop
 | mk (a:_) (_:x = .ref a) (_:(∃xs,SqL K H1 a xs)/\R (Itl K a) H1)
noncomputable def Y5 (K:ah) (tl:TE):TI:=λσ H R=>tl σ H λx H1=>iListI K R x H1
inductive iTupI (K:ah) (R:It->Hp->Prop) (x:V) (H1:Hp):Prop
 | mk (a:_) (_:x = .ref a) (_:(∃xs,SqT K H1 a xs)/\R (Itt K a) H1)
noncomputable def E6 (K:ah) (tl:TE):TI:=λσ H R=>tl σ H λx H1=>iTupI K R x H1
theorem UA (j:PE X l tl):PI X tg l (Y5 X.K tl):=by
 intro pins s σ H R I h
 refine thn ↥116 λv s1 ⟨x,H1,c,d,f⟩=>?_
 obtain ⟨a,e,⟨xs,g⟩,q⟩:=f
 subst e
 cases d
 obtain ⟨k,m,p,n⟩:=c.list g
 refine cZ p.isList ?_
 refine ⟨s1.heap.objs.size,[s1.heap.objs.size],_,_,H1,rfl,c.kept (t':=s1.toks) λb o e=>ai _ e,Ye a _,⟨_,aB _ rfl,rfl,rfl⟩,λb i=>?_,q⟩
 have e:b=s1.heap.objs.size:=by simpa using i
 subst e
 exact c.fpOk (au _) (c.hok.fresh (au _))
theorem WZ (j:PE X l tl):PI X tg l (E6 X.K tl):=by
 intro pins s σ H R I h
 refine thn ↥116 λv s1 ⟨x,H1,c,f,g⟩=>?_
 obtain ⟨a,e,⟨xs,i⟩,q⟩:=g
 subst e
 cases f
 obtain ⟨d,m,p,n⟩:=c.tuple i
 refine oN (show s1.heap.IsTuple a d.toArray from p) ?_
 refine ⟨s1.heap.objs.size,[s1.heap.objs.size],_,_,H1,rfl,c.kept (t':=s1.toks) λb o e=>ai _ e,ZB a _,⟨_,aB _ rfl,rfl,rfl⟩,λb k=>?_,q⟩
 have e:b=s1.heap.objs.size:=by simpa using k
 subst e
 exact c.fpOk (au _) (c.hok.fresh (au _))
theorem QH {R:It->Hp->Prop}{lo hi:Int}{tk:Nat}(I:Inv X pins σ H s) (h1 : -(2 ^ 62)<=lo) (h2:lo<2 ^ 62) (z : -(2 ^ 62)<=hi) (j:hi<2 ^ 62)
  (q:R (Itr lo (hi-lo).toNat) H):ay ↥2 X.A (m7 ↥13) (PIE X pins σ tg R) E { s with heap:=s.heap.push { cls:=.type "range",data:=.fields #[.int lo t,.int hi u,.int 1 v] },toks:=tk }:=by
 refine oO (rW ..) (small_one h1 h2 z j) ?_
 have a:Inv X pins σ H { s with heap:=s.heap.push { cls:=.type "range",data:=.fields #[.int lo t,.int hi u,.int 1 v] },toks:=tk }:=I.kept λb o e=>ai _ e
 refine ⟨(↥8).objs.size,[(↥8).objs.size],_,_,H,rfl,
  a.kept (t':=tk) λb o e=>ai _ e,J4 _ lo (hi-lo).toNat,?_,λb c=>?_,q⟩
 ·have f:lo+((0:Nat):Int)*1=lo:=by simp
  have d:(((hi-lo).toNat:Nat):Int)-((0:Nat):Int)=mj lo hi 1:=by rw [tI];split <;> omega
  show rV _ _ (lo+((0:Nat):Int)*1) ((((hi-lo).toNat:Nat):Int)-((0:Nat):Int)) 1
  rw [f,d]
  exact aB _ rfl
 ·have e:b=(↥8).objs.size:=by simpa using c
  subst e
  exact a.fpOk (au _) (a.hok.fresh (au _))
inductive iRng1I (R:It->Hp->Prop) (vs:List V) (H1:Hp):Prop
 | mk (j:Int) (_:vs=[.int j]) (zz2 : -(2 ^ 62)<=j/\j<2 ^ 62/\R (Itr 0 j.toNat) H1)
noncomputable def E3 (ta:TA):TI:=λσ H R=>ta σ H λa H1=>iRng1I R a H1
inductive iRng2I (R:It->Hp->Prop) (vs:List V) (H1:Hp):Prop
 | mk (i j:Int) (_:vs=[.int i,.int j]) (_:(-(2 ^ 62)<=i/\i<2 ^ 62 /\ -(2 ^ 62)<=j/\j<2 ^ 62)) (_:R (Itr i (j-i).toNat) H1)
noncomputable def Ej (ta:TA):TI:=λσ H R=>ta σ H λa H1=>iRng2I R a H1
theorem jU {a:Expr}{p pos:Pos}(U:Gl X "range") (G:X.mg "range" = none) (Y:PA X [a] ta) (z:aO [a] X.env=[(false,eval a X.env)]:=by rfl):PI X tg (.Call (.Name "range" p) [a] [] pos) (E3 ta):=by
 intro pins s σ H R I h
 refine Ad (ym I U G sO (cx (thn (Y pos pins s σ H _ I h) λk s1 ⟨i,H1,g,d,b⟩=>?_) z rfl))
 obtain ⟨j,e,b,f,q⟩:=b
 subst e
 cases d with
 | cons r c =>
  cases c
  obtain ⟨t,rfl⟩:=r
  exact call_range_1 (QH g ∅ ∅ b f (by simpa using q))
theorem Yo {a b:Expr}{p pos:Pos}(Y:Gl X "range") (U:X.mg "range" = none) (ha:PA X [a,b] ta) (G:aO [a,b] X.env=[(false,eval a X.env),(false,eval b X.env)]:=by rfl) (z:aO [b] X.env=[(false,eval b X.env)]:=by rfl) :
  PI X tg (.Call (.Name "range" p) [a,b] [] pos) (Ej ta):=by
 intro pins s σ H R I h
 refine Ad (ym I Y U sO (cx (thn ↥59 λu s1 ⟨o,H1,n,f,d⟩=>?_) (by rw [G,z]) (by rw [z];rfl)))
 obtain ⟨i,j,e,⟨d,m,l,k⟩,q⟩:=d
 subst e
 cases f with
 | cons r c =>
  cases c with
  | cons g c =>
   cases c
   obtain ⟨t,rfl⟩:=r
   obtain ⟨v,rfl⟩:=g
   exact call_range_2 (QH n d m l k q)
noncomputable def tFor (j:TI) (g:TG) (tb:TS):TS:=λD σ H=>j σ H λJ H1=>∃W:Nat->Nat->St->Hp->Prop,(∃m,W 0 m σ H1)/\∀i m σ H,W i m σ H ->
 (J.stop i H/\D.nx σ H)\/(J.go i H/\∃N:St->Hp->Prop,(∀a H',N a H'->∃b,b<m/\W (i+1) b a H')/\∀x H',J.yld i H x H'->g x σ H' λc H2=>tb { D with nx:=N,ct:=N,bk:=D.nx } c H2)
noncomputable def zC (fp:List Addr) (h:Heap):List (Addr×Obj):=fp.filterMap λb=>(h.get? b).map λo=>(b,o)
theorem qU {fp:List Addr}{h:Heap}{b:Addr}(j:b∈fp) (e:h.get? b=some o):(b,o)∈zC fp h:=List.mem_filterMap.mpr ⟨b,j,by rw [e];rfl⟩
theorem V6 {p:Addr×Obj}(j:p∈zC fp h):p.1∈fp/\h.get? p.1=some p.2:=by
 obtain ⟨b,a,e⟩:=List.mem_filterMap.mp j
 cases q:h.get? b with
 | none=>rw [q] at e;cases e
 | some o =>
  rw [q] at e
  have c:(b,o)=p:=aI e
  subst c
  exact ⟨a,q⟩
theorem Inv.pinned {fp:List Addr}(I:Inv X pins σ H s) (G:∀b∈fp,yN X pins H b) (j:∀b∈fp,∃o,s.heap.get? b=some o/\∀v,o.data≠.cell v):Inv X (pins++zC fp s.heap) σ H s :=
 I.pins_of λp f=>(List.mem_append.mp f).elim (λz=>I.pin p (aH _ z)) λz=>by
  obtain ⟨a,e⟩:=V6 z
  obtain ⟨i,h,g,_⟩:=G p.1 a
  obtain ⟨o,c,d⟩:=j p.1 a
  rw [e] at c;cases c
  exact ⟨e,i,h,g,d⟩
theorem Inv.unpinned {pins pl:List (Addr×Obj)}(I:Inv X (pins++pl) σ H s):Inv X pins σ H s:=I.pins_of λp a=>I.pin p (aH _ (cC _ a))
theorem xf {pos:Pos}(G:PassesOwn ↥2 X.A X.env X.xe) (U:X.calm=true) (hi:PI X tg iter wi) (hg:PG X tg g) (j:PSs X body tb)
  (hs:∀x,cK iter X.env x=pure x:=by intro _;rfl):PS X (.For tg iter body [] pos) (tFor wi g tb):=by
 intro pins s σ H D I h
 refine wpAny_For (thn (hi pins s σ H _ I h) λv s1 h1=>thn h1 λab s2 h2=>?_) hs
 obtain ⟨it,fp,P,J,H2,e,I2,T,Q,Y,W,⟨m0,w0⟩,K⟩:=h2
 subst e
 have p:∀{H':Hp},↥55->∀b∈fp,yN X pins H' b:=λhn b j=>⟨hn b j,(Y b j).2⟩
 refine codeAny_forLoop_any (λn s'=>∃i t H',Inv X pins t H' s'/\P i s'.heap/\ ↥55/\W i n t H') ?_ m0 ⟨0,σ,H2,I2,Q,λb j=>(Y b j).1,w0⟩
 rintro n S ⟨i,q,B,I3,C,E,w3⟩
 rcases K i n q B w3 with ⟨L,qn⟩ | ⟨go,N,hN,step⟩
 ·refine dO G (thn (T.done X rfl rfl rfl U i pins S q B X.xe I3 (p E) C L) λr s4 ⟨O,I4⟩=>?_)
  subst O
  exact fY ⟨q,B,I4,qn⟩
 ·refine dO G (thn (T.item X rfl rfl rfl U i pins S q B X.xe I3 (p E) C go) λr s4 ⟨u,O,h4⟩=>?_)
  subst O
  refine dO G (thn h4 λ_ R ⟨x,H5,I5,r5,y5,y,V⟩=>?_)
  have Z:=I5.pinned (p V) (T.obj _ _ y)
  refine dO G (thn (hg _ R q H5 x u _ Z r5 (step x H5 y5)) λ_ s6 ⟨σ6,H6,I6,q6⟩=>?_)
  refine dO G (thn (j _ s6 σ6 H6 _ I6 q6) λf M l=>?_)
  have again:∀{a:St} {k:Hp},Inv X (pins++zC fp R.heap) a k M->N a k->∃m,m<n/\∃i t H',Inv X pins t H' M/\P i M.heap/\ ↥55/\W i m t H':=λ{a k} c z=>by
   obtain ⟨m',hm,w7⟩:=hN a k z
   refine ⟨m',hm,i+1,a,k,c.unpinned,T.keep _ _ _ y λb j o e=>(c.pin (b,o) (aH _ (aH _ (qU j e)))).1,λb j=>?_,w7⟩
   obtain ⟨o,e,d⟩:=T.obj _ _ y b j
   exact (c.pin (b,o) (aH _ (aH _ (qU j e)))).2.1
  cases f with
  | next=>obtain ⟨a,k,c,z⟩:=l;exact again c z
  | cont=>obtain ⟨a,k,c,z⟩:=l;exact again c z
  | brk=>obtain ⟨a,k,c,l⟩:=l;exact ⟨a,k,c.unpinned,l⟩
  | ret v=>obtain ⟨x7,a,k,c,r7,l⟩:=l;exact ⟨x7,a,k,c.unpinned,r7,l⟩
end
theorem gh {K:ah}{xs:List V}{g:TG}{tb:TS}{D:Ends}{σ:St}{H:Hp}(Pv:Nat->St->Hp->Prop) (h0:Pv 0 σ H) (Y:∀i σ H,i<=xs.length->Pv i σ H->SqL K H a xs)
  (U:∀i x σ H,xs[i]? = some x->Pv i σ H->g x σ H λj H2=>tb { D with nx:=Pv (i+1),ct:=Pv (i+1),bk:=D.nx } j H2) (hd:∀σ H,Pv xs.length σ H->D.nx σ H) :
  ∃W:Nat->Nat->St->Hp->Prop,↥76/\∀i m σ H,W i m σ H ->
   ((Itl K a).stop i H/\D.nx σ H)\/((Itl K a).go i H/\∃N:St->Hp->Prop,↥109/\∀x H',(Itl K a).yld i H x H'->g x σ H' λj H2=>tb { D with nx:=N,ct:=N,bk:=D.nx } j H2):=by
 refine ⟨λi m σ H=>m=xs.length-i/\i<=xs.length/\Pv i σ H,⟨xs.length,by simp,aN _,h0⟩,?_⟩
 rintro i m σ H ⟨rfl,hi,p⟩
 have q:=Y i σ H hi p
 by_cases b:i<xs.length
 ·refine .inr ⟨⟨xs,xs[i],q,by simp [b]⟩,Pv (i+1),λz H' c=>⟨xs.length-(i+1),∅,rfl,b,c⟩,λx H' y=>?_⟩
  obtain ⟨e,y⟩:=y
  subst e
  exact U i x σ _ (y xs q) p
 ·have e:i=xs.length:=∅
  subst e
  exact .inl ⟨⟨xs,q,au _⟩,hd σ H p⟩
theorem UH {K:ah}{xs:List V}{g:TG}{tb:TS}{D:Ends}{σ:St}{H:Hp}(Pv:Nat->St->Hp->Prop) (h0:Pv 0 σ H) (Y:∀i σ H,i<=xs.length->Pv i σ H->SqT K H a xs)
  (U:∀i x σ H,xs[i]? = some x->Pv i σ H->g x σ H λj H2=>tb { D with nx:=Pv (i+1),ct:=Pv (i+1),bk:=D.nx } j H2) (hd:∀σ H,Pv xs.length σ H->D.nx σ H) :
  ∃W:Nat->Nat->St->Hp->Prop,↥76/\∀i m σ H,W i m σ H ->
   ((Itt K a).stop i H/\D.nx σ H)\/((Itt K a).go i H/\∃N:St->Hp->Prop,↥109/\∀x H',(Itt K a).yld i H x H'->g x σ H' λj H2=>tb { D with nx:=N,ct:=N,bk:=D.nx } j H2):=by
 refine ⟨λi m σ H=>m=xs.length-i/\i<=xs.length/\Pv i σ H,⟨xs.length,by simp,aN _,h0⟩,?_⟩
 rintro i m σ H ⟨rfl,hi,p⟩
 have q:=Y i σ H hi p
 by_cases b:i<xs.length
 ·refine .inr ⟨⟨xs,xs[i],q,by simp [b]⟩,Pv (i+1),λz H' c=>⟨xs.length-(i+1),∅,rfl,b,c⟩,λx H' y=>?_⟩
  obtain ⟨e,y⟩:=y
  subst e
  exact U i x σ _ (y xs q) p
 ·have e:i=xs.length:=∅
  subst e
  exact .inl ⟨⟨xs,q,au _⟩,hd σ H p⟩
theorem qY {lo:Int}{n:Nat}{g:TG}{tb:TS}{D:Ends}{σ:St}{H:Hp}(Pv:Nat->St->Hp->Prop) (h0:Pv 0 σ H)
  (U:∀i σ H,i<n->Pv i σ H->g (.int (lo+i)) σ H λj H2=>tb { D with nx:=Pv (i+1),ct:=Pv (i+1),bk:=D.nx } j H2) (Y:∀σ H,Pv n σ H->D.nx σ H) :
  ∃W:Nat->Nat->St->Hp->Prop,↥76/\∀i m σ H,W i m σ H ->
   ((Itr lo n).stop i H/\D.nx σ H)\/((Itr lo n).go i H/\∃N:St->Hp->Prop,↥109/\∀x H',(Itr lo n).yld i H x H'->g x σ H' λj H2=>tb { D with nx:=N,ct:=N,bk:=D.nx } j H2):=by
 refine ⟨λi m σ H=>m=n-i/\i<=n/\Pv i σ H,⟨n,by simp,aN _,h0⟩,?_⟩
 rintro i m σ H ⟨rfl,hi,p⟩
 by_cases a:i<n
 ·refine .inr ⟨a,Pv (i+1),λz H' b=>⟨n-(i+1),∅,rfl,a,b⟩,λx H' y=>?_⟩
  obtain ⟨e,y⟩:=y
  subst e y
  exact U i σ _ a p
 ·have e:i=n:=∅
  subst e
  exact .inl ⟨au _,Y σ H p⟩
theorem Xm {c:TT}{tb:TS}{D:Ends}{σ:St}{H:Hp}(Pv:St->Hp->Prop) (μ:St->Hp->Nat) (U:Pv σ H)
  (G:∀σ H,Pv σ H->c σ H λb H1=>if b=true then tb { D with nx:=λj H'=>Pv j H'/\μ j H'<μ σ H,ct:=λj H'=>Pv j H'/\μ j H'<μ σ H,bk:=D.nx } σ H1 else D.nx σ H1)
  (mono:∀σ H Q z,(∀b H1,Q b H1->z b H1)->c σ H Q->c σ H z):U3 c tb D σ H:=by
 refine ⟨λm σ H=>m=μ σ H/\Pv σ H,⟨_,rfl,U⟩,?_⟩
 rintro m σ H ⟨rfl,p⟩
 refine mono σ H _ _ (λb H1 q=>?_) (G σ H p)
 cases b with
 | true=>exact ⟨_,λj H' ⟨a,l⟩=>⟨_,l,rfl,a⟩,q⟩
 | false=>exact q
end L2
namespace L2
noncomputable abbrev R2:=V->V->Hp->VK->Prop
noncomputable def OpR (X:Cx) (f:aj->aj->Sem aj) (r:R2):Prop :=
 ∀(pins:List (Addr×Obj)) (s:Shared) (σ:St) (H:Hp) (x y:V) (v u:aj) (Q:VK),Inv X pins σ H s->jH x v->jH y u->r x y H Q ->
  ay ↥2 X.A (f v u) ↥51 X.xe s
noncomputable def UnR (X:Cx) (f:aj->Sem aj) (r:V->Hp->VK->Prop):Prop :=
 ∀(pins:List (Addr×Obj)) (s:Shared) (σ:St) (H:Hp) (x:V) (v:aj) (Q:VK),Inv X pins σ H s->jH x v->r x H Q ->
  ay ↥2 X.A (f v) ↥51 X.xe s
noncomputable def xh (X:Cx) (f:aj) (r:List V->Hp->VK->Prop):Prop :=
 ∀(pins:List (Addr×Obj)) (s:Shared) (σ:St) (H:Hp) (xs:List V) (a:List aj) (Q:VK),Inv X pins σ H s->jI xs a->r xs H Q ->
  ay ↥2 X.A (call f a) ↥51 X.xe s
noncomputable def tOp (r:R2) (ta tb:TE):TE:=λσ H Q=>ta σ H λx H1=>tb σ H1 λy H2=>r x y H2 Q
noncomputable def tUn (r:V->Hp->VK->Prop) (ta:TE):TE:=λσ H Q=>ta σ H λx H1=>r x H1 Q
inductive rI (C:Int->Int->Prop) (g:Int->Int->V) (x:V) (y:V) (H:Hp) (Q:VK):Prop
 | mk (i:_) (j:_) (_:x = .int i) (_:y = .int j) (_:C i j/\Q (g i j) H)
inductive rI0 (g:Int->Int->V) (x:V) (y:V) (H:Hp) (Q:VK):Prop
 | mk (i:_) (j:_) (_:x = .int i) (_:y = .int j) (_:Q (g i j) H)
inductive rU (g:Int->V) (x:V) (H:Hp) (Q:VK):Prop
 | mk (i:_) (_:x = .int i) (_:Q (g i) H)
section
variable {X:Cx}{a b c:Expr}{ta tb tc:TE}{pos:Pos}
theorem GB (ha:PE X a ta) (Y:PE X b tb) {s:Shared}{σ:St}{R:V->V->Hp->Prop}(I:Inv X pins σ H s)
  (h:ta σ H λx H1=>tb σ H1 λy H2=>R x y H2) {Q:aj->Shared->Prop} {f:aj->aj->Sem aj}
  (U:∀v u j x y H2,Inv X pins σ H2 j->jH x v->jH y u->R x y H2->ay ↥2 X.A (f v u) Q X.xe j) :
  ay ↥2 X.A (eval a X.env) (λv G=>ay ↥2 X.A (eval b X.env) (λu z=>ay ↥2 X.A (f v u) Q X.xe z) X.xe G) X.xe s:=by
 refine thn (ha pins s σ H _ I h) λv s1 ⟨x,H1,k,d,g⟩=>?_
 refine thn (Y pins s1 σ H1 _ k g) λu j ⟨y,H2,i,c,e⟩=>?_
 exact U v u j x y H2 i d c e
theorem jh (z:OpR X (fE j) r) (U:PE X a ta) (G:PE X b tb):PE X (.BinOp a j b pos) (tOp r ta tb):=by
 intro pins s σ H Q I h
 exact wpAny_BinOp (GB U G I h λv u c x y H2 f e d q=>z pins c σ H2 x y v u Q f e d q)
theorem vi (z:UnR X (unaryOp j) r) (G:PE X a ta):PE X (.UnaryOp j a pos) (tUn r ta):=by
 intro pins s σ H Q I h
 exact UnaryOp_ (thn (G pins s σ H _ I h) λv s1 ⟨x,H1,d,b,c⟩=>z pins s1 σ H1 x v Q d b c)
theorem opI {f:aj->aj->Sem aj}{C:Int->Int->Prop}{g:Int->Int->Int}
  (rule:∀(i j:Int) (t u:Tok) (s:Shared) (Q:aj->Shared->Prop) (E:aj->Shared->Prop),C i j->Q (.int (g i j) s.toks) { s with toks:=s.toks+1 }->ay ↥2 X.A (f (.int i t) (.int j u)) Q E s) :
  OpR X f (rI C λi j=>.int (g i j)):=by
 intro pins s σ H x y v u Q I c b h
 obtain ⟨i,j,rfl,rfl,d,q⟩:=h
 obtain ⟨t,rfl⟩:=c
 obtain ⟨a,rfl⟩:=b
 exact rule i j t a s _ _ d ⟨.int (g i j),H,I.tok _,⟨_,rfl⟩,q⟩
theorem Ey {f:aj->aj->Sem aj}{g:Int->Int->Int}
  (rule:∀(i j:Int) (t u:Tok) (s:Shared) (Q:aj->Shared->Prop) (E:aj->Shared->Prop),Q (.int (g i j) s.toks) { s with toks:=s.toks+1 }->ay ↥2 X.A (f (.int i t) (.int j u)) Q E s) :
  OpR X f (rI0 λi j=>.int (g i j)):=by
 intro pins s σ H x y v u Q I c b h
 obtain ⟨i,j,rfl,rfl,q⟩:=h
 obtain ⟨t,rfl⟩:=c
 obtain ⟨a,rfl⟩:=b
 exact rule i j t a s _ _ ⟨.int (g i j),H,I.tok _,⟨_,rfl⟩,q⟩
theorem UV {f:aj->aj->Sem aj}{g:Int->Int->Bool}
  (rule:∀(i j:Int) (t u:Tok) (s:Shared) (Q:aj->Shared->Prop) (E:aj->Shared->Prop),Q (.bool (g i j)) s->ay ↥2 X.A (f (.int i t) (.int j u)) Q E s) :
  OpR X f (rI0 λi j=>.bl (g i j)):=by
 intro pins s σ H x y v u Q I c b h
 obtain ⟨i,j,rfl,rfl,q⟩:=h
 obtain ⟨t,rfl⟩:=c
 obtain ⟨a,rfl⟩:=b
 exact rule i j t a s _ _ ⟨.bl (g i j),H,I,rfl,q⟩
noncomputable def Ep (i j:Int):Prop:=0<=j/\j<=1000000/\i.natAbs<2 ^ 64
noncomputable def VU (i j:Int):Prop:=(-(2 ^ 64)<i/\i<2 ^ 64)\/(-(2 ^ 64)<j/\j<2 ^ 64)
theorem VU.ok {i j:Int}(h:VU i j):IntMulOk i j:=by
 rcases h with ⟨h1,h2⟩ | ⟨h1,h2⟩
 ·exact .of_left (tJ h1 h2)
 ·exact .of_right (tJ h1 h2)
theorem jE:OpR X (fE .Add) (rI0 λi j=>.int (i+j)):=Ey λ_ _ _ _ _ _ _ q=>add_int q
theorem jN:OpR X (fE .Sub) (rI0 λi j=>.int (i-j)):=Ey λ_ _ _ _ _ _ _ q=>sub_int q
theorem vt:OpR X (fE .Mult) (rI VU λi j=>.int (i*j)):=opI λ_ _ _ _ _ _ _ a q=>mul_int q a.ok
theorem zE:OpR X (fE .Mod) (rI (λ_ j=>0<j) λi j=>.int (i % j)):=opI λi j _ _ _ _ _ a q=>by
 have h1:(0:Int)<j:=a
 exact mod_int' ∅ (by rw [Int.fmod_eq_emod_of_nonneg i ∅];exact q)
theorem yp:OpR X (fE .Pow) (rI Ep λi j=>.int (i ^ j.toNat)):=opI λ_ _ _ _ _ _ _ a q=>pow_int_small a.1 a.2.1 a.2.2 q
theorem unI {f:aj->Sem aj}{g:Int->Int}
  (rule:∀(i:Int) (t:Tok) (s:Shared) (Q:aj->Shared->Prop) (E:aj->Shared->Prop),Q (.int (g i) s.toks) { s with toks:=s.toks+1 }->ay ↥2 X.A (f (.int i t)) Q E s) :
  UnR X f (rU λi=>.int (g i)):=by
 intro pins s σ H x v Q I a h
 obtain ⟨i,rfl,q⟩:=h
 obtain ⟨t,rfl⟩:=a
 exact rule i t s _ _ ⟨.int (g i),H,I.tok _,⟨_,rfl⟩,q⟩
theorem zB:UnR X (unaryOp .USub) (rU λi=>.int (-i)):=unI λ_ _ _ _ _ q=>neg_int q
end
noncomputable def EB:V->V->Bool
 | .non,.non=>true | .non,.int _=>true | .int _,.non=>true | .non,.bl _=>true | .bl _,.non=>true | .non,.str _=>true | .str _,.non=>true
 | .int _,.int _=>true | .bl _,.bl _=>true | .str _,.str _=>true | .byt _,.byt _=>true
 | .int _,.str _=>true | .str _,.int _=>true | .bl _,.str _=>true | .str _,.bl _=>true
 | _,_=>false
noncomputable def rEq:R2:=λx y H Q=>EB x y=true/\Q (.bl (decide (x=y))) H
noncomputable def rNe:R2:=λx y H Q=>EB x y=true/\Q (.bl (!decide (x=y))) H
theorem ZY {i j:Int}:decide (V.int i=V.int j)=(i == j):=by
 rw [fc]
 simp
theorem VS {i j:Bool}:decide (V.bl i=V.bl j)=(i == j):=by
 rw [fc]
 simp
theorem ZZ :decide (V.str i=V.str j)=(i == j):=by
 rw [fc]
 simp
theorem ZT :decide (V.byt i=V.byt j)=(i.toList == j.toList):=by
 rw [fc]
 cases i
 cases j
 simp
section
variable {X:Cx}{a b c:Expr}{ta tb tc:TE}{pos:Pos}
theorem jW {Q:VK}{k j:Bool}(I:Inv X pins σ H s) (q:Q (.bl k) H) (e:k=j):EP X pins σ Q (.bool j) s:=by
 subst e
 exact ⟨.bl k,H,I,rfl,q⟩
theorem xW:OpR X (cq .Eq) rEq:=by
 intro pins s σ H x y v u Q I d a h
 obtain ⟨c,q⟩:=h
 cases x with
 | non =>
  cases d
  cases y with
  | non=>cases a;exact PySem.EqNone.eq_none_none ↥28
  | bl j=>cases a;exact PySem.EqNone.eq_none_bool ↥28
  | int j=>obtain ⟨b,rfl⟩:=a;exact PySem.EqNone.eq_none_int ↥28
  | str j=>obtain ⟨b,rfl⟩:=a;exact PySem.EqNone.eq_none_str ↥28
  | _=>exact absurd (show false=true from c) ar
 | bl i =>
  cases d
  cases y with
  | non=>cases a;exact PySem.EqNone.eq_bool_none ↥28
  | bl j=>cases a;exact eq_bool (jW I q VS)
  | str j=>obtain ⟨b,rfl⟩:=a;exact PySem.EqMixed.eq_bool_str ↥28
  | _=>exact absurd (show false=true from c) ar
 | int i =>
  obtain ⟨t,rfl⟩:=d
  cases y with
  | non=>cases a;exact PySem.EqNone.eq_int_none ↥28
  | int j=>obtain ⟨b,rfl⟩:=a;exact eq_int (jW I q ZY)
  | str j=>obtain ⟨b,rfl⟩:=a;exact PySem.EqMixed.eq_int_str ↥28
  | _=>exact absurd (show false=true from c) ar
 | str i =>
  obtain ⟨t,rfl⟩:=d
  cases y with
  | non=>cases a;exact PySem.EqNone.eq_str_none ↥28
  | bl j=>cases a;exact PySem.EqMixed.eq_str_bool ↥28
  | int j=>obtain ⟨b,rfl⟩:=a;exact PySem.EqMixed.eq_str_int ↥28
  | str j=>obtain ⟨b,rfl⟩:=a;exact eq_str (jW I q ZZ)
  | _=>exact absurd (show false=true from c) ar
 | byt i =>
  obtain ⟨t,rfl⟩:=d
  cases y with
  | byt j=>obtain ⟨b,rfl⟩:=a;exact PySem.W.eq_bytes (jW I q ZT)
  | _=>exact absurd (show false=true from c) ar
 | _=>cases y <;> exact absurd (show false=true from c) ar
theorem Vz:OpR X (cq .NotEq) rNe:=by
 intro pins s σ H x y v u Q I d a h
 obtain ⟨c,q⟩:=h
 cases x with
 | non =>
  cases d
  cases y with
  | non=>cases a;exact PySem.EqNone.ne_none_none ↥28
  | bl j=>cases a;exact PySem.EqNone.ne_none_bool ↥28
  | int j=>obtain ⟨b,rfl⟩:=a;exact PySem.EqNone.ne_none_int ↥28
  | str j=>obtain ⟨b,rfl⟩:=a;exact PySem.EqNone.ne_none_str ↥28
  | _=>exact absurd (show false=true from c) ar
 | bl i =>
  cases d
  cases y with
  | non=>cases a;exact PySem.EqNone.ne_bool_none ↥28
  | bl j=>cases a;exact ne_bool (jW I q (congrArg not VS))
  | str j=>obtain ⟨b,rfl⟩:=a;exact PySem.EqMixed.ne_bool_str ↥28
  | _=>exact absurd (show false=true from c) ar
 | int i =>
  obtain ⟨t,rfl⟩:=d
  cases y with
  | non=>cases a;exact PySem.EqNone.ne_int_none ↥28
  | int j=>obtain ⟨b,rfl⟩:=a;exact ne_int (jW I q (congrArg not ZY))
  | str j=>obtain ⟨b,rfl⟩:=a;exact PySem.EqMixed.ne_int_str ↥28
  | _=>exact absurd (show false=true from c) ar
 | str i =>
  obtain ⟨t,rfl⟩:=d
  cases y with
  | non=>cases a;exact PySem.EqNone.ne_str_none ↥28
  | bl j=>cases a;exact PySem.EqMixed.ne_str_bool ↥28
  | int j=>obtain ⟨b,rfl⟩:=a;exact PySem.EqMixed.ne_str_int ↥28
  | str j=>obtain ⟨b,rfl⟩:=a;exact ne_str (jW I q (congrArg not ZZ))
  | _=>exact absurd (show false=true from c) ar
 | byt i =>
  obtain ⟨t,rfl⟩:=d
  cases y with
  | byt j=>obtain ⟨b,rfl⟩:=a;exact PySem.W.ne_bytes (jW I q (congrArg not ZT))
  | _=>exact absurd (show false=true from c) ar
 | _=>cases y <;> exact absurd (show false=true from c) ar
theorem vg:OpR X (cq .Lt) (rI0 λi j=>.bl (decide (i<j))):=UV λ_ _ _ _ _ _ _ q=>lt_int q
theorem qA:OpR X (cq .LtE) (rI0 λi j=>.bl (decide (i<=j))):=UV λ_ _ _ _ _ _ _ q=>le_int q
theorem Uf:OpR X (cq .Gt) (rI0 λi j=>.bl (decide (j<i))):=UV λ_ _ _ _ _ _ _ q=>gt_int q
theorem XG:OpR X (cq .GtE) (rI0 λi j=>.bl (decide (j<=i))):=UV λ_ _ _ _ _ _ _ q=>ge_int q
theorem ZH:OpR X (cq .Is) (λx y H Q=>y = .non/\Q (.bl (decide (x = .non))) H):=by
 intro pins s σ H x y v u Q I a b h
 obtain ⟨rfl,q⟩:=h
 cases b
 refine is_none_gen (jW I q ?_)
 cases x <;> first
  | (cases a;rfl)
  | (obtain ⟨t,rfl⟩:=a;rfl)
theorem Ux:OpR X (cq .IsNot) (λx y H Q=>y = .non/\Q (.bl (!decide (x = .non))) H):=by
 intro pins s σ H x y v u Q I a b h
 obtain ⟨rfl,q⟩:=h
 cases b
 refine isnot_none_gen (jW I q ?_)
 cases x <;> first
  | (cases a;rfl)
  | (obtain ⟨t,rfl⟩:=a;rfl)
theorem jF (b:Expr) {j:CmpOp}(h:j≠.In:=by decide) (h2:j≠.NotIn:=by decide):fi j b=false:=by
 have c:(j == CmpOp.In)=false:=by cases j <;> first | rfl | exact absurd rfl h
 have a:(j == CmpOp.NotIn)=false:=by cases j <;> first | rfl | exact absurd rfl h2
 cases b <;> simp [fi,c,a]
theorem xX (z:OpR X (cq j) r) (Y:PE X a ta) (U:PE X b tb) (G:fi j b=false):PE X (.Compare a [j] [b] pos) (tOp r ta tb):=by
 intro pins s σ H Q I h
 exact wpAny_Compare1 (GB Y U I h λv u c x y H2 f e d q=>z pins c σ H2 x y v u Q f e d q) G
inductive tTestI (Q:Bool->Hp->Prop) (x:V) (H':Hp):Prop
 | mk (k:_) (_:x = .bl k) (_:Q k H')
noncomputable def Xv (t:TE):TT:=λσ H Q=>t σ H λx H'=>tTestI Q x H'
theorem jA (G:OpR X (cq j) r) (ha:PE X a ta) (Y:PE X b tb) (U:fi j b=false):PT X (.Compare a [j] [b] pos) (Xv (tOp r ta tb)):=by
 intro pins s σ H Q I h
 refine nj (thn (ha pins s σ H _ I h) λv s1 ⟨x,H1,q,i,n⟩=>thn (Y pins s1 σ H1 _ q n) λu d ⟨y,H2,p,g,m⟩ =>
  thn (G pins d σ H2 x y v u _ p i g m) λc w ⟨z,t,o,f,k,e,l⟩=>?_) U
 subst e
 cases f
 exact c0 ⟨t,o,l⟩
noncomputable def Vy (r j:R2) (ta tb tc:TE):TE:=λσ H Q=>ta σ H λx H1=>tb σ H1 λy H2=>r x y H2 λz a=>∃k,z = .bl k /\
 (if k=true then tc σ a λb c=>j y b c Q else Q (.bl false) a)
theorem yA (ho:OpR X (cq G) r) (U:OpR X (cq j) Y) (ha:PE X a ta) (hb:PE X b tb) (hc:PE X c tc)
  (hm:lastMarks [G,j] [b,c]=false:=by with_unfolding_all rfl):PE X (.Compare a [G,j] [b,c] pos) (Vy r Y ta tb tc):=by
 intro pins s σ H Q I h
 refine Compare_chain (thn (ha pins s σ H _ I h) λv s1 ⟨x,H1,K,A,D⟩=>chain_link (thn (hb pins s1 σ H1 _ K D) λu q ⟨y,H2,J,f,C⟩ =>
  thn (ho pins q σ H2 x y v u _ J A f C) λd p ⟨z,l,i,w,k,e,g⟩=>?_)) hm
 subst e
 cases w
 refine c0 ?_
 cases k with
 | false=>exact ite_ff ⟨.bl false,l,i,rfl,g⟩
 | true=>exact ite_tt (chain_last (thn (hc pins p σ l _ i g) λn o ⟨m,L,E,t,B⟩=>U pins o σ L y m u n Q E f t B))
theorem xj (ho:OpR X (cq G) r) (U:OpR X (cq j) Y) (ha:PE X a ta) (hb:PE X b tb) (hc:PE X c tc)
  (hm:lastMarks [G,j] [b,c]=false:=by with_unfolding_all rfl):PT X (.Compare a [G,j] [b,c] pos) (Xv (Vy r Y ta tb tc)):=by
 intro pins s σ H Q I h
 refine isTrue_chain (thn (ha pins s σ H _ I h) λv s1 ⟨x,H1,R,B,J⟩=>test_link (thn (hb pins s1 σ H1 _ R J) λu q ⟨y,H2,P,f,E⟩ =>
  thn (ho pins q σ H2 x y v u _ P B f E) λd p ⟨z,l,i,A,k,e,g⟩=>?_)) hm
 subst e
 cases A
 refine c0 ?_
 cases k with
 | false =>
  obtain ⟨k',M,K⟩:=g
  cases M
  exact ite_ff ⟨l,i,K⟩
 | true =>
  refine ite_tt (test_last (thn (hc pins p σ l _ i g) λn o ⟨m,T,O,w,D⟩=>thn (U pins o σ T y m u n _ O f w D) λd' Z ⟨V,S,N,t,k2,L,C⟩=>?_))
  subst L
  cases t
  exact c0 ⟨S,N,C⟩
theorem gR:(sizeLine:Nat)<2 ^ 63:=by rw [bS];decide
theorem zX {x:V}(r:jI [x] us):∃u,us=[u]/\jH x u:=by
 cases r with
 | cons b a=>cases a;exact ⟨_,rfl,b⟩
theorem Y4 {x y:V}(r:jI [x,y] us):∃u w',us=[u,w']/\jH x u/\jH y w':=by
 cases r with
 | cons d c =>
  cases c with
  | cons b a=>cases a;exact ⟨_,_,rfl,d,b⟩
inductive cI_call_abs (xs:List V) (H:Hp) (Q:VK):Prop
 | mk (i:_) (_:xs=[.int i]) (_:Q (.int (if i<0 then -i else i)) H)
theorem U6:xh X (.builtin "abs") cI_call_abs:=by
 intro pins s σ H xs a Q I r h
 obtain ⟨i,rfl,q⟩:=h
 obtain ⟨u,rfl,t,rfl⟩:=zX r
 exact call_abs_int λu tk=>⟨.int (if i<0 then -i else i),H,I.tok _,⟨_,rfl⟩,q⟩
inductive cI_call_max2 (xs:List V) (H:Hp) (Q:VK):Prop
 | mk (i:_) (j:_) (_:xs=[.int i,.int j]) (_:Q (.int (if j > i then j else i)) H)
theorem qO (z:X.calm=true):xh X (.builtin "max") cI_call_max2:=by
 intro pins s σ H xs c Q I r h
 obtain ⟨i,j,rfl,q⟩:=h
 obtain ⟨u,b,rfl,⟨t,rfl⟩,⟨d,rfl⟩⟩:=Y4 r
 refine max_two_ints (I.ok.hd z) λh' tk k=>⟨_,H,I.kept k,?_,q⟩
 by_cases a:j > i
 ·rw [if_pos a,if_pos a];exact ⟨_,rfl⟩
 ·rw [if_neg a,if_neg a];exact ⟨_,rfl⟩
inductive cI_call_min2 (xs:List V) (H:Hp) (Q:VK):Prop
 | mk (i:_) (j:_) (_:xs=[.int i,.int j]) (_:Q (.int (if j<i then j else i)) H)
theorem vY (z:X.calm=true):xh X (.builtin "min") cI_call_min2:=by
 intro pins s σ H xs c Q I r h
 obtain ⟨i,j,rfl,q⟩:=h
 obtain ⟨u,b,rfl,⟨t,rfl⟩,⟨d,rfl⟩⟩:=Y4 r
 refine min_two_ints (I.ok.hd z) λh' tk k=>⟨_,H,I.kept k,?_,q⟩
 by_cases a:j<i
 ·rw [if_pos a,if_pos a];exact ⟨_,rfl⟩
 ·rw [if_neg a,if_neg a];exact ⟨_,rfl⟩
theorem Ym:xh X (.type "int") (λxs H Q=>(∃i,xs=[.int i]/\Q (.int i) H)\/∃k,xs=[.bl k]/\Q (.int (if k then 1 else 0)) H):=by
 intro pins s σ H xs b Q I r h
 rcases h with ⟨i,rfl,q⟩ | ⟨k,rfl,q⟩
 ·obtain ⟨u,rfl,t,rfl⟩:=zX r
  exact call_int_int ⟨.int i,H,I,⟨_,rfl⟩,q⟩
 ·obtain ⟨u,rfl,a⟩:=zX r
  cases a
  exact call_int_bool ⟨.int (if k then 1 else 0),H,I.tok _,⟨_,rfl⟩,q⟩
end
end L2
namespace L2
structure ObjM (h:Heap) (x dx C:Addr) (mA:Str->Option aj):Prop where
 obj:h.get? x=some (dq C dx)
 ns:h.Ns1 dx mA
 ne:dx≠x
theorem YW {h:Heap}(n:h.Ns1 dx mA):∃od,h.get? dx=some od/\∀name,lH name od=some (mA name):=by
 obtain ⟨o,es,k,d,i,g,_,f⟩:=n
 refine ⟨o,d,λname=>?_⟩
 have e:=f name
 unfold nsFind findBy at e
 rw [<- Array.find?_toList] at e
 unfold lH
 rw [i]
 dsimp only
 split
 ·rename_i y q
  rw [q] at e
  exact congrArg some e
 ·rename_i q
  rw [q] at e
  have a:es.toList.any (·.refKey)=false:=by
   rw [List.any_eq_false]
   intro y c
   obtain ⟨z,t,b⟩:=g y (Array.mem_toList_iff.mp c)
   simp [DictEntry.refKey,b]
  have j:¬es.toList.any (·.refKey)=true:=by rw [a];exact ar
  rw [if_neg j]
  exact congrArg some e
theorem ObjM.look {x dx:Addr}(I:ObjM h x dx C mA):∃od,sP h x (dq C dx) C (some od)/\∀name,lH name od=some (mA name) :=
 let ⟨od,a,b⟩:=YW I.ns
 ⟨od,⟨I.obj,rfl,rfl,a⟩,b⟩
section
variable {prog:Program}{w:bD}{A:bF}{E:aj->Shared->Prop}{s:Shared}{K:ah}{x dx C f:Addr}{mA:Str->Option aj}{name:Str}{v:aj}
theorem We {j:Bool}{Q:aj->Shared->Prop}(X:K.In s.heap) (I:ObjM s.heap x dx C mA) (Y:fN K C name=true) (U:ik K C=true)
  (ha:bV K (.ref C) name=some none) (G:mA name=some v) (z:rA v=true) (h:Q v { s with toks:=s.toks+1 }) :
  ay (aF prog w) A (getAttr (.ref x) name j) Q E s:=by
 obtain ⟨b,J,a⟩:=I.look
 exact PySem.W.get_value X J (lp Y).1 (PySem.W.findObj_own U ha rfl (by rw [a,G])) z h
theorem U1 {Q:aj×List aj->Shared->Prop}(X:K.In s.heap) (I:ObjM s.heap x dx C mA) (j:fN K C name=true)
  (U:bV K (.ref C) name=some (some (.ref f))) (G:pz K (.ref f)=true) (z:mA name=none) (h:Q (.ref f,[.ref x]) s) :
  ay (aF prog w) A (iN (.ref x) name pl) Q E s:=by
 obtain ⟨a,J,b⟩:=I.look
 exact PySem.W.method_fn X J (lp j).1 (lp j).2 U (beq_iff_eq.mp G) (by show (lH name a).map (·.isSome)=some false;rw [b,z];rfl) h
theorem Wd {Q:Unit->Shared->Prop}(X:K.In s.heap) (I:ObjM s.heap x dx C mA)
  (U:bV K (.ref C) "__setattr__" = some (some (.builtin "object.__setattr__"))) (Y:lW K C=true) (G:mT K C name=some none) (hh:ik K C=true)
  (z:pw mA ns) (hsz:ns.length<=sizeLine)
  (h:∀h',ObjM h' x dx C (λy=>if y=name then some v else mA y)->eW dx s.heap h'->Q () { s with heap:=h',toks:=s.toks+2 }) :
  ay (aF prog w) A (setAttr (.ref x) name v) Q E s:=by
 obtain ⟨n,J,p⟩:=I.look
 refine PySem.W.set_plain X J U (PySem.W.osa_open (s:={ s with toks:=s.toks+1 }) (r:=none) X J Y G λb=>?_)
 obtain ⟨q,k,g⟩:=PySem.W.any_some hh
 have j:s.heap.get? x=some ⟨.ref C,some dx,.plain,#[]⟩:=I.obj
 refine af (wpAny_pure (af (af (sQ j (af (PySem.W.Looks.here (s:={ s with toks:=s.toks+1 }) (PySem.W.looks_clsIn X k) ?_))))))
 rw [g]
 refine wpAny_pure (a:=some dx) (af (wpAny_pure (af ?_)))
 refine wpAny_nsSet1 (s:={ s with toks:=s.toks+1 }) I.ns λh' d c=>?_
 obtain ⟨o,l,m,e,f,i⟩:=d.count (PySem.Within.cons name v z)
 refine af (wpAny_lookBehind e (by rw [f];exact pastItsLine_dict (aK i (by rw [b9];omega))) ?_)
 exact wpAny_pure (h _ ⟨(c.2 _ (cF I.ne)).trans I.obj,d,I.ne⟩ c)
theorem U8 {vs:List aj}{kw:List (Str×aj)}(X:K.In s.heap) (j:mU K C=true)
  (hi:bV K (.ref C) "__init__" = some (some (.ref f))) (z:PySem.W.typeIn K (.ref f)=some (.type "function"))
  (h:cX (aF prog w) (A.under (.builtin "type.__call__" ⟨.ref C::vs,kw⟩)) (.call (.ref f) ⟨.ref ↥16::vs,kw⟩) (PySem.W.InitBack ↥16 R)
   { s with heap:=(s.heap.push cM).push (dq C s.heap.objs.size) }) :
  cX (aF prog w) A (.call (.ref C) ⟨vs,kw⟩) R s:=by
 obtain ⟨b,g,d,t,os⟩:=s
 exact PySem.W.make_core (PySem.W.makes_of X j) (PySem.W.looks_findIn X hi) (λa=>PySem.W.bind_fn X a z) (.inl rfl) h
end
noncomputable def jt (f:Str) (v:V):List (Str×V)->List (Str×V)
 | []=>[(f,v)]
 | (g,x)::r=>if g=f then (g,v)::r else (g,x)::jt f v r
theorem jC (f g:Str) (v:V):∀fs:List (Str×V),(jt f v fs).lookup g=if g=f then some v else fs.lookup g
 | []=>by
  show eQ g [(f,v)]=_
  by_cases h:g=f
  ·have a:(g == f)=true:=beq_iff_eq.mpr h
   simp only [eQ,a,if_pos h]
  ·have a:(g == f)=false:=beq_eq_false_iff_ne.mpr h
   simp only [eQ,a,if_neg h]
 | (k,x)::r=>by
  have c:=jC f g v r
  rw [show jt f v ((k,x)::r)=(if k=f then (k,v)::r else (k,x)::jt f v r) from rfl]
  by_cases b:k=f
  ·rw [if_pos b]
   by_cases h:g=k
   ·have a:(g == k)=true:=beq_iff_eq.mpr h
    simp only [eQ,a,if_pos (h.trans b)]
   ·have a:(g == k)=false:=beq_eq_false_iff_ne.mpr h
    simp only [eQ,a,if_neg (λe:g=f=>h (e.trans b.symm))]
  ·rw [if_neg b]
   by_cases h:g=k
   ·have a:(g == k)=true:=beq_iff_eq.mpr h
    simp only [eQ,a,if_neg (λe:g=f=>b (h.symm.trans e))]
   ·have a:(g == k)=false:=beq_eq_false_iff_ne.mpr h
    simp only [eQ,a]
    exact c
theorem wI (f:Str) (v:V):∀fs:List (Str×V),f∈(jt f v fs).map (·.1)/\∀g,g∈fs.map (·.1)->g∈(jt f v fs).map (·.1)
 | []=>⟨by simp [jt],λg h=>by simp at h⟩
 | (k,x)::r=>by
  obtain ⟨c,b⟩:=wI f v r
  rw [show jt f v ((k,x)::r)=(if k=f then (k,v)::r else (k,x)::jt f v r) from rfl]
  by_cases a:k=f
  ·rw [if_pos a]
   subst a
   exact ⟨by simp,λg h=>by simpa using h⟩
  ·rw [if_neg a]
   refine ⟨?_,λg h=>?_⟩
   ·rw [aU]
    exact aC _ c
   ·rw [aU] at h ⊢
    rcases List.mem_cons.mp h with e | e
    ·exact List.mem_cons.mpr (.inl e)
    ·exact aC _ (b g e)
theorem qh (f:Str) (v:V):∀fs:List (Str×V),(jt f v fs).length<=fs.length+1
 | []=>by simp [jt]
 | (k,x)::r=>by
  have b:=qh f v r
  rw [show jt f v ((k,x)::r)=(if k=f then (k,v)::r else (k,x)::jt f v r) from rfl]
  by_cases a:k=f
  ·rw [if_pos a,b9,b9];omega
  ·rw [if_neg a,b9,b9];omega
theorem vo.some_of (r:vo (some v) o):∃u,o=some u/\jH v u:=by
 cases o with
 | none=>exact (show False from r).elim
 | some u=>exact ⟨u,rfl,r⟩
theorem vo.none_of (r:vo none o):o=none:=by
 cases o with
 | none=>rfl
 | some u=>exact (show False from r).elim
theorem YV (r:jH v u):rA u=true:=by
 cases v with
 | non=>cases (show u=b8 from r);rfl
 | bl b=>cases (show u=mC b from r);rfl
 | int i=>obtain ⟨t,e⟩:=(show ∃t,u=fh i t from r);cases e;rfl
 | str x=>obtain ⟨t,e⟩:=(show ∃t,u=oj x t from r);cases e;rfl
 | byt b=>obtain ⟨t,e⟩:=(show ∃t,u=Value.bytes b t from r);cases e;rfl
 | flt b=>obtain ⟨t,e⟩:=(show ∃t,u=rT b t from r);cases e;rfl
 | ref a=>cases (show u=aW a from r);rfl
 | ty n=>cases (show u=dW n from r);rfl
section
variable {P:Program}{w:bD}{H H':Hp}{h h':Heap}{a C dx:Addr}{fs fs':List (Str×V)}
theorem kB (j:HOk P w H h) (e:H a=some ↥126):∃mA,ObjM h a dx C mA/\(∀f,vo (fs.lookup f) (mA f))/\pw mA (fs.map (·.1))/\fs.length<=1000/\H dx=some (.own a):=by
 obtain ⟨d,z,ne,b,mA,n,r,q⟩:=(show qB P w H h a ↥126 from j a _ e)
 exact ⟨mA,⟨b,n,ne⟩,r,q,z,d⟩
end
structure Cls (K:ah) (C:Addr):Prop where
 pg:fN K C Str.empty=true
 hd:ik K C=true
 po:lW K C=true
 sa:bV K (.ref C) "__setattr__" = some (some (.builtin "object.__setattr__"))
theorem Cls.get {K:ah}(c:Cls K C) (f:Str):fN K C f=true:=c.pg
noncomputable def zQ (K:ah) (C:Addr) (f:Str):Prop:=bV K (.ref C) f=some none
theorem zQ.taker {K:ah}(n:zQ K C f):mT K C f=some none:=by
 unfold mT
 rw [show bV K (.ref C) f=some none from n]
 rfl
structure Meth (K:ah) (C:Addr) (m:Str) (f:Addr):Prop where
 at_:bV K (.ref C) m=some (some (.ref f))
 fn:pz K (.ref f)=true
 kp:c3 K (.ref f)=true
section
variable {X:Cx}{pins:List (Addr×Obj)}{σ:St}{H:Hp}{s:Shared}{a C dx:Addr}{fs:List (Str×V)}{f:Str}{v:V}{A:bF}{E:aj->Shared->Prop}
theorem Zp {b:Bool}{Q:aj->Shared->Prop}(I:Inv X pins σ H s) (e:H a=some ↥126) (c:Cls X.K C) (n:zQ X.K C f) (l:fs.lookup f=some v)
  (h:∀u s',Inv X pins σ H s'->jH v u->Q u s'):ay ↥2 A (getAttr (.ref a) f b) Q E s:=by
 obtain ⟨mA,O,r,_,_,_⟩:=kB I.hok e
 obtain ⟨u,g,d⟩:=vo.some_of (v:=v) (o:=mA f) (by rw [<- l];exact r f)
 exact We I.kIn O (c.get f) c.hd n g (YV d) (h u _ (I.tok _) d)
theorem yL {Q:aj×List aj->Shared->Prop}(I:Inv X pins σ H s) (e:H a=some ↥126) (c:Cls X.K C) (k:Meth X.K C m g) (l:fs.lookup m=none)
  (h:Q (.ref g,[.ref a]) s):ay ↥2 A (iN (.ref a) m pl) Q E s:=by
 obtain ⟨mA,O,r,_,_,_⟩:=kB I.hok e
 have b:mA m=none:=vo.none_of (by rw [<- l];exact r m)
 exact U1 I.kIn O (c.get m) k.at_ k.fn b h
theorem Zr {Q:Unit->Shared->Prop}(I:Inv X pins σ H s) (e:H a=some ↥126) (c:Cls X.K C) (n:zQ X.K C f) (U:fs.length<1000) (G:jH y u)
  (h:∀s',Inv X pins σ (upd H a (.ins C dx (jt f y fs))) s'->Q () s'):ay ↥2 A (setAttr (.ref a) f u) Q E s:=by
 obtain ⟨mA,O,r,i,_,j⟩:=kB I.hok e
 have l:(fs.map (·.1)).length<=sizeLine:=by rw [ag,bS];omega
 refine Wd I.kIn O c.sa c.po n.taker c.hd i l λh' d k=>h _ ?_
 have p:∃o,h'.get? dx=some o:=let ⟨o,_,_,v,_⟩:=d.ns;⟨o,v⟩
 refine I.write (x:=a) (e:=dx) (by rw [e];exact du) (.inr j) (λb q t z=>(k.2 b t).trans z) p ?_
 refine ⟨by rw [j8 O.ne];exact j,?_,O.ne,d.obj,_,d.ns,λg=>?_,λg m=>?_⟩
 ·have:=qh f y fs;omega
 ·show vo ((jt f y fs).lookup g) (if g=f then some u else mA g)
  rw [jC]
  by_cases q:g=f
  ·rw [if_pos q,if_pos q];exact G
  ·rw [if_neg q,if_neg q];exact r g
 ·by_cases q:g=f
  ·rw [q];exact (wI f y fs).1
  ·refine (wI f y fs).2 g (i g λz=>m ?_)
   show (if g=f then some u else mA g)=none
   rw [if_neg q];exact z
theorem Inv.made (I:Inv X pins σ H s):Inv X pins σ (upd (upd H s.heap.objs.size (.own ↥16)) ↥16 (.ins C s.heap.objs.size []))
  { s with heap:=(s.heap.push cM).push (dq C s.heap.objs.size) }:=by
 have c:(s.heap.push cM).get? s.heap.objs.size=some cM:=aB s.heap rfl
 have h:((s.heap.push cM).push (dq C s.heap.objs.size)).get? ↥16=some (dq C s.heap.objs.size):=by
  have:=aB (s.heap.push cM) (o:=dq C s.heap.objs.size) rfl
  rwa [c7] at this
 have g:(s.heap.push cM).Ns s.heap.objs.size (λ_=>none):=⟨cM,#[],_,c,rfl,(λe f=>absurd f (by simp)),λ_=>rfl⟩
 have i:=I.laid (a:=s.heap.objs.size) (o:=.own ↥16) (h':=s.heap.push cM) (t':=s.toks) (λb u q=>ai _ q) (au _) ⟨_,c⟩
 refine i.laid (a:=s.heap.objs.size+1) (o:=.ins C s.heap.objs.size []) (t':=s.toks) (λb u q=>ai _ q) (mE (c7 _ _)) ?_
 have ne:s.heap.objs.size≠s.heap.objs.size+1:=aD (dG _)
 refine ⟨by rw [j8 ne,j6],aN _,ne,h,λ_=>none,(Heap.Ns1.of_empty g).at λo q=>ai _ q,λ_=>du,λy d=>absurd rfl d⟩
theorem UB {prog:Program}{w:bD}{env:Env}{e:Expr}{f:Str}{pos:Pos}{s:Shared}{Q:aj->Shared->Prop}(z:fS e f env (eval e env)=eval e env)
  (h:ay (aF prog w) A (eval e env) (λo j=>ay (aF prog w) A (getAttr o f true) Q E j) E s):ay (aF prog w) A (eval (.Attribute e f pos) env) Q E s :=
 Attribute_any_ h (by rw [arm_eval_Attribute,z])
end
inductive tFldI (K:ah) (f:Str) (Q:VK) (x:V) (H1:Hp):Prop
 | mk (a:_) (C:_) (dx:_) (fs:_) (v:_) (_:x = .ref a) (_:H1 a=some ↥126) (_:Cls K C) (_:zQ K C f) (_:fs.lookup f=some v) (_:Q v H1)
noncomputable def EE (K:ah) (ta:TE) (f:Str):TE:=λσ H Q=>ta σ H λx H1=>tFldI K f Q x H1
inductive sFldI (K:ah) (f:Str) (D:Ends) (σ:St) (y:V) (x:V) (H2:Hp):Prop
 | mk (a:_) (C:_) (dx:_) (fs:_) (_:x = .ref a) (_:H2 a=some ↥126) (_:Cls K C) (_:zQ K C f) (_:fs.length<1000) (_:D.nx σ (upd H2 a (.ins C dx (jt f y fs))))
noncomputable def Ez (K:ah) (ta tv:TE) (f:Str):TS:=λD σ H=>tv σ H λy H1=>ta σ H1 λx H2=>sFldI K f D σ y x H2
section
variable {X:Cx}{o e value:Expr}{f:Str}{pos pos' tpos:Pos}{ta tv:TE}
theorem GK (j:PE X e ta) (z:fS e f X.env (eval e X.env)=eval e X.env):PE X (.Attribute e f pos) (EE X.K ta f):=by
 intro pins s σ H Q I h
 refine UB z (thn ↥116 λu s1 ⟨x,H1,k,b,a,C,dx,fs,v,ex,g,c,n,l,q⟩=>?_)
 subst ex
 obtain rfl:u=aW a:=b
 exact Zp k g c n l λm o i d=>⟨v,H1,i,d,q⟩
theorem GD (G:PE X o ta) (j:PE X value tv) (z:lC value (some (.Attribute o f pos')) pos.line X.env=pure false):PS X (.Assign [.Attribute o f pos'] value pos) (Ez X.K ta tv f):=by
 intro pins s σ H D I h
 refine plainObj_wpAny_Assign_Attribute (thn ↥116 λu s1 ⟨y,H1,p,b,q⟩=>thn (G pins s1 σ H1 _ p q) λg t ⟨x,H2,m,d,a,C,dx,fs,ex,i,c,n,l,e⟩=>?_) z
 subst ex
 obtain rfl:g=aW a:=d
 exact Zr m i c n l b λr k=>⟨σ,_,k,e⟩
theorem WB (U:PE X e te) (I:Inv X pins σ H s)
  (h:te σ H λx H1=>∃a C dx fs g,x = .ref a/\H1 a=some ↥126/\Cls X.K C/\Meth X.K C m g/\fs.lookup m=none /\
   ∀s1,Inv X pins σ H1 s1->ay ↥2 X.A (mm pos (.ref g) [.ref a] (cG pos (aO j X.env)) ↥127) Q X.xe s1)
  (G:eval (.Call (.Attribute e m apos) j [] pos) X.env=(do
   let z <- eval e X.env
   fB apos.atName
   let (f,first) <- dR [z] (iN z m pl)
   mm pos f first (cG pos (aO j X.env)) ↥127)) :
  ay ↥2 X.A (eval (.Call (.Attribute e m apos) j [] pos) X.env) Q X.xe s:=by
 refine ft (pl:=pl) (thn (U pins s σ H _ I h) λu s1 ⟨x,H1,b,d,a,C,dx,fs,g,ex,i,c,k,l,q⟩=>?_) G
 subst ex
 obtain rfl:u=aW a:=d
 exact yL b i c k l (q s1 b)
end
section
variable {X:Cx}{pins:List (Addr×Obj)}{σ:St}{H:Hp}{s:Shared}{A:bF}{E:aj->Shared->Prop}{Q:aj->Shared->Prop}{c:aj}{b:Bool}
inductive TyOf (K:ah) (H:Hp):V->aj->Prop where
 | non:TyOf K H .non (.type "NoneType")
 | bl (x:Bool):TyOf K H (.bl x) (.type "bool")
 | int (i:Int):TyOf K H (.int i) (.type "int")
 | str (x:Str):TyOf K H (.str x) (.type "str")
 | flt (x:UInt64):TyOf K H (.flt x) (.type "float")
 | lst {a:Addr} {xs:List V} (e:H a=some (.lst xs)):TyOf K H (.ref a) ↥146
 | frz {a:Addr} {o:Obj} {xs:List V} (e:H a=some (.frz o (.lst xs))):TyOf K H (.ref a) ↥146
 | tup {a:Addr} {xs:List V} (e:H a=some (.tup xs)):TyOf K H (.ref a) (.type "tuple")
 | dK {a:Addr} {kvs:List (Key×V)} (e:H a=some (.dK kvs)):TyOf K H (.ref a) (.type "dict")
 | dT {a:Addr} {kvs:List (List Key×V)} (e:H a=some (.dT kvs)):TyOf K H (.ref a) (.type "dict")
 | ins {a C dx:Addr} {fs:List (Str×V)} (e:H a=some ↥126) (cl:Cls K C) (ha:bV K (.ref C) "__class__" = some (some ↥77))
   (hn:PySem.W.specialIn K ↥77 "__get__" = some (some ↥128)) (htk:PySem.W.takesIn K ↥77=some true)
   (hm:PySem.W.mroIn K C (.type "object")=some true):TyOf K H (.ref a) (.ref C)
theorem Yi (I:Inv X pins σ H s) (j:jH x u) (ty:TyOf X.K H x t) (e:bf X.K t c=some b) (h:∀tk,Q (.bool b) { s with toks:=tk }) :
  ay ↥2 A (call (.builtin "isinstance") [u,c]) Q E s:=by
 cases ty with
 | non=>cases (show u=b8 from j);exact cg PySem.W.kitx_none I.kIn du e ↥92 h
 | bl y=>cases (show u=mC y from j);exact cg PySem.W.kitx_bool I.kIn du e ↥92 h
 | int i=>obtain ⟨t,q⟩:=(show ∃t,u=fh i t from j);cases q;exact cg PySem.W.kitx_int I.kIn du e ↥92 h
 | str y=>obtain ⟨t,q⟩:=(show ∃t,u=oj y t from j);cases q;exact cg PySem.W.kitx_str I.kIn du e ↥92 h
 | flt y=>obtain ⟨t,q⟩:=(show ∃t,u=rT y t from j);cases q;exact cg PySem.W.kitx_float I.kIn du e ↥92 h
 | @lst a xs d =>
  cases (show u=aW a from j)
  obtain ⟨_,_,n,_,h1⟩:=(show qB X.prog X.w H s.heap a (.lst xs) from I.hok a _ d)
  exact cg pA I.kIn ⟨_,h1,rfl⟩ e ↥92 h
 | @frz a k xs d =>
  cases (show u=aW a from j)
  obtain ⟨_,_,_,n,_,h1⟩:=(show qB X.prog X.w H s.heap a (.frz k (.lst xs)) from I.hok a _ d)
  exact cg pA I.kIn ⟨_,h1,rfl⟩ e ↥92 h
 | @tup a xs d =>
  cases (show u=aW a from j)
  obtain ⟨_,_,_,p⟩:=(show qB X.prog X.w H s.heap a (.tup xs) from I.hok a _ d)
  obtain ⟨o,h1,h2,_⟩:=p
  exact cg PySem.W.kitx_tuple I.kIn ⟨o,h1,h2⟩ e ↥92 h
 | @dK a kvs d =>
  cases (show u=aW a from j)
  obtain ⟨_,_,B,_,p⟩:=(show qB X.prog X.w H s.heap a (.dK kvs) from I.hok a _ d)
  obtain ⟨o,es,v,h1,h2,_⟩:=p
  exact cg pC I.kIn ⟨o,h1,h2.1⟩ e ↥92 h
 | @dT a kvs d =>
  cases (show u=aW a from j)
  obtain ⟨_,_,xs,_,o,es,v,h1,h2,_⟩:=(show qB X.prog X.w H s.heap a (.dT kvs) from I.hok a _ d)
  exact cg pC I.kIn ⟨o,h1,h2.1⟩ e ↥92 h
 | @ins a C dx fs d g r l f m =>
  cases (show u=aW a from j)
  obtain ⟨mA,O,_⟩:=kB I.hok d
  obtain ⟨D,J,_⟩:=O.look
  exact cg (PySem.W.kitx_own (g.get _) g.hd r l f m) I.kIn J e ↥92 h
end
end L2
namespace L2
structure Room (k:Nat) (A:bF):Prop where
 hd:A.handled=none
 dp:A.depth+3*k+5<recursionLimit
 un:A.units+16*k+200<cLine
theorem Room.mono {j k:Nat}{A:bF}(r:Room k A) (h:j<=k):Room j A:=⟨r.hd,by have:=r.dp;omega,by have:=r.un;omega⟩
theorem Room.deeper {k:Nat}{A:bF}(r:Room (k+1) A) (env:Env):Room k (A.deeper env) :=
 ⟨r.hd,by have:=r.dp;show A.depth+1+3*k+5<_;omega,by have:=r.un;show A.units+3+16*k+200<_;omega⟩
theorem Room.in1 {k:Nat}{A:bF}(r:Room (k+1) A):Room k A.in1 :=
 ⟨r.hd,by have:=r.dp;show A.depth+3*k+5<_;omega,by have:=r.un;show A.units+1+16*k+200<_;omega⟩
theorem Z2 {A:bF}{us:List aj}{kw:List (Str×aj)}: (↥75).depth=A.depth+1:=by
 first | rfl | simp [pE,Code.weight,Code.isCreation,Code.isGuard,Code.isCaller,Code.frames,pG,guardIds]
theorem Zq {A:bF}{us:List aj}{kw:List (Str×aj)}: (↥75).units=A.units+1:=by
 first | rfl | simp [pE,Code.cUnits,Code.frames,pG]
theorem Room.make {k:Nat}{A:bF}(r:Room (k+1) A) (C:Addr) (us:List aj) (kw:List (Str×aj)):Room k ↥75 :=
 ⟨r.hd,by have:=r.dp;rw [Z2];omega,by have:=r.un;rw [Zq];omega⟩
theorem Room.depth {k:Nat}{A:bF}(r:Room k A):A.depth<recursionLimit:=by have:=r.dp;omega
theorem Room.units {k:Nat}{A:bF}(r:Room k A):A.units+64<cLine:=by have:=r.un;omega
noncomputable def vO:TA:=λ_ H Q=>Q [] H
noncomputable def Ed (ta:TE) (j:TA):TA:=λσ H Q=>ta σ H λx H1=>j σ H1 λxs H2=>Q (x::xs) H2
section
variable {X:Cx}{e:Expr}{es:List Expr}{te:TE}{t:TA}{pos:Pos}
theorem j2:PA X [] vO:=λ_ _ _ _ H Q I h=>pH ⟨[],H,I,.nil,h⟩
theorem j0 (G:PE X e te) (z:PA X es t) (j:aO (e::es) X.env=↥33::aO es X.env:=by rfl):PA X (e::es) (Ed te t):=by
 intro pos pins s σ H Q I h
 rw [j]
 show ay _ _ (spliced (↥33::cG pos (aO es X.env))) _ _ s
 refine lI (thn (G pins s σ H _ I h) λu s1 ⟨x,H1,g,b,d⟩=>?_)
 exact thn (z pos pins s1 σ H1 _ g d) λi k ⟨xs,H2,f,a,c⟩=>⟨x::xs,H2,f,.cons b a,c⟩
end
noncomputable abbrev Sp:=List V->Hp->VK->XK->Prop
noncomputable abbrev CXT:=List Env->Hp->Shared->XK->aj->Shared->Prop
structure Env0 (P:Program) (w:bD) (K:ah) (mg:Str->Option aj) (base:Heap) (A:bF) (outer:List Env) (s:Shared) (H:Hp):Prop where
 frames:A.frames=some outer
 mod:Mod K mg base
 bs:∀b o,base.get? b=some o->s.heap.get? b=some o/\H b=none
 bsz:base.objs.size<=s.heap.objs.size
 funs:s.heap.FunFrames base outer
 frf:∀b∈frs outer,H b=none
 hok:HOk P w H s.heap
 bare:iP s.gens
noncomputable def CE (outer:List Env) (P:Program) (w:bD) (H:Hp) (s:Shared) (Q:VK) (u:aj) (s':Shared):Prop :=
 ∃v H',s'.os=s.os/\iP s'.gens/\Un (frs outer) [] H H' s.heap s'.heap/\HOk P w H' s'.heap/\jH v u/\Q v H'
noncomputable def CR (CX:CXT) (outer:List Env) (P:Program) (w:bD) (H:Hp) (s:Shared) (Q:VK) (E:XK) (r:nI) (s':Shared):Prop :=
 match r with
 | .ok (.ret u)=>CE outer P w H s Q u s'
 | .ok _=>False
 | .error e=>CX outer H s E e s'
structure FnOk (P:Program) (w:bD) (K:ah) (mg:Str->Option aj) (base:Heap) (CX:CXT) (k:Nat) (f:Addr) (fd:FuncData) (ps:List Str) (sp:Sp):Prop where
 len:∀vs H Q E,sp vs H Q E->vs.length=ps.length
 run:∀(A:bF) (outer:List Env) (s:Shared) (H:Hp) (args:Args) (us:List aj) (vs:List V) (Q:VK) (E:XK),Room k A->Env0 P w K mg base A outer s H->pI s fd args (ps.zip us)->jI vs us->sp vs H Q E ->
  cX (aF P w) A (.call (.ref f) args) (CR CX outer P w H s Q E) s
theorem Env0.make {w:bD}{K:ah}{mg:Str->Option aj}{base:Heap}{A:bF}{outer:List Env}(e:Env0 P w K mg base A outer s H) (C:Addr) (us:List aj) (kw:List (Str×aj)) :
  Env0 P w K mg base ↥75 outer s H:=⟨by first | exact e.frames | (simpa [pE,Code.envs,pG,pushEnvs] using e.frames),e.mod,e.bs,e.bsz,e.funs,e.frf,e.hok,e.bare⟩
theorem Env0.in1 {w:bD}{K:ah}{mg:Str->Option aj}{base:Heap}{A:bF}{outer:List Env}(e:Env0 P w K mg base A outer s H) :
  Env0 P w K mg base A.in1 outer s H:=⟨e.frames,e.mod,e.bs,e.bsz,e.funs,e.frf,e.hok,e.bare⟩
section
variable {X:Cx}{pins:List (Addr×Obj)}{σ:St}{H:Hp}{s s':Shared}
theorem Inv.env0 (I:Inv X pins σ H s):Env0 X.prog X.w X.K X.mg X.base X.A X.stack s H :=
 ⟨I.ok.frames,I.ok.mod,I.bs,aK I.ok.bsz I.sz,I.stack,I.stkFree,I.hok,I.bare⟩
theorem Inv.after (I:Inv X pins σ H s) (h:CE X.stack X.prog X.w H s Q u s'):EP X pins σ Q u s':=by
 obtain ⟨v,H',os,bare,un,hok,r,q⟩:=h
 obtain ⟨c,g,d,t,a⟩:=s'
 obtain rfl:a=s.os:=os
 exact ⟨v,H',I.call (h':=c) (g':=g) (d':=d) (t':=t) (ch:=[]) un hok bare (λb z=>absurd z (by simp)),r,q⟩
end
noncomputable def WA (sp:Sp) (dvs:List V) (E:XK) (t:TA):TE:=λσ H Q=>t σ H λa H1=>sp (a++dvs) H1 Q E
inductive tMethI (C:Addr) (m:Str) (sp:Sp) (dvs:List V) (E:XK) (t:TA) (σ:St) (Q:VK) (x:V) (H1:Hp):Prop
 | mk (a:_) (dx:_) (fs:_) (_:x = .ref a) (_:H1 a=some ↥126) (_:fs.lookup m=none) (_:t σ H1 λvs H2=>sp (x::(vs++dvs)) H2 Q E)
noncomputable def Y7 (C:Addr) (m:Str) (sp:Sp) (dvs:List V) (E:XK) (ta:TE) (t:TA):TE:=λσ H Q=>ta σ H λx H1=>tMethI C m sp dvs E t σ Q x H1
noncomputable def y8 (K:ah) (fd:FuncData) (ps:List Str) (ds:List aj):Prop :=
 ∀(s:Shared) (a:List aj),K.In s.heap->(a++ds).length=ps.length->pI s fd ⟨a,[]⟩ (ps.zip (a++ds))
theorem y8.all {K:ah}{ps:List Str}(h:∀us:List aj,us.length=ps.length->cU fd ⟨us,[]⟩=pure (ps.zip us)):y8 K fd ps []:=λs us _ a=>by
 rw [aJ] at a ⊢
 exact .of_eq (h us a)
noncomputable def gS (CX:CXT) (X:Cx) (E:XK):Prop:=∀(pins:List (Addr×Obj)) (σ:St) (H:Hp) (s:Shared) (e:aj) (s':Shared),Inv X pins σ H s->CX X.stack H s E e s'->X.xe e s'
section
variable {X:Cx}{CX:CXT}{k:Nat}{f C:Addr}{fd:FuncData}{ps:List Str}{sp:Sp}{dvs:List V}{ds:List aj}{E:XK}{x m:Str}{p pos apos:Pos}{e o:Expr}{es:List Expr}{ta:TE}{t:TA}
theorem Zf (F:FnOk X.prog X.w X.K X.mg X.base CX k f fd ps sp) (z:Room k X.A) (U:y8 X.K fd ps ds) (G:jI dvs ds) (j:gS CX X E)
  (I:Inv X pins σ H s) (r:jI vs us) (h:sp (vs++dvs) H Q E):ay ↥2 X.A (call (.ref f) us) ↥51 X.xe s:=by
 have b:jI (vs++dvs) (us++ds):=r.append G
 have c:(us++ds).length=ps.length:=by rw [<- b.length];exact F.len _ _ _ _ h
 refine i4 (dB (F.run X.A X.stack s H ⟨us,[]⟩ (us++ds) (vs++dvs) Q E z I.env0 (U s us I.kIn c) b h) λr s' a=>?_)
 cases r with
 | error e=>exact j pins σ H s e s' I a
 | ok fl =>
  cases fl with
  | ret u=>exact I.after a
  | next=>exact bB a
  | brk=>exact bB a
  | cont=>exact bB a
theorem UO (F:FnOk X.prog X.w X.K X.mg X.base CX k f fd ps sp) (U:Room k X.A) (hg:Gl X x) (Y:X.mg x=some (.ref f)) (hk:c3 X.K (.ref f)=true) (hb:y8 X.K fd ps ds) (hd:jI dvs ds) (G:gS CX X E)
  (ha:PA X (e::es) t) (z: ↥24=false:=by decide) (he:aO (e::es) X.env=↥33::aO es X.env:=by rfl) (j: (↥67).any (·.1)=false:=by rfl) :
  PE X ↥65 (WA sp dvs E t):=by
 intro pins s σ H Q I h
 refine cT (yV I hg Y ?_ z)
 refine dH (h₀:=X.base) I.ok.mod.kin hk (thn ↥59 λc s1 ⟨b,H1,a,r,q⟩=>⟨a.kIn,?_⟩) he j
 exact Zf F U hb hd G a r q
theorem UI (he:PE X o ta) (c:Cls X.K C) (U:Meth X.K C m f) (F:FnOk X.prog X.w X.K X.mg X.base CX k f fd ps sp) (hr:Room k X.A) (hb:y8 X.K fd ps ds) (hd:jI dvs ds) (Y:gS CX X E) (ha:PA X (e::es) t)
  (z:aO (e::es) X.env=↥33::aO es X.env:=by rfl) (G: (↥67).any (·.1)=false:=by rfl)
  (ht:eval ↥53 X.env=(do
   let j <- eval o X.env
   fB apos.atName
   let (f,first) <- dR [j] (iN j m pl)
   mm pos f first (cG pos (aO (e::es) X.env)) ↥127):=by rfl) :
  PE X ↥53 (Y7 C m sp dvs E ta t):=by
 intro pins s σ H Q I h
 refine ft (pl:=pl) (thn (he pins s σ H _ I h) λu s1 ⟨x,H1,d,g,a,dx,fs,ex,n,l,q⟩=>?_) ht
 subst ex
 obtain rfl:u=aW a:=g
 refine yL d n c U l ?_
 refine dH (first:=[.ref a]) (h₀:=X.base) I.ok.mod.kin U.kp (thn (ha pos pins s1 σ H1 _ d q) λus p ⟨vs,H2,b,r,i⟩=>⟨b.kIn,?_⟩) z G
 exact Zf (us:=.ref a::us) (vs:=.ref a::vs) F hr hb hd Y b (.cons rfl r) i
theorem VZ (he:PE X o ta) (c:Cls X.K C) (z:Meth X.K C m f) (F:FnOk X.prog X.w X.K X.mg X.base CX k f fd ps sp) (Y:Room k X.A) (hb:y8 X.K fd ps ds) (hd:jI dvs ds) (G:gS CX X E)
  (U:eval ↥123 X.env=(do
   let j <- eval o X.env
   fB apos.atName
   let (f,first) <- dR [j] (iN j m pl)
   mm pos f first (cG pos (aO [] X.env)) ↥127):=by rfl) :
  PE X ↥123 (Y7 C m sp dvs E ta vO):=by
 intro pins s σ H Q I h
 refine ft (pl:=pl) (thn (he pins s σ H _ I h) λu s1 ⟨x,H1,b,d,a,dx,fs,ex,e,l,q⟩=>?_) U
 subst ex
 obtain rfl:u=aW a:=d
 refine yL b e c z l ?_
 exact PySem.W.callWith_K0 (first:=[.ref a]) b.kIn z.kp (Zf (us:=[.ref a]) (vs:=[.ref a]) F Y hb hd G b (.cons rfl .nil) q)
structure Mk (K:ah) (C f:Addr):Prop where
 makes:mU K C=true
 init:bV K (.ref C) "__init__" = some (some (.ref f))
 fn:pz K (.ref f)=true
 kp:c3 K (.ref C)=true
end
section
variable {X:Cx}{CX:CXT}{k:Nat}{f C:Addr}{fd:FuncData}{ps ks:List Str}{sp:Sp}{E:XK}{x m:Str}{p pos apos kpos:Pos}{e o:Expr}{es:List Expr}{kws:List mF}{te ta:TE}{t tk:TA}{nm:Option Str}
variable {g:List aj->List aj->List aj}{gV:List V->List V->List V}
end
structure FnScope (N P:List Str) (sc:Scope):Prop where
 kind:sc.kind = .function
 co:sc.isCoroutine=false
 gen:sc.isGenerator=false
 nd:N.Nodup
 pre:N.take P.length=P
 par:∀x∈P,sc.names.lookup x=some .local\/sc.names.lookup x=some .cell
 nofree:∀y∈sc.names,y.2≠.free
theorem JB {kindOf:Str->Option ip}{x:Str}:∀{binds:List (Str×aj)}{m:Str->Option aj},(∀v,(x,v)∉binds)->rX kindOf binds m x=m x
 | [],_,_=>rfl
 | (n,v)::r,m,h=>by
  unfold rX
  rw [JB λw a=>h w (aC _ a)]
  split
  ·have:x≠n:=by rintro rfl;exact h v aE
   simp [this]
  ·rfl
theorem Jt {kindOf:Str->Option ip}{x:Str}:∀{binds:List (Str×aj)}{m:Str->Option aj},(∀v,(x,v)∉binds)->rZ kindOf binds m x=m x
 | [],_,_=>rfl
 | (n,v)::r,m,h=>by
  unfold rZ
  rw [Jt λw a=>h w (aC _ a)]
  split
  ·rfl
  ·have:x≠n:=by rintro rfl;exact h v aE
   simp [this]
theorem Jx {kindOf:Str->Option ip}:∀{P:List Str}{vs:List aj}{i:Nat}{m:Str->Option aj},P.Nodup->P[i]? = some x->vs[i]? = some v->kindOf x=some .local ->
  rX kindOf (P.zip vs) m x=some v
 | [],_,_,_,_,h,_,_=>by simp at h
 | _::_,[],_,_,_,_,h,_=>by simp at h
 | p::P,w::vs,0,m,a,h1,h2,b=>by
  simp at h1 h2;subst h1;subst h2
  show rX kindOf ((p,w)::P.zip vs) m p=_
  unfold rX
  rw [JB λv c=>(List.nodup_cons.mp a).1 (fZ c).1,if_pos b]
  simp
 | p::P,w::vs,i+1,m,a,h1,h2,b=>by
  show rX kindOf ((p,w)::P.zip vs) m x=_
  unfold rX
  exact Jx (i:=i) (List.nodup_cons.mp a).2 (by simpa using h1) (by simpa using h2) b
theorem Js {kindOf:Str->Option ip}:∀{P:List Str}{vs:List aj}{i:Nat}{m:Str->Option aj},P.Nodup->P[i]? = some x->vs[i]? = some v->kindOf x≠some .local ->
  rZ kindOf (P.zip vs) m x=some v
 | [],_,_,_,_,h,_,_=>by simp at h
 | _::_,[],_,_,_,_,h,_=>by simp at h
 | p::P,w::vs,0,m,a,h1,h2,b=>by
  simp at h1 h2;subst h1;subst h2
  show rZ kindOf ((p,w)::P.zip vs) m p=_
  unfold rZ
  rw [Jt λv c=>(List.nodup_cons.mp a).1 (fZ c).1,if_neg b]
  simp
 | p::P,w::vs,i+1,m,a,h1,h2,b=>by
  show rZ kindOf ((p,w)::P.zip vs) m x=_
  unfold rZ
  exact Js (i:=i) (List.nodup_cons.mp a).2 (by simpa using h1) (by simpa using h2) b
noncomputable def start (N:List Str) (vs:List V):St:=vs.map some++cD (N.length-vs.length) none
noncomputable def ug (CX:CXT) (P:Program) (w:bD) (K:ah) (mg:Str->Option aj) (base:Heap) (N:List Str) (qual:Str) (scope:Scope) (f:Addr) (cd:aj) (A:bF) (outer:List Env) (s:Shared) (H:Hp) (E:XK):Cx where
 prog:=P
 w:=w
 K:=K
 mg:=mg
 base:=base
 A:=A.deeper (iY qual scope s.heap.objs.size f cd)
 N:=N
 s₀:=s
 H₀:=H
 env:=iY qual scope s.heap.objs.size f cd
 outer:=outer
 stack:=iY qual scope s.heap.objs.size f cd::outer
 ex:=[]
 calm:=true
 fn:=λ_=>true
 pn:=[]
 xe:=λe s'=>ay (aF P w) (A.deeper (iY qual scope s.heap.objs.size f cd)) (om (iY qual scope s.heap.objs.size f cd) e) (λ_ s''=>CX outer H s E e s'') (λe' s''=>CX outer H s E e' s'') s'
theorem Xr {j:Scope}{n:Nat}(h:j.names.lookup x=some .cell):∃c,(mn n j.names []).lookup x=some c:=by
 have q:=eX j.names n [] (.inl h)
 exact Option.isSome_iff_exists.mp q
theorem wG {CX:CXT}{P:Program}{w:bD}{K:ah}{mg:Str->Option aj}{base:Heap}{N ps:List Str}{G:Str}{scope:Scope}{f:Addr}{U:aj}{A:bF}{outer:List Env}{s s1:Shared}{H:Hp}{E:XK}{us:List aj}{vs:List V}
  (S:FnScope N ps scope) (Y:A.handled=none) (j:Env0 P w K mg base A outer s H) (hl:vs.length=ps.length) (r:jI vs us)
  (x:InCallC s s.heap.objs.size (rX (iY G scope s.heap.objs.size f U).kindOf (ps.zip us) λ_=>none) (mn ↥16 scope.names []) (rZ (iY G scope s.heap.objs.size f U).kindOf (ps.zip us) λ_=>none) s1) :
  Inv (ug CX P w K mg base N G scope f U A outer s H E) [] (start N vs) H s1:=by
 have C:ps.length<=N.length:=by have:=congrArg nJ S.pre;rw [aG] at this;omega
 obtain ⟨h1,tk,rfl,o⟩:=x.done
 have d:∀b:Addr,b∉(ug CX P w K mg base N G scope f U A outer s H E).ex:=λb z=>absurd (show b∈([]:List Addr) from z) (by simp)
 refine ⟨⟨j.mod,S.kind,rfl,rfl,au _,λy z c h1 h2=>?_,λy hy=>?_,λy c _ h=>?_,λ_=>Y,nK j.frames,.inr ⟨rfl,rfl⟩,λb z=>absurd z (d b),j.bs,j.bsz,λb _ _=>d b,λb z=>absurd z (d b),j.funs,j.frf⟩,
  rfl,j.bare,Un.kept o,⟨_,x.toInCall.ns,λi y v h1 h2 D=>?_⟩,λy c h=>⟨_,x.cell y c h⟩,j.hok.fresh (au _),λy c h=>?_,λp g=>absurd (show p∈([]:List (Addr×Obj)) from g) (by simp),j.hok.kept o,?_⟩
 ·exact name_of_addr x.apart (dz h1) (dz h2)
 ·have hy:scope.names.lookup y=some .cell\/scope.names.lookup y=some .free:=hy
  rcases hy with hy | hy
  ·exact Xr hy
  ·exact absurd rfl (S.nofree _ (dz hy))
 ·exact dA (x.above y c (dz h))
 ·have hi:i<vs.length:=by
   unfold start at h2
   by_cases hi:i<vs.length
   ·exact hi
   ·rw [cE (by simpa using hi)] at h2
    rw [eE] at h2
    split at h2 <;> cases h2
  have B:vs[i]? = some v:=by
   unfold start at h2
   rw [cJ (by simpa using hi),ax] at h2
   cases e:vs[i]? with
   | none=>rw [e] at h2;cases h2
   | some a=>rw [e] at h2;cases h2;rfl
  obtain ⟨u,m,t⟩:=r.get B
  have g:ps[i]? = some y:=by
   rw [<- S.pre,List.getElem?_take_of_lt ∅];exact h1
  have l:ps.Nodup:=by rw [<- S.pre];exact S.nd.sublist (List.take_sublist _ _)
  refine ⟨u,t,?_⟩
  rcases S.par y (aA g) with k | k
  ·exact .inl ⟨k,Jx l g m k⟩
  ·obtain ⟨c,e⟩:=Xr (n:=s.heap.objs.size+1) k
   refine .inr ⟨.inl k,c,e,?_⟩
   have q:=x.cell y c e
   rw [Js l g m (by show scope.names.lookup y≠_;rw [k];decide)] at q
   exact q
 ·exact j.hok.fresh (dA (x.above y c (dz h)))
 ·unfold start
  show _=N.length
  rw [aw,ag,bc]
  omega
theorem VY {K:ah}{k:Nat}{kV pm oc:aj}{od:Option Addr}
  {U:Array (Option aj)}  {sp:Sp} (lk:K.lookup f=some ⟨oc,od,.func (bN name j params body scope dV kV doc pm an z ct),U⟩) (Y:cQ K z j=true) (S:FnScope N ps scope)
  (len:∀vs H Q E,sp vs H Q E->vs.length=ps.length)
  (G:∀(A:bF) (outer:List Env) (s:Shared) (H:Hp) (vs:List V) (Q:VK) (E:XK),Room k (A.deeper (iY j scope s.heap.objs.size f z))->sp vs H Q E ->
   ∃t,PSs ↥147 body t/\t { nx:=λ_ H'=>Q .non H',rt:=Q } (start N vs) H) :
  FnOk P w K mg base CX (k+1) f (bN name j params body scope dV kV doc pm an z ct) ps sp:=by
 refine ⟨len,λA outer s H X C vs Q E m c T r h=>?_⟩
 have O:=len _ _ _ _ h
 have B:K.In s.heap:=c.mod.kin.keeps λb o e=>(c.bs b o e).1
 have p:s.heap.NoLimit:=c.mod.nolimit.keeps λb o e=>(c.bs b o e).1
 have g:∀y∈ps.zip C,scope.names.lookup y.1=some .local\/(scope.names.lookup y.1=some .cell/\((mn ↥16 scope.names []).lookup y.1).isSome=true):=λ⟨n,v⟩ D=>by
  rcases S.par n (fZ D).1 with q | q
  ·exact .inl q
  ·exact .inr ⟨q,eX _ _ _ (.inl q)⟩
 refine nv m.depth (B _ _ lk) rfl S.co S.gen rfl (oP B Y) (T _ _ _ _ ?_)
 refine fF S.kind g λenv R s1 x=>?_
 subst R
 refine ⟨p.keeps x.toInCall.keep,codeAny_func ?_⟩
 obtain ⟨t,L,M⟩:=G A outer s H vs Q E (m.deeper _) h
 have I:Inv ↥147 [] (start N vs) H s1:=wG S m.hd c O r x
 refine ba (L [] s1 (start N vs) H _ I M) (λfl s' a=>?_) λe s' a=>a
 have i:∀{d:St} {H':Hp} {v:V} {u:aj},Inv ↥147 [] d H' s'->jH v u->Q v H'->CE outer P w H s Q u s' :=
  λ{d H' v u} J l q=>⟨v,H',J.os,J.bare,J.base,J.hok,l,q⟩
 cases fl with
 | ret u =>
  obtain ⟨v,d,H',J,l,q⟩:=a
  exact i J l q
 | next =>
  obtain ⟨d,H',J,q⟩:=a
  exact i (v:=V.non) (u:=b8) J rfl q
 | brk =>
  obtain ⟨_,_,_,q⟩:=a
  exact bB q
 | cont =>
  obtain ⟨_,_,_,q⟩:=a
  exact bB q
end L2
namespace L2
section
variable {X:Cx}{x:Str}{p pos:Pos}{e:Expr}{es:List Expr}{t:TA}{id T:String}{r:List V->Hp->VK->Prop}
noncomputable def tCB (r:List V->Hp->VK->Prop) (t:TA):TE:=λσ H Q=>t σ H λa H1=>r a H1 Q
theorem jb (hc:xh X (.builtin id) r) (hg:Gl X x) (Y:X.mg x=none) (G:fM x=some (.builtin id)) (ha:PA X (e::es) t) (U:x ≠ "__name__":=by decide) (z: ↥24=false:=by decide)
  (he:aO (e::es) X.env=↥33::aO es X.env:=by rfl) (j: (↥67).any (·.1)=false:=by rfl):PE X ↥65 (tCB r t):=by
 intro pins s σ H Q I h
 refine cT (ym I hg Y G ?_ U z)
 exact PyProof.Rows.callWith_builtin1 (thn ↥59 λb s1 ⟨a,H1,f,c,d⟩=>hc pins s1 σ H1 a b Q f c d) he j
theorem qC (hc:xh X (.type T) r) (hg:Gl X x) (Y:X.mg x=none) (G:fM x=some (.type T)) (ha:PA X (e::es) t) (U:x ≠ "__name__":=by decide) (z: ↥24=false:=by decide)
  (he:aO (e::es) X.env=↥33::aO es X.env:=by rfl) (j: (↥67).any (·.1)=false:=by rfl):PE X ↥65 (tCB r t):=by
 intro pins s σ H Q I h
 refine cT (ym I hg Y G ?_ U z)
 exact cx (thn ↥59 λb s1 ⟨a,H1,f,c,d⟩=>hc pins s1 σ H1 a b Q f c d) he j
end
end L2
namespace HT
open PySem PyProof.Rows
section
open PySem.SeqAt
open PySem.AutoSeq1 (wpAny_loadPart')
open PySem.MeetsSeq PySem.MeetsSeq2 PySem.MeetsSeq3
end
section
variable {prog:Program}{w:bD}{A:bF}{E:aj->Shared->Prop}{s:Shared}
theorem cat_tup {vs ws:List aj}{Q:aj->Shared->Prop}(G:tR s.heap t vs.toArray) (U:tR s.heap b ws.toArray) (z:vs≠[])
  (h1:ws=[]->Q (.ref t) s) (h2:ws≠[]->Q ↥13 { s with heap:=s.heap.push { cls:=.type "tuple",data:=.seq (vs++ws).toArray } })
  (hsz:vs.length+ws.length<=sizeLine):ay (aF prog w) A (fE .Add (.ref t) (.ref b)) Q E s:=by
 obtain ⟨⟨cls,o,data,j⟩,d,m,n,l⟩:=id G
 obtain ⟨⟨p,i,data2,f⟩,a,h,k,g⟩:=id U
 simp only at m l h g
 subst m l h g
 have e:vs.toArray++ws.toArray=(vs++ws).toArray:=by simp
 by_cases c:ws=[]
 ·exact pJ ⟨_,d,rfl⟩ ⟨_,a,rfl⟩ mq oC iq i9 (fT _ _)
   (tuple_addW1 t b vs.toArray ws.toArray n k o i j f (by simpa using z) (by simp [c])) ⟨d,a,h1 c⟩
 ·refine pJ ⟨_,d,rfl⟩ ⟨_,a,rfl⟩ mq oC iq i9 (fT _ _)
   (tuple_addW2 t b vs.toArray ws.toArray n k o i j f (by simpa using z) (by simpa using c) (by rw [az,az];exact hsz)) ⟨d,a,?_⟩
  rw [e]
  exact h2 c
noncomputable def sIx (n d:Nat):Option Int->Nat
 | none=>d
 | some v=>if v<0 then (v+(n:Int)).toNat else min v.toNat n
theorem sIx_none (n d:Nat):sIx n d none=d:=rfl
theorem sIx_nat (n d k:Nat):sIx n d (some (k:Int))=min k n:=by
 show (if (k:Int)<0 then ((k:Int)+(n:Int)).toNat else min (k:Int).toNat n)=min k n
 rw [if_neg ∅,b7]
theorem slicePart_ {Q:Option Int->Shared->Prop}(p:sR v o) (h:Q o s):ay (aF prog w) A (Builtin.Slice.slicePartIndex v) Q E s:=by
 cases p with
 | none=>exact slicePart_none h
 | int i t=>exact slicePart_int h
end
end HT
namespace L2
noncomputable abbrev TO:=St->Hp->(Option Int->Hp->Prop)->Prop
noncomputable def PO (X:Cx) (e:Option Expr) (t:TO):Prop :=
 ∀(pins:List (Addr×Obj)) (s:Shared) (σ:St) (H:Hp) (Q:Option Int->Hp->Prop),Inv X pins σ H s->t σ H Q ->
  ay ↥2 X.A (evalPart e X.env) (λu s'=>∃o H',Inv X pins σ H' s'/\sR u o/\Q o H') X.xe s
noncomputable def Wv:TO:=λ_ H Q=>Q none H
inductive tPartI (Q:Option Int->Hp->Prop) (x:V) (H1:Hp):Prop
 | mk (i:_) (_:x = .int i) (_:Q (some i) H1)
noncomputable def Em (t:TE):TO:=λσ H Q=>t σ H λx H1=>tPartI Q x H1
section
variable {X:Cx}{e:Expr}{te:TE}{lo hi:Option Expr}{tl th:TO}{pos p2:Pos}
theorem ki:PO X none Wv:=by
 intro pins s σ H Q I h
 rw [m8]
 exact wpAny_pure ⟨none,H,I,.none,h⟩
theorem kA (h:PE X e te):PO X (some e) (Em te):=by
 intro pins s σ H Q I c
 rw [oE]
 refine thn (h pins s σ H _ I c) λu s1 ⟨x,H1,d,a,b⟩=>?_
 obtain ⟨i,rfl,q⟩:=b
 obtain ⟨t,rfl⟩:=a
 exact ⟨some i,H1,d,.int i t,q⟩
noncomputable def SlR (X:Cx) (r:V->Option Int->Option Int->Hp->VK->Prop):Prop :=
 ∀(pins:List (Addr×Obj)) (s:Shared) (σ:St) (H:Hp) (x:V) (v b a:aj) (lo hi:Option Int) (c:Addr) (Q:VK),Inv X pins σ H s->jH x v->s.heap.IsSliceOf c b a .none->sR b lo->sR a hi->r x lo hi H Q ->
  ∃T id,oQ (.type T) "__getitem__" = pure (some (.builtin id))/\s.TypeIs v T/\ay ↥2 X.A (lV v (.ref c)) ↥51 X.xe s
noncomputable def tSl (r:V->Option Int->Option Int->Hp->VK->Prop) (te:TE) (tl th:TO):TE:=λσ H Q=>te σ H λx H1=>tl σ H1 λl H2=>th σ H2 λu a=>r x l u a Q
theorem uG (G:SlR X r) (Y:PE X e te) (U:PO X lo tl) (z:PO X hi th):PE X (.Subscript e (.Slice lo hi none p2) pos) (tSl r te tl th):=by
 intro pins s σ H Q I h
 refine mG (thn (Y pins s σ H _ I h) λv s1 ⟨x,H1,D,i,m⟩=>?_)
 refine se (thn (U pins s1 σ H1 _ D m) λd g ⟨l,H2,C,pl,k⟩=>thn (z pins g σ H2 _ C k) λc a ⟨u,f,B,n,j⟩=>?_)
 rw [m8]
 refine wpAny_pure ?_
 have y:Inv X pins σ f { a with heap:=a.heap.push { cls:=.type "slice",data:=.fields #[d,c,.none] } }:=B.kept (t':=a.toks) λb E q=>ai _ q
 obtain ⟨T,id,t,o,p⟩:=G pins { a with heap:=a.heap.push { cls:=.type "slice",data:=.fields #[d,c,.none] } } σ f x v d c l u a.heap.objs.size Q y i (lJ ..) pl n j
 show ay ↥2 X.A (iQ e (.Slice lo hi none p2) v (.ref a.heap.objs.size)) ↥51 X.xe { a with heap:=a.heap.push { cls:=.type "slice",data:=.fields #[d,c,.none] } }
 exact A2 (ops:=[.ref a.heap.objs.size,v]) o t p ↥63
noncomputable def wm (xs:List V) (lo hi:Option Int):List V:=(xs.drop (HT.sIx xs.length 0 lo)).take (HT.sIx xs.length xs.length hi-HT.sIx xs.length 0 lo)
theorem Xd (xs:List V) (lo hi:Option Int):(wm xs lo hi).length<=xs.length:=by
 unfold wm
 rw [aG,eI]
 omega
inductive rCatT (K:ah) (x:V) (y:V) (H:Hp) (Q:VK):Prop
 | mk (a:_) (b:_) (xs:_) (ys:_) (_:x = .ref a) (_:y = .ref b) (_:SqT K H a xs) (_:SqT K H b ys) (_:xs≠[]) (_:xs.length+ys.length<=sizeLine) (_:(ys=[]->Q (.ref a) H)) (_:(ys≠[]->∀p,H p=none->Q (.ref p) (upd H p (.tup (xs++ys)))))
theorem jI.nil_iff {xs:List V}(r:jI xs us):us=[]↔xs=[]:=by
 cases r with
 | nil=>simp
 | cons _ _=>simp
theorem Ut:OpR X (fE .Add) (rCatT X.K):=by
 intro pins s σ H x y v u Q I g f h
 obtain ⟨a,b,xs,ys,rfl,rfl,p,n,m,e,j,i⟩:=h
 cases g
 cases f
 obtain ⟨r,d,k,_⟩:=I.tuple p
 obtain ⟨l,c,p2,_⟩:=I.tuple n
 refine HT.cat_tup k p2 (λz=>m (d.nil_iff.mp z)) (λz=>⟨.ref a,H,I,rfl,j (c.nil_iff.mp z)⟩) (λz=>?_) (by rw [<- d.length,<- c.length];exact e)
 refine ⟨.ref s.heap.objs.size,_,I.laid (t':=s.toks) (o:=.tup (xs++ys)) (λb t q=>ai _ q) (au _) ?_,rfl,i (λw=>z (c.nil_iff.mpr w)) _ (I.hok.fresh (au _))⟩
 exact ⟨by rw [aw];exact e,_,d.append c,tS _ _⟩
end
end L2
namespace L2
noncomputable def ixN (n:Nat) (i:Int):Option Nat:=if 0<=i then (if i<n then some i.toNat else none) else if -(n:Int)<=i then some (i+n).toNat else none
noncomputable def atI {α:Type}(xs:List α) (i:Int):Option α:=(ixN xs.length i).bind λj=>xs[j]?
theorem ZV {n:Nat}{i:Int}{j:Nat}(h:ixN n i=some j):seqIndex? i n=some j/\j<n /\ -(n:Int)<=i/\i<n:=by
 unfold ixN at h
 by_cases a:0<=i
 ·rw [if_pos a] at h
  by_cases h1:i<n
  ·rw [if_pos h1] at h
   have e:i.toNat=j:=aI h
   exact ⟨by rw [nM a h1,e],∅,∅,h1⟩
  ·rw [if_neg h1] at h;cases h
 ·rw [if_neg a] at h
  by_cases h1 : -(n:Int)<=i
  ·rw [if_pos h1] at h
   have e:(i+n).toNat=j:=aI h
   exact ⟨by rw [mH ∅ h1,e],∅,h1,∅⟩
  ·rw [if_neg h1] at h;cases h
theorem Qf {α:Type}{xs:List α}{i:Int}{v:α}(h:atI xs i=some v):∃j,seqIndex? i xs.length=some j/\xs[j]? = some v/\j<xs.length /\ -(xs.length:Int)<=i/\i<xs.length:=by
 unfold atI at h
 cases e:ixN xs.length i with
 | none=>rw [e] at h;cases h
 | some j =>
  rw [e] at h
  obtain ⟨h1,h2,b,a⟩:=ZV e
  exact ⟨j,h1,h,h2,b,a⟩
theorem y3 {α:Type}{xs:List α}{j:Nat}{v:α}(h:xs[j]? = some v):atI xs (j:Int)=some v:=by
 have a:j<xs.length:=(List.getElem?_eq_some_iff.mp h).1
 have e:ixN xs.length (j:Int)=some j:=by
  unfold ixN
  rw [if_pos ∅,if_pos ∅];simp
 unfold atI;rw [e];exact h
theorem w9 {α:Type}(xs:List α) (v:α):atI (xs++[v]) (-1)=some v:=by
 have a:(xs++[v]).length=xs.length+1:=by simp
 have e:ixN (xs++[v]).length (-1)=some xs.length:=by
  unfold ixN
  rw [a,if_neg ⋯,if_pos ∅]
  congr 1
  omega
 unfold atI
 rw [e]
 show (xs++[v])[xs.length]? = some v
 simp
noncomputable def Wl (b:Expr):Prop:=∀o i,nN b false o i=operate [o,i] (lV o i)
noncomputable def IxR (X:Cx) (r:R2):Prop :=
 ∀(value a:Expr) (pins:List (Addr×Obj)) (s:Shared) (σ:St) (H:Hp) (x y:V) (v u:aj) (Q:VK),Inv X pins σ H s->jH x v->jH y u->r x y H Q ->
  nN a false v u=operate [v,u] (lV v u)->ay ↥2 X.A (iQ value a v u) ↥51 X.xe s
noncomputable def MtR (X:Cx) (id:String) (r:V->List V->Hp->VK->Prop):Prop :=
 ∀(pins:List (Addr×Obj)) (s:Shared) (σ:St) (H:Hp) (x:V) (xs:List V) (v:aj) (a:List aj) (Q:VK),Inv X pins σ H s->jH x v->jI xs a->r x xs H Q ->
  ay ↥2 X.A (call (.builtin id) (v::a)) ↥51 X.xe s
section
variable {X:Cx}{a b:Expr}{ta tb:TE}{pos:Pos}
theorem jm (z:IxR X r) (U:PE X a ta) (G:PE X b tb) (j:Wl b):PE X (.Subscript a b pos) (tOp r ta tb):=by
 intro pins s σ H Q I h
 exact mG (GB U G I h λv u c x y H2 f e d q=>z a b pins c σ H2 x y v u Q f e d q (j _ _))
inductive rIxL (K:ah) (x:V) (y:V) (H:Hp) (Q:VK):Prop
 | mk (p:_) (xs:_) (i:_) (v:_) (_:x = .ref p) (_:y = .int i) (_:SqL K H p xs) (_:atI xs i=some v) (_:Q v H)
inductive rIxT (K:ah) (x:V) (y:V) (H:Hp) (Q:VK):Prop
 | mk (p:_) (xs:_) (i:_) (v:_) (_:x = .ref p) (_:y = .int i) (_:SqT K H p xs) (_:atI xs i=some v) (_:Q v H)
theorem Ww:IxR X (rIxL X.K):=by
 intro value k pins s σ H x y v u Q I m l h e
 obtain ⟨p,xs,i,z,rfl,rfl,n,A,q⟩:=h
 cases m
 obtain ⟨t,rfl⟩:=l
 obtain ⟨d,r,pl,D⟩:=I.list n
 obtain ⟨j,h1,h2,G,C,B⟩:=Qf A
 obtain ⟨w,g,c⟩:=r.get h2
 have o:=r.length
 have E:=gR
 have a:EP X pins σ Q w s:=⟨z,H,I,c,q⟩
 by_cases f:0<=i
 ·have b:i.toNat=j:=by
   rw [nM f B] at h1
   exact aI h1
  exact item_listR pl.isList f ∅ (by rw [b];simpa using g) a e
 ·have b:(i+(d.toArray.size:Int)).toNat=j:=by
   rw [mH ∅ C] at h1
   rw [az,<- o]
   exact aI h1
  exact mI (x:=w) pl.isList.typeIs slot_list_getitem.lookup
   (mJ (Q:=λr s'=>r=w/\EP X pins σ Q r s') pl.isList ∅ (by rw [az] <;> omega) ∅ (by rw [b];simpa using g) ⟨rfl,a⟩) e
theorem WM:IxR X (rIxT X.K):=by
 intro value c pins s σ H x y v u Q I e d h f
 obtain ⟨p,xs,i,z,rfl,rfl,g,l,q⟩:=h
 cases e
 obtain ⟨t,rfl⟩:=d
 obtain ⟨n,r,pl,o⟩:=I.tuple g
 obtain ⟨j,h1,h2,D,C,B⟩:=Qf l
 obtain ⟨w,m,a⟩:=r.get h2
 have k:=r.length
 have A:=gR
 have b:EP X pins σ Q w s:=⟨z,H,I,a,q⟩
 exact mI (x:=w) pl.typeIs slot_tuple_getitem.lookup
  (getItem_tuple (j:=j) (Q:=λr s'=>r=w/\EP X pins σ Q r s') pl ∅ ∅ (by rw [az,<- k];exact h1) (by simpa using m) ⟨rfl,b⟩) f
theorem ZD (its:List aj) (n j:Nat) (u:aj):bb (·.setIfInBounds j u) { cls:=.type "list",data:=.seq its.toArray n }={ cls:=.type "list",data:=.seq (its.set j u).toArray n }:=by
 simp [bb]
theorem Inv.lst {p:Addr}{xs:List V}(I:Inv X pins σ H s) (h:H p=some (.lst xs)) :
  ∃(its:List aj) (n:Nat),jI xs its/\s.heap.get? p=some { cls:=.type "list",data:=.seq its.toArray n }/\xs.length<=sizeLine:=by
 obtain ⟨z,its,n,r,e⟩:=I.hok p _ h
 exact ⟨its,n,r,e,z⟩
theorem Inv.lstUpd {p:Addr}{xs ys:List V}{its its':List aj}{n j:Nat}{f:Obj->Obj}(I:Inv X pins σ H s) (h:H p=some (.lst xs))
  (U:s.heap.get? p=some { cls:=.type "list",data:=.seq its.toArray n }) (z:f { cls:=.type "list",data:=.seq its.toArray n }={ cls:=.type "list",data:=.seq its'.toArray j }) (r:jI ys its') (G:ys.length<=sizeLine) (t:Nat) :
  Inv X pins σ (upd H p (.lst ys)) { s with heap:=s.heap.update p f,toks:=t }:=by
 have e:(s.heap.update p f).get? p=some { cls:=.type "list",data:=.seq its'.toArray j }:=by
  rw [cO f U (by rw [z] <;> rfl),z]
 refine I.write (x:=p) (e:=p) (by rw [h];trivial) (.inl rfl) (λb u a q=>(bE _ _ (cF a)).trans q) ⟨_,e⟩ ?_
 exact ⟨G,its',j,r,e⟩
noncomputable def ED:V->V->V->Hp->(Hp->Prop)->Prop:=λo i v H Q=>∃p xs k j,o = .ref p/\i = .int k/\H p=some (.lst xs)/\ixN xs.length k=some j/\Q (upd H p (.lst (xs.set j v)))
theorem yB:WP X ED:=by
 intro pins s σ H o i v B C u Q I x y w h
 obtain ⟨p,xs,k,j,rfl,rfl,e,A,q⟩:=h
 cases x
 obtain ⟨t,rfl⟩:=y
 obtain ⟨a,n,r,b,z⟩:=I.lst e
 obtain ⟨h1,h2,g,f⟩:=ZV A
 have c:=r.length
 have D:=gR
 have m:Inv X pins σ (upd H p (.lst (xs.set j v))) { s with heap:=s.heap.update p (bb (·.setIfInBounds j u)) } :=
  I.lstUpd e b (ZD a n j u) (r.set w j) (by rw [iZ];exact z) s.toks
 by_cases l:0<=k
 ·have d:k.toNat=j:=by
   rw [nM l f] at h1
   exact aI h1
  exact PySem.W.ki_setAt b l ∅ (by rw [az,<- c];exact f) (by rw [d];exact ⟨_,m,q⟩)
 ·have d:(k+(a.toArray.size:Int)).toNat=j:=by
   rw [mH ∅ g] at h1
   rw [az,<- c]
   exact aI h1
  exact PySem.W.ki_setBack b ∅ (by rw [az,<- c];exact g) ∅ (by rw [d];exact ⟨_,m,q⟩)
theorem Qp (lo hi:Option Int) (n:Nat):(ia lo hi none n).1=((HT.sIx n 0 lo:Nat):Int)/\(ia lo hi none n).2.1=((HT.sIx n n hi:Nat):Int)/\(ia lo hi none n).2.2=1:=by
 refine ⟨?_,?_,rfl⟩
 ·cases lo with
  | none=>simp [ia,HT.sIx]
  | some i =>
   simp only [ia,HT.sIx,rC,show (1:Int) > 0 by decide,if_true]
   by_cases h:i<0
   ·simp only [h,if_true] <;> omega
   ·simp only [h,if_false] <;> omega
 ·cases hi with
  | none=>simp [ia,HT.sIx]
  | some i =>
   simp only [ia,HT.sIx,rC,show (1:Int) > 0 by decide,if_true]
   by_cases h:i<0
   ·simp only [h,if_true] <;> omega
   ·simp only [h,if_false] <;> omega
theorem Jd (its:List aj) (lo hi:Option Int):slicePick its.toArray lo hi none=((its.drop (HT.sIx its.length 0 lo)).take (HT.sIx its.length its.length hi-HT.sIx its.length 0 lo)).toArray:=by
 obtain ⟨h1,h2,a⟩:=Qp lo hi its.toArray.size
 unfold slicePick
 rw [h1,h2,a]
 simp only [sliceRange_one,pick_run,az] <;> rfl
inductive rSlL (K:ah) (x:V) (lo:Option Int) (hi:Option Int) (H:Hp) (Q:VK):Prop
 | mk (a:_) (xs:_) (_:x = .ref a) (_:SqL K H a xs) (_:∀p,H p=none->Q (.ref p) (upd H p (.lst (wm xs lo hi))))
theorem UY:SlR X (rSlL X.K):=by
 intro pins s σ H x v m l lo hi n Q I e j pl f h
 obtain ⟨a,xs,rfl,i,q⟩:=h
 cases e
 obtain ⟨k,r,d,g⟩:=I.list i
 have c:=r.length
 refine ⟨"list",_,slot_list_getitem.lookup,d.isList.typeIs,?_⟩
 refine m9 d.isList j pl f .none (by simp) ?_ (by rw [az] <;> omega)
 rw [Jd,<- c]
 refine ⟨.ref s.heap.objs.size,_,I.laid (t':=s.toks) (o:=.lst (wm xs lo hi)) (λb p q=>ai _ q) (au _) ?_,rfl,q _ (I.hok.fresh (au _))⟩
 exact ⟨aK (Xd xs lo hi) g,_,0,(r.drop (HT.sIx xs.length 0 lo)).take (HT.sIx xs.length xs.length hi-HT.sIx xs.length 0 lo),aB _ rfl⟩
noncomputable def uH:V->Bool
 | .non=>true
 | .bl _=>true
 | .int _=>true
 | .str _=>true
 | _=>false
noncomputable def eqV:V->V->Bool
 | .non,.non=>true
 | .bl a,.bl b=>a == b
 | .bl a,.int b=>(if a then 1 else 0) == b
 | .int a,.bl b=>a == (if b then 1 else 0)
 | .int a,.int b=>a == b
 | .str a,.str b=>a == b
 | _,_=>false
theorem WU (z:jH y u) (j:jH x v) (U:uH y=true) (G:uH x=true):SeqAt.EqAt A s u v (eqV y x):=by
 cases y with
 | non =>
  cases z
  cases x with
  | non=>cases j;exact SeqAt.EqAt.same _
  | bl b=>cases j;exact SeqAt.EqAt.none_bool b
  | int b=>obtain ⟨t,rfl⟩:=j;exact SeqAt.EqAt.none_int b t
  | str b=>obtain ⟨t,rfl⟩:=j;exact SeqAt.EqAt.none_str b t
  | _=>exact absurd (show false=true from G) ar
 | bl a =>
  cases z
  cases x with
  | non=>cases j;exact SeqAt.EqAt.bool_none a
  | bl b=>cases j;exact SeqAt.EqAt.bool_bool a b
  | int b=>obtain ⟨t,rfl⟩:=j;exact SeqAt.EqAt.bool_int a b t
  | str b=>obtain ⟨t,rfl⟩:=j;exact SeqAt.EqAt.bool_str a b t
  | _=>exact absurd (show false=true from G) ar
 | int a =>
  obtain ⟨c,rfl⟩:=z
  cases x with
  | non=>cases j;exact SeqAt.EqAt.int_none a c
  | bl b=>cases j;exact SeqAt.EqAt.int_bool a c b
  | int b=>obtain ⟨t,rfl⟩:=j;exact SeqAt.EqAt.int_int a c b t
  | str b=>obtain ⟨t,rfl⟩:=j;exact oK a c b t
  | _=>exact absurd (show false=true from G) ar
 | str a =>
  obtain ⟨c,rfl⟩:=z
  cases x with
  | non=>cases j;exact SeqAt.EqAt.str_none a c
  | bl b=>cases j;exact SeqAt.EqAt.str_bool a c b
  | int b=>obtain ⟨t,rfl⟩:=j;exact oM a c b t
  | str b=>obtain ⟨t,rfl⟩:=j;exact SeqAt.EqAt.str_str a c b t
  | _=>exact absurd (show false=true from G) ar
 | _=>exact absurd (show false=true from U) ar
noncomputable def eqU (x:V) (u:aj):Bool:=match u with
 | .none=>eqV .non x
 | .bool b=>eqV (.bl b) x
 | .int i _=>eqV (.int i) x
 | .str z _=>eqV (.str z) x
 | _=>false
theorem Uj (r:jH y u) (f:uH y=true):eqU x u=eqV y x:=by
 cases y with
 | non=>cases r;rfl
 | bl b=>cases r;rfl
 | int i=>obtain ⟨t,rfl⟩:=r;rfl
 | str z=>obtain ⟨t,rfl⟩:=r;rfl
 | _=>exact absurd (show false=true from f) ar
theorem uK {x:V}:∀{xs:List V}{us:List aj},jI xs us->xs.all uH=true->us.any (eqU x)=xs.any λy=>eqV y x
 | _,_,.nil,_=>rfl
 | y::xs,u::us,.cons r t,f=>by
  rw [oF,bw] at f
  rw [fU,fU,Uj r f.1,uK t f.2]
theorem vI (j:jH x v) (z:uH x=true):∀{xs:List V}{us:List aj},jI xs us->xs.all uH=true->∀u∈us,SeqAt.EqAt A s u v (eqU x u)
 | _,_,.nil,_=>λu hu=>by cases hu
 | y::xs,u::us,.cons r t,f=>λa hu=>by
  rw [oF,bw] at f
  rcases List.mem_cons.mp hu with rfl | hu
  ·rw [Uj r f.1];exact WU r j f.1 z
  ·exact vI j z t f.2 a hu
noncomputable def inV (x:V) (xs:List V):Bool:=xs.any λy=>eqV y x
inductive rIn (K:ah) (neg:Bool) (x:V) (y:V) (H:Hp) (Q:VK):Prop
 | mk (p:_) (xs:_) (_:y = .ref p) (_:(SqL K H p xs\/SqT K H p xs)) (_:uH x=true) (_:xs.all uH=true) (_:Q (.bl (if neg then !inV x xs else inV x xs)) H)
theorem YS:OpR X (cq .In) (rIn X.K false):=by
 intro pins s σ H x y v u Q I c e h
 obtain ⟨p,xs,rfl,hq,d,fs,q⟩:=h
 cases e
 rcases hq with hq | hq
 ·obtain ⟨a,r,pl,f⟩:=I.list hq
  refine SeqAt.in_listAt (eqU x) pl.isList ↥117 ⟨.bl _,H,I,rfl,?_⟩
  rw [show a.toArray.any (eqU x)=a.any (eqU x) by simp,uK r fs]
  exact q
 ·obtain ⟨a,r,pl,f⟩:=I.tuple hq
  refine SeqAt.in_tupleAt (eqU x) pl ↥117 ⟨.bl _,H,I,rfl,?_⟩
  rw [show a.toArray.any (eqU x)=a.any (eqU x) by simp,uK r fs]
  exact q
theorem Qw:OpR X (cq .NotIn) (rIn X.K true):=by
 intro pins s σ H x y v u Q I c e h
 obtain ⟨p,xs,rfl,hq,d,fs,q⟩:=h
 cases e
 rcases hq with hq | hq
 ·obtain ⟨a,r,pl,f⟩:=I.list hq
  refine SeqAt.notIn_listAt (eqU x) pl.isList ↥117 ⟨.bl _,H,I,rfl,?_⟩
  rw [show a.toArray.any (eqU x)=a.any (eqU x) by simp,uK r fs]
  exact q
 ·obtain ⟨a,r,pl,f⟩:=I.tuple hq
  refine SeqAt.notIn_tupleAt (eqU x) pl ↥117 ⟨.bl _,H,I,rfl,?_⟩
  rw [show a.toArray.any (eqU x)=a.any (eqU x) by simp,uK r fs]
  exact q
inductive cI_call_len_seq (K:ah) (xs:List V) (H:Hp) (Q:VK):Prop
 | mk (p:_) (ys:_) (_:xs=[.ref p]) (_:(SqL K H p ys\/SqT K H p ys)) (_:Q (.int ys.length) H)
theorem Qx:xh X (.builtin "len") (cI_call_len_seq X.K):=by
 intro pins s σ H xs f Q I r h
 obtain ⟨p,ys,rfl,hq,q⟩:=h
 obtain ⟨u,rfl,d⟩:=zX r
 cases d
 have g:=gR
 rcases hq with hq | hq
 ·obtain ⟨c,b,pl,e⟩:=I.list hq
  have a:=b.length
  exact Calls.call_len_list pl.isList ↥137 ⟨.int ys.length,H,I.tok _,⟨s.toks+1,by rw [az,a]⟩,q⟩
 ·obtain ⟨c,b,pl,e⟩:=I.tuple hq
  have a:=b.length
  exact len_tuple pl ↥137 ⟨.int ys.length,H,I.tok _,⟨s.toks+1,by rw [az,a]⟩,q⟩
inductive cI_call_list_of (K:ah) (xs:List V) (H:Hp) (Q:VK):Prop
 | mk (p:_) (ys:_) (_:xs=[.ref p]) (_:(SqL K H p ys\/SqT K H p ys)) (_:∀l,H l=none->Q (.ref l) (upd H l (.lst ys)))
theorem JY:xh X ↥146 (cI_call_list_of X.K):=by
 intro pins s σ H xs t Q I r h
 obtain ⟨p,ys,rfl,hq,q⟩:=h
 obtain ⟨u,rfl,m⟩:=zX r
 cases m
 have g:∀(a:List aj),jI ys a->ys.length<=sizeLine->∀(h':Heap) (d:Nat),(∀b o',s.heap.get? b=some o'->h'.get? b=some o') ->
   h'.get? s.heap.objs.size=some { cls:=.type "list",dict:=none,data:=.seq a.toArray d,slots:=#[] }->EP X pins σ Q ↥13 { s with heap:=h' }:=λa c f h' d kp e =>
  ⟨.ref s.heap.objs.size,_,I.laid (t':=s.toks) kp (au _) (show qB X.prog X.w _ h' _ (.lst ys) from ⟨f,a,d,c,e⟩),rfl,q _ (I.hok.fresh (au _))⟩
 rcases hq with hq | hq
 ·obtain ⟨a,c,pl,f⟩:=I.list hq
  have j:=c.length
  obtain ⟨o,i,l,n,k⟩:=pl.isList
  exact tK p (.inl rfl) i l k (λh' d kp e=>g a c f h' d kp e) ↥137
 ·obtain ⟨a,c,pl,f⟩:=I.tuple hq
  have j:=c.length
  obtain ⟨o,i,l,n,k⟩:=pl
  exact tK p (.inr rfl) i l k (λh' d kp e=>g a c f h' d kp e) ↥137
inductive cI_call_tuple_of (K:ah) (xs:List V) (H:Hp) (Q:VK):Prop
 | mk (p:_) (ys:_) (_:xs=[.ref p]) (_:((SqL K H p ys/\∀l,H l=none->Q (.ref l) (upd H l (.tup ys)))\/(SqT K H p ys/\Q (.ref p) H)))
theorem Jh:xh X (.type "tuple") (cI_call_tuple_of X.K):=by
 intro pins s σ H xs l Q I r h
 obtain ⟨p,ys,rfl,h⟩:=h
 obtain ⟨u,rfl,i⟩:=zX r
 cases i
 rcases h with ⟨d,q⟩ | ⟨d,q⟩
 ·obtain ⟨a,c,pl,f⟩:=I.list d
  have j:=c.length
  refine call_tuple_list pl.isList (λh' kp=>?_) ↥137
  have g:Inv X pins σ H { s with heap:=h' }:=I.kept (t':=s.toks) kp
  have k:Inv X pins σ (upd H h'.objs.size (.tup ys)) { s with heap:=h'.push { cls:=.type "tuple",data:=.seq a.toArray } } :=
   g.laid (t':=s.toks) (λb o e=>ai _ e) (au _) (show qB X.prog X.w _ _ _ (.tup ys) from ⟨f,a,c,tS _ _⟩)
  exact ⟨.ref h'.objs.size,_,k,rfl,q _ (g.hok.fresh (au _))⟩
 ·obtain ⟨a,c,pl,f⟩:=I.tuple d
  exact call_tuple_same pl ⟨.ref p,H,I,rfl,q⟩
noncomputable def tyV (K:ah) (T:String) (x:V) (H:Hp):Prop:=match x with
 | .str _=>T = "str"
 | .int _=>T = "int"
 | .ref p=>(T = "list" /\ ∃xs,SqL K H p xs)\/(T = "tuple" /\ ∃o,K.lookup p=some o/\o.cls = .type "tuple" /\ o.dict=none) \/
   (T = "dict" /\ ((∃kvs,H p=some (.dK kvs))\/∃kvs,H p=some (.dT kvs)))\/(T = "set" /\ ∃S n,H p=some (.set S n))
 | _=>False
theorem GC {T:String}(I:Inv X pins σ H s) (r:jH x v) (ty:tyV X.K T x H) :
  s.TypeIs v T/\∀a,v = .ref a->∃j,s.heap.get? a=some j/\j.dict=none:=by
 cases x with
 | str z =>
  obtain ⟨t,rfl⟩:=r
  cases (show T = "str" from ty)
  exact ⟨typeIs_str s z t,λ_ e=>nomatch e⟩
 | int i =>
  obtain ⟨t,rfl⟩:=r
  cases (show T = "int" from ty)
  exact ⟨typeIs_int s i t,λ_ e=>nomatch e⟩
 | ref p =>
  cases r
  rcases ty with ⟨rfl,xs,g⟩ | ⟨rfl,o,b,h,d⟩ | ⟨rfl,b⟩ | ⟨rfl,S,n,b⟩
  ·obtain ⟨k,_,pl,_⟩:=I.list g
   refine ⟨pl.isList.typeIs,λa e=>?_⟩
   cases e
   obtain ⟨o,n,e,c,d,_⟩:=pl
   exact ⟨o,e,d⟩
  ·refine ⟨⟨o,I.kIn p o b,h⟩,λa e=>?_⟩
   cases e
   exact ⟨o,I.kIn _ o b,d⟩
  ·have z:∃o,s.heap.get? p=some o/\o.ExactDict:=by
    rcases b with ⟨kvs,b⟩ | ⟨kvs,b⟩
    ·obtain ⟨_,_,_,_,o,_,_,e,ex,_⟩:=I.hok p _ b
     exact ⟨o,e,ex⟩
    ·obtain ⟨_,_,_,_,o,_,_,e,ex,_⟩:=I.hok p _ b
     exact ⟨o,e,ex⟩
   obtain ⟨o,e,ex⟩:=z
   refine ⟨⟨o,e,ex.1⟩,λa f=>?_⟩
   cases f
   exact ⟨o,e,ex.2.1⟩
  ·obtain ⟨o,_,_,_,e,ex,_⟩:=I.hok p _ b
   refine ⟨⟨o,e,ex.1⟩,λa f=>?_⟩
   cases f
   exact ⟨o,e,ex.2.1⟩
 | _=>exact bB ty
noncomputable def tBM (K:ah) (T:String) (r:V->List V->Hp->VK->Prop) (to:TE) (t:TA):TE:=λσ H Q=>to σ H λx H1=>tyV K T x H1/\t σ H1 λxs H2=>r x xs H2 Q
variable {o e:Expr}{es:List Expr}{to:TE}{t:TA}{name:Str}{apos cpos:Pos}{T id:String}{r:V->List V->Hp->VK->Prop}
theorem Et (pa:PlainAttrs T) (U:Slot T name id) (ab:sS (.builtin id)=pure (.type "method_descriptor")) (hm:MtR X id r) (ho:PE X o to) (ha:PA X (e::es) t)
  (G:fS o name X.env (eval o X.env)=eval o X.env:=by rfl)
  (Y:((cG cpos (aO (e::es) X.env)).all (λx=>!x.1) && (il cpos (dS [] X.env)).all (λx=>x.1.isSome)
   && decide ((e::es).length+([]:List mF).length+(if ([]:List mF).isEmpty then 0 else 1)<30))=true:=by rfl)
  (z:(apos.endLine == cpos.line)=true:=by rfl) (hs:aO (e::es) X.env=↥33::aO es X.env:=by rfl) (j:(cG cpos (aO es X.env)).any (·.1)=false:=by rfl) :
  PE X (.Call (.Attribute o name apos) (e::es) [] cpos) (tBM X.K T r to t):=by
 intro pins s σ H Q I h
 refine wpAny_Call_method_late G Y z rfl (thn (ho pins s σ H _ I h) λv s1 ⟨x,H1,c,a,ty,l⟩=>?_)
 obtain ⟨h1,h2⟩:=GC c a ty
 refine ⟨T,id,pa,U,ab,h1,h2,?_⟩
 have b:=ha cpos pins s1 σ H1 _ c l
 rw [hs] at b ⊢
 refine mK (by show (false || (cG cpos (aO es X.env)).any (·.1))=false;rw [j] <;> rfl) (iU ?_)
 exact thn b λf g ⟨d,H2,m,i,k⟩=>hm pins g σ H2 x d v f Q m a i k
end
end L2
namespace L2
noncomputable def MtM (X:Cx) (id:String) (r:V->List V->Hp->VK->Prop):Prop :=
 ∀(pins:List (Addr×Obj)) (s:Shared) (σ:St) (H:Hp) (x:V) (xs:List V) (v:aj) (a:List aj) (Q:VK),Inv X pins σ H s->jH x v->jI xs a->r x xs H Q ->
  ay ↥2 X.A (call (.builtin id) (v::a)) ↥51 X.xe s
theorem jI.one:∀{x:V}{us:List aj},jI [x] us->∃u,us=[u]/\jH x u
 | _,_,.cons r .nil=>⟨_,rfl,r⟩
theorem jI.dropLast {xs:List V}(h:jI xs us):jI xs.dropLast us.dropLast:=by
 induction h with
 | nil=>exact .nil
 | cons r t a =>
  cases t with
  | nil=>exact .nil
  | cons q b=>exact .cons r a
theorem jI.reverse {xs:List V}(h:jI xs us):jI xs.reverse us.reverse:=by
 induction h with
 | nil=>exact .nil
 | cons r t a=>rw [lX,lX];exact jI.append a (.cons r .nil)
section
variable {X:Cx}{pins:List (Addr×Obj)}{σ:St}{H:Hp}{s:Shared}{l b:Addr}{xs ys zs:List V}
theorem Inv.lset {its its':List aj}{n:Nat}{f:Array aj->Array aj}{t':Nat}(I:Inv X pins σ H s) (U:H l=some (.lst xs))
  (e:s.heap.get? l=some { cls:=.type "list",data:=.seq its.toArray n }) (G:f its.toArray=its'.toArray) (z:jI ys its') (j:ys.length<=sizeLine) :
  Inv X pins σ (upd H l (.lst ys)) { s with heap:=s.heap.update l (bb f),toks:=t' }:=by
 have q:=PySem.IsL.update e f
 rw [G] at q
 refine I.write (x:=l) (e:=l) (by rw [U];exact trivial) (.inl rfl) (λc u b a=>(bE s.heap (bb f) (cF b)).trans a) ⟨_,q⟩ ?_
 exact ⟨j,its',_,z,q⟩
theorem Inv.lnew {t':Nat}(I:Inv X pins σ H s) (z:jI ys its) (j:ys.length<=sizeLine) :
  Inv X pins σ (upd H s.heap.objs.size (.lst ys)) { s with heap:=s.heap.push { cls:=.type "list",data:=.seq its.toArray },toks:=t' } :=
 I.laid (λ_ _ q=>ai _ q) (au _) ⟨j,its,0,z,aB _ rfl⟩
theorem Inv.fresh (I:Inv X pins σ H s):H s.heap.objs.size=none:=I.hok.fresh (au _)
theorem Inv.lstM (I:Inv X pins σ H s) (j:H l=some (.lst xs)):xs.length<=sizeLine/\∃(its:List aj) (n:Nat),jI xs its/\xs.length=its.length/\s.heap.get? l=some { cls:=.type "list",data:=.seq its.toArray n }:=by
 obtain ⟨z,its,n,r,e⟩:=I.hok l _ j
 exact ⟨z,its,n,r,r.length,e⟩
theorem Uk {n:Nat}(h:n<=sizeLine):fV n=false:=by
 unfold fV
 exact decide_eq_false ∅
end
section
variable {X:Cx}
inductive rAppend  (x:V) (vs:List V) (H:Hp) (Q:VK):Prop
 | mk (l:_) (xs:_) (y:_) (_:x = .ref l) (_:vs=[y]) (_:H l=some (.lst xs)) (_:xs.length<sizeLine) (_:Q .non (upd H l (.lst (xs++[y]))))
theorem qq:MtM X "list.append" rAppend:=by
 intro pins s σ H x g v i Q I c d h
 obtain ⟨l,xs,y,rfl,rfl,b,j,q⟩:=h
 cases c
 obtain ⟨u,rfl,f⟩:=d.one
 obtain ⟨z,a,n,r,k,e⟩:=I.lstM b
 refine oR F.slot_list_append ⟨_,e,rfl⟩ F.entry_list_append (F.args_list_append_2 _ _) (PySem.list_append l a.toArray n u (by rw [az];omega)) ⟨e,?_⟩
 refine ⟨.non,_,I.lset (its':=a++[u]) b e (by simp) (r.append (.cons f .nil)) ?_,rfl,q⟩
 rw [aw,bx]
 omega
inductive rExtend  (x:V) (vs:List V) (H:Hp) (Q:VK):Prop
 | mk (l:_) (b:_) (xs:_) (zs:_) (_:x = .ref l) (_:vs=[.ref b]) (_:H l=some (.lst xs)) (_:H b=some (.lst zs)) (_:xs.length+zs.length<=sizeLine) (_:Q .non (upd H l (.lst (xs++zs))))
theorem GS:MtM X "list.extend" rExtend:=by
 intro pins s σ H x A v B Q I i j h
 obtain ⟨l,b,xs,zs,rfl,rfl,g,p,C,q⟩:=h
 cases i
 obtain ⟨u,rfl,k⟩:=j.one
 cases k
 obtain ⟨z,c,n,r,D,e⟩:=I.lstM g
 obtain ⟨y,a,o,m,w,t⟩:=I.lstM p
 have f:c.toArray.size+a.toArray.size<=sizeLine:=by rw [az,az];omega
 have d:¬(!c.toArray.isEmpty && fV (c.toArray.size+a.toArray.size))=true:=by
  rw [Uk f,sU]
  exact ar
 refine oR F.slot_list_extend ⟨_,e,rfl⟩ F.entry_list_extend (F.args_list_extend_2 _ _)
  (AutoSeq1.list_extend_list_list_0 l c.toArray n b a.toArray o d (by rw [az];omega) ∅) ⟨e,t,?_⟩
 refine ⟨.non,_,I.lset (its':=c++a) g e (by simp) (r.append m) ?_,rfl,q⟩
 rw [aw]
 omega
inductive rCat  (x:V) (y:V) (H:Hp) (Q:VK):Prop
 | mk (l:_) (b:_) (xs:_) (zs:_) (_:x = .ref l) (_:y = .ref b) (_:H l=some (.lst xs)) (_:H b=some (.lst zs)) (_:xs.length+zs.length<=sizeLine) (_:∀p,H p=none->Q (.ref p) (upd H p (.lst (xs++zs))))
theorem GF:OpR X (fE .Add) rCat:=by
 intro pins s σ H x y v u Q I f d h
 obtain ⟨l,b,xs,zs,rfl,rfl,i,j,w,q⟩:=h
 cases f
 cases d
 obtain ⟨z,c,n,r,A,e⟩:=I.lstM i
 obtain ⟨p,a,t,g,o,m⟩:=I.lstM j
 refine PySem.P.add_list e m ?_ (by rw [az,az];omega)
 have k:c.toArray++a.toArray=(c++a).toArray:=by simp
 rw [k]
 exact ⟨.ref _,_,I.lnew (t':=s.toks) (r.append g) (by rw [aw];omega),rfl,q _ I.fresh⟩
end
section
variable {prog:Program}{w:bD}{A:bF}{E:aj->Shared->Prop}{s:Shared}
set_option maxRecDepth 100000 in
end
section
variable {X:Cx}
end
end L2
namespace Att
open PySem PySem.W PySem.Calls PyProof.Rows
theorem ke :∀(ns:List Int) (vs:List aj),WellAll P h vs (ns.map WData.int)->dC vs ns:=by
 intro ns
 induction ns with
 | nil =>
  intro vs w
  rw [mL] at w
  cases w
  exact .nil
 | cons n ns c =>
  intro vs w
  rw [aU] at w
  cases w with
  | cons a b =>
   cases a
   exact .cons _ _ (c _ b)
theorem YR {l:OpenLaw}{n:Nat}(U:l.most=some n) 
  (j:l.row.toRowW.claim.pre args=true) (G:WellAll P h z args) :
  ∃a vs ns,z=[aW a]/\args=[WData.list (ns.map WData.int)]/\h.get? a=some { cls:=.type "list",data:=.seq vs.toArray }/\dC vs ns/\ns.length<=n:=by
 have g:WShape.hasAll [] args [.list .int]=true:=(pre_splitW j).1
 have i:l.pre.holds [] { args:=args }=true:=(pre_splitW j).2
 obtain ⟨d,r,rfl,h1,h2⟩:=hasAllW_cons g
 obtain rfl:=hasAllW_nil h2
 obtain ⟨xs,rfl,s⟩:=hasW_list h1
 obtain ⟨ns,rfl⟩:=items_int s
 have e:ns.length<=n:=by
  unfold OpenLaw.pre at i
  have c:(WTm.not (.lt (.lit (.int (n:Int))) (.len (.arg 0)))).holds [] { args:=[.list (ns.map .int)] }=true:=by
   have c:=(holds_andW i).1
   rw [U] at c
   exact c
  have b:=condW_of c (w_not (w_lt w_lit (w_len_list (w_arg rfl))))
  rw [ag] at b
  refine Nat.le_of_not_lt λq=>?_
  have o:(n:Int)<((ns.length:Nat):Int):=∅
  first
   | (rw [decide_eq_true o] at b;exact absurd b ⋯)
   | (simp at b;omega)
 cases G with
 | cons m k =>
  cases k
  cases m with
  | list p f=>exact ⟨_,_,ns,rfl,rfl,p,ke ns _ f,e⟩
theorem Va (l:OpenLaw) (args:List WData):l.row.toRowW.claim.post args (.bool true) args=true :=
 postW_of (r:=l.row.toRowW) (X:=(true == true))
  (show WShape.has [] (.bool true) .bool=true by first | rfl | decide | simp [WShape.has,WShape.arms,WShape.armsAll])
  (show (WTm.eq .res (.lit (.bool true))).value [] { args:=args,res:=some (.bool true),after:=args }=some (.bool (true == true)) from w_eq_bool (w_res rfl) w_lit) rfl
theorem attach_call {l:OpenLaw}{n:Nat}{q:Program}{loose:List Str}{XP:(Str->Option aj)->Heap->Prop}{YP:bD->Heap->Prop}{d:DefRec}
  (hn:l.most=some n) (ab:d.params.defaults=[])
  (call:∀(w:bD) (s₀ j:Shared) (mg mb:Str->Option aj) (z:Addr) (o:Obj) (pm U doc:aj) (a:Addr) (vs:List aj) (ns:List Int),
   Ground q loose [] XP w s₀ mg mb j.heap->YP w j.heap ->
   j.heap.get? z=some o->o.data = .func (docDef d.name d.params d.body d.scope pm U doc)->j.heap.CodeRec U d.name->mg d.name=some (.ref z) ->
   j.heap.get? a=some { cls:=.type "list",data:=.seq vs.toArray }->dC vs ns->ns.length<=n->j.gens = #[] ->
   cX (aF l.prog w) oo (.call (.ref z) ⟨[.ref a],[]⟩) (λr s'=>r = .ok (.ret (.bool true))/\OldK j.heap s'.heap/\s'.os=j.os/\iP s'.gens) j) :
  WalkO q loose XP YP l.row.toRowW d [] (λf vs=>PySem.call f vs):=by
 intro w s₀ j mg mb G Y z o pm U doc C kV t y k m i x D p I c v E h H
 obtain rfl:C = .none:=Dflts.none m ab
 obtain rfl:kV = .none:=Dflts.noKw m
 obtain ⟨a,vs,ns,rfl,rfl,e,b,g⟩:=YR hn c h
 refine enter_call (dB (call w s₀ j mg mb z o pm U doc a vs ns G Y t (fd_plain y) k i e b g x) λr s' s=>?_)
 obtain ⟨rfl,h2,B,A⟩:=s
 exact ⟨.inl ⟨.bool true,.bool true,[],rfl,λ_=>rfl,.bool true,Va l _,λ_=>⟨ir,λ_ u=>(nomatch u)⟩⟩,h2,B,A⟩
section
variable {prog:Program}{w:bD}{A:bF}{E:aj->Shared->Prop}{s:Shared}{K:Frag}
noncomputable def ledger (h:Heap) (L d:Addr):List (Addr×Obj):=(aM h.objs.size).filterMap λa=>if a=L\/a=d then none else (h.get? a).map λo=>(a,o)
end
end Att
namespace L2
theorem wv:∀{vs:List aj}{ns:List Int},dC vs ns->jI ↥129 vs
 | _,_,.nil=>.nil
 | _,_,.cons n t h=>.cons ⟨t,rfl⟩ (wv h)
end L2
namespace L2
end L2
namespace L2
noncomputable def xE (s:Stmt) (j:Nat):Stmt:=match s with
 | .ClassDef _ _ _ body _ _ _ _ _ _ _=>body.getD j (.Pass ⟨0,0,0,0⟩)
 | _=>.Pass ⟨0,0,0,0⟩
noncomputable def qg (s:Stmt):Arguments:=match s with
 | .FunctionDef _ a _ _ _ _ _ _ _ _=>a
 | _=>{ posonlyargs:=[],args:=[],vararg:=none,kwonlyargs:=[],kw_defaults:=[],kwarg:=none,defaults:=[] }
noncomputable def jS (s:Stmt):List Stmt:=match s with
 | .FunctionDef _ _ b _ _ _ _ _ _ _=>b
 | _=>[]
noncomputable def j7 (s:Stmt):Scope:=match s with
 | .FunctionDef _ _ _ _ _ _ a _ _ _=>a
 | _=>{ kind:=.function,names:=[],isGenerator:=false,isCoroutine:=false }
noncomputable abbrev CX0:CXT:=λ_ _ _ _ _ _=>False
noncomputable abbrev E0:XK:=λ_ _ _=>False
theorem VW :gS CX0 X E0:=λ_ _ _ _ _ _ _ h=>h.elim
structure Fun (K:ah) (x qual:Str) (st:Stmt) (f:Addr) (fd:FuncData):Prop where
 ex:∃(oc:aj) (od:Option Addr) (kV doc pm:aj) (an:Option Addr) (cdv ct:aj) (osl:Array (Option aj)),
  fd=bN x qual (qg st) (jS st) (j7 st) .none kV doc pm an cdv ct/\K.lookup f=some ⟨oc,od,.func fd,osl⟩/\cQ K cdv qual=true
 kp:c3 K (.ref f)=true
section
variable {P:Program}{w:bD}{K:ah}{mg:Str->Option aj}{base:Heap}
theorem Fun.ok {x:Str}{st:Stmt}{N:List Str}{k:Nat}{sp:Sp}(F:Fun K x z st f fd) (S:FnScope N ps (j7 st)) (len:∀vs H Q E,sp vs H Q E->vs.length=ps.length)
  (G:∀(j:aj) (A:bF) (outer:List Env) (s:Shared) (H:Hp) (vs:List V) (Q:VK) (E:XK),Room k (A.deeper (iY z (j7 st) s.heap.objs.size f j))->sp vs H Q E ->
   ∃t,PSs (ug CX0 P w K mg base N z (j7 st) f j A outer s H E).nox (jS st) t/\t { nx:=λ_ H'=>Q .non H',rt:=Q } (start N vs) H):FnOk P w K mg base CX0 (k+1) f fd ps sp:=by
 obtain ⟨i,g,kV,doc,pm,m,j,l,e,rfl,c,b⟩:=F.ex
 refine VY c b S len λA outer s H vs Q E d a=>?_
 obtain ⟨t,h,q⟩:=G j A outer s H vs Q E d a
 exact ⟨t,h.nox,q⟩
theorem Fun.binds {x:Str}{st:Stmt}{ps:List Str}(F:Fun K x z st f fd)
  (h:∀(kV doc pm:aj) (U:Option Addr) (j G:aj) (us:List aj),us.length=ps.length->cU (bN x z (qg st) (jS st) (j7 st) .none kV doc pm U j G) ⟨us,[]⟩=pure (ps.zip us)):y8 K fd ps []:=by
 obtain ⟨d,c,kV,doc,pm,U,j,G,a,rfl,e,b⟩:=F.ex
 exact .all (h kV doc pm U j G)
theorem vp {st:Stmt}{U:aj}{od:Option Addr}{G:Array (Option aj)}{kV pm:aj}(l:K.lookup f=some ⟨U,od,.func (bN x j (qg st) (jS st) (j7 st) .none kV doc pm an z Y),G⟩)
  (c:cQ K z j=true) (k:c3 K (.ref f)=true):Fun K x j st f (bN x j (qg st) (jS st) (j7 st) .none kV doc pm an z Y):=⟨⟨U,od,kV,doc,pm,an,z,Y,G,rfl,l,c⟩,k⟩
end
theorem jM {k:Nat}(j:Room k A):A.units+1<cLine:=bM (Nat.add_le_add_left (by decide:1<=64) _) j.units
theorem jf {n:Nat}(h:n<=1000):n<sizeLine:=bM h ⋯
section
variable {X:Cx}
theorem pv (i:Nat) {pos:Pos}(U:X.N[i]? = some x:=by rfl) (z:Vis X.env.scope x:=by first | exact aP rfl | exact df (aP rfl) | exact df (df rfl)) (G: ↥24=false:=by decide)
  (j:(x == ("__classdict__" : Str))=false:=by decide):PE X (.Name x pos) (tVar i):=Gz U z G j
end
theorem hW {A B:Prop}(h:B):if false=true then A else B:=by
 rw [if_neg ar]
 exact h
theorem ue {A B:Prop}(h:A):if true=true then A else B:=by
 rw [if_pos rfl]
 exact h
noncomputable def jk (H H':Hp):Prop:=∀b o,H b=some o->H' b=some o
theorem jk.refl (H:Hp):jk H H:=λ_ _ h=>h
theorem jk.trans (a:jk H H1) (b:jk H1 H2):jk H H2:=λc o h=>b c o (a c o h)
theorem jk.free (e:jk H H') (h:H' l=Option.none):H l=Option.none:=by
 cases q:H l with
 | none=>rfl
 | some o =>
  rw [e l o q] at h
  cases h
end L2
section
namespace L2
theorem XX (env:Env) (f:Str×ip->List (Str×Addr)->Sem (ForInStep (List (Str×Addr))))
  (U:∀n k r,f (n,k) r=if (k == bj)=true then (tW env n >>= λa=>pure (cj ((n,a)::r))) else pure (cj r)) :
  ∀(j:List (Str×ip)) (acc:List (Str×Addr)),(∀x∈j,x.2 = .free->∃c,env.cells.lookup x.1=some c) ->
  ∃G,A3 j acc f=pure G/\∀x,G.lookup x=if (x,bj)∈j then env.cells.lookup x else acc.lookup x:=by
 intro j
 induction j with
 | nil=>intro acc _;exact ⟨acc,rfl,λx=>by rw [if_neg (by simp)]⟩
 | cons y r l =>
  intro acc h
  obtain ⟨n,k⟩:=y
  have m:∀x∈r,x.2 = .free->∃c,env.cells.lookup x.1=some c:=λx d=>h x (aC _ d)
  by_cases g:k = .free
  ·subst g
   obtain ⟨c,o⟩:=h (n,.free) aE rfl
   obtain ⟨G,e,p⟩:=l ((n,c)::acc) m
   refine ⟨G,?_,λx=>?_⟩
   ·rw [l9,U,if_pos (by rfl)]
    have q:tW env n=pure c:=by unfold tW;rw [o]
    rw [q]
    exact e
   ·rw [p x]
    by_cases d:x=n
    ·subst d
     rw [if_pos (aE),cV,beq_self_eq_true]
     by_cases b:(x,bj)∈r
     ·rw [if_pos b]
     ·rw [if_neg b];exact o.symm
    ·have i:(x == n)=false:=beq_eq_false_iff_ne.mpr d
     rw [cV,i]
     by_cases b:(x,bj)∈r
     ·rw [if_pos b,if_pos (aC _ b)]
     ·rw [if_neg b,if_neg (by
       intro z
       rcases List.mem_cons.mp z with z | z
       ·exact d (congrArg Prod.fst z)
       ·exact b z)]
  ·obtain ⟨G,e,p⟩:=l acc m
   have i:(k == bj)=false:=by simpa using g
   refine ⟨G,?_,λx=>?_⟩
   ·rw [l9,U,i,if_neg ar]
    exact e
   ·rw [p x]
    by_cases b:(x,bj)∈r
    ·rw [if_pos b,if_pos (aC _ b)]
    ·rw [if_neg b,if_neg (by
      intro z
      rcases List.mem_cons.mp z with z | z
      ·exact g (congrArg A4 z).symm
      ·exact b z)]
theorem yQ {scope:Scope}{env:Env}(h:∀x∈scope.names,x.2 = .free->∃c,env.cells.lookup x.1=some c) :
  ∃j,oS scope env=pure j/\∀x,j.lookup x=if (x,bj)∈scope.names then env.cells.lookup x else none:=by
 have d:=XX env (λ(x:Str×ip) r=>match x with | (n,k)=>if (k == bj)=true then (tW env n >>= λa=>pure (cj ((n,a)::r))) else pure (cj r)) (λ_ _ _=>rfl) scope.names [] h
 obtain ⟨j,e,p⟩:=d
 refine ⟨j,?_,λx=>by rw [p x];rfl⟩
 unfold oS
 have b:A3 scope.names ([]:List (Str×Addr)) (λ(x:Str×ip) r=>match x with | (n,k)=>if (k == bj)=true then (tW env n >>= λa=>pure (cj ((n,a)::r))) else pure (cj r))=(pure j:Sem _):=e
 show (A3 scope.names ([]:List (Str×Addr)) _ >>= λf=>pure f)=_
 first
  | (rw [b];rfl)
  | (simp only [bind_pure];exact b)
structure CompSc (osc:Scope) (ON:List Str) (scope:Scope) (own:Nat) (N:List Str) (caps:List Nat):Prop where
 kind:scope.kind = .function
 nocell:∀y∈scope.names,y.2≠.cell
 loc:∀y∈scope.names,y.2 = .local->scope.names.lookup y.1=some .local
 fre:∀y∈scope.names,y.2 = .free->scope.names.lookup y.1=some .free/\(osc.names.lookup y.1=some .cell\/osc.names.lookup y.1=some .free)
 len:N.length=own+caps.length
 cap:∀p∈(N.drop own).zip caps,ON[p.2]? = some p.1/\(p.1,bj)∈scope.names
noncomputable def vj (own:Nat) (caps:List Nat) (σ:St):St:=cD own none++caps.map λj=>(σ[j]?).getD none
noncomputable def Cx.block (X:Cx) (scope:Scope) (j:List (Str×Addr)) (C:Addr) (N:List Str) (s:Shared) (H:Hp) (ex:List Addr):Cx :=
 { X with N:=N,s₀:=s,H₀:=H,env:=pK scope j C X.env,outer:=X.stack,ex:=ex,fn:=λx=>decide (scope.names.lookup x=some .local),pn:=[],xe:=λ_ _=>False }
theorem yU {env:Env}:∀{j:List (Str×ip)}{x:Str}{k:ip},
  (j.map λ(n,k)=>if ↥94 then (n,iR) else (n,k)).lookup x=some k ->
  ∃z,j.lookup x=some z/\(z=k\/(z = .free/\k = .cell))
 | [],_,_,h=>by simp at h
 | (n,c)::r,x,k,h=>by
  have f:=@yU env r x k
  have h':eQ x ((if ↥95=true then (n,iR) else (n,c))::r.map λ(n,k)=>if ↥94 then (n,iR) else (n,k))=some k:=h
  cases a:x == n with
  | true =>
   by_cases b: ↥95=true
   ·rw [if_pos b,cV,a] at h'
    cases h'
    refine ⟨c,by rw [cV,a],.inr ⟨?_,rfl⟩⟩
    rw [bw,bw] at b
    exact eq_of_beq b.1.1
   ·rw [if_neg b,cV,a] at h'
    cases h'
    exact ⟨c,by rw [cV,a],.inl rfl⟩
  | false =>
   have h2:eQ x (r.map λ(n,k)=>if ↥94 then (n,iR) else (n,k))=some k:=by
    by_cases b: ↥95=true
    ·rw [if_pos b,cV,a] at h';exact h'
    ·rw [if_neg b,cV,a] at h';exact h'
   obtain ⟨z,e,d⟩:=f h2
   exact ⟨z,by rw [cV,a];exact e,d⟩
noncomputable def gC (X:Cx) (ifs:List Expr) (t:TT):Prop :=
 ∀(pins:List (Addr×Obj)) (s:Shared) (σ:St) (H:Hp) (Q:Bool->Hp->Prop),Inv X pins σ H s->t σ H Q ->
  ay ↥2 X.A (A3 ifs true λc r=>if r=true then do let ok <- isTrue c X.env (eval c X.env);pure (cj ok) else pure (cj r)) (TP X pins σ Q) X.xe s
noncomputable def WD:TT:=λ_ H Q=>Q true H
theorem jv :gC X [] WD:=λ_ _ _ H _ I h=>wpAny_tests_nil ⟨H,I,h⟩
theorem zw (h:PT X c t):gC X [c] t:=λpins s σ H Q I a=>wpAny_tests_one (h pins s σ H Q I a)
section
variable {prog:Program}{w:bD}{A:bF}{R:nI->Shared->Prop}{s:Shared}
theorem wW {elt j iter:Expr}{ifs:List Expr}{pos:Pos}{it acc:aj}{env:Env}(I:Nat->Shared->Prop)
  (z:∀n s,I n s->ay (aF prog w) A (eC it) (λr U=>match r with
   | none=>R (.ok .next) U
   | some v=>ay (aF prog w) A (d8 j it v) (λ_ s₂=>ay (aF prog w) A (iM j env v) (λ_ s₃ =>
     ay (aF prog w) A (A3 ifs true λc r=>if r=true then do let ok <- isTrue c env (eval c env);pure (cj ok) else pure (cj r)) (λok G =>
      if ok=true then ay (aF prog w) A (eval elt env) (λx s₅ =>
       ay (aF prog w) A (call (.builtin "list.append") [acc,x]) (λ_ Y=>∃m,m<n/\I m Y) (λ_ _=>False) s₅) (λ_ _=>False) G
      else ∃m,m<n/\I m G) (λ_ _=>False) s₃) (λ_ _=>False) s₂) (λ_ _=>False) U) (λ_ _=>False) s)
  (n:Nat) (h:I n s) :
  cX (aF prog w) A (.compLoop (.ListComp elt [⟨j,iter,ifs,0⟩] scope pos) 0 it acc env) R s:=by
 refine pL rfl I (λn s i=>?_) n h
 show ay _ A ((pM (.ListComp elt [⟨j,iter,ifs,0⟩] scope pos) 0 it acc env).onRaise (λx=>do lE x env;mV x)) _ _ s
 refine sf ?_
 rw [compTurn_list]
 refine af (cP (af (ba (z n s i) (λr U b=>?_) λ_ _ h'=>h'.elim)))
 cases r with
 | none=>exact wpAny_pure b
 | some v =>
  refine af (ba b (λ_ s₂ g=>?_) λ_ _ h'=>h'.elim)
  refine af (ba g (λ_ s₃ f=>af (ba f (λok G a=>?_) λ_ _ h'=>h'.elim)) λ_ _ h'=>h'.elim)
  cases ok with
  | false=>exact wpAny_pure ⟨rfl,a⟩
  | true =>
   exact af (af (ba a (λx s₅ e=>af (ba e (λ_ Y d=>wpAny_pure (wpAny_pure ⟨rfl,d⟩)) λ_ _ h'=>h'.elim)) λ_ _ h'=>h'.elim))
end
section
variable {X:Cx}{pos:Pos}
noncomputable def VH (own:Nat) (caps:List Nat) (j:TI) (g:TG) (z:TT) (te:TE):TE:=λσ H Q=>j σ H λJ H1=>∀acc,H1 acc=none ->
 ∃W:Nat->Nat->St->Hp->Prop,(∃m,W 0 m (vj own caps σ) (upd H1 acc (.lst [])))/\∀i m d H',W i m d H' ->
  (J.stop i H'/\Q (.ref acc) H') \/
  (J.go i H'/\∃b:St->Hp->Prop,(∀c H2,b c H2->∃e,e<m/\W (i+1) e c H2) /\
   ∀x H2,J.yld i H' x H2->g x d H2 λa k=>z a k λok h=>if ok=true then te a h λv f=>∃ys,f acc=some (.lst ys)/\ys.length<sizeLine/\b a (upd f acc ↥64) else b a h)
theorem Ud {own:Nat}{G:List (Str×Addr)}{C:Addr}{fp:List Addr}
  (S:CompSc osc ON scope own N caps) (Y:X.env.scope=osc) (U:∀x,G.lookup x=if (x,bj)∈scope.names then X.env.cells.lookup x else none)
  (I:Inv X pins σ H s) (hC:s.heap.objs.size<=C) (j:∀b∈fp,yN X pins H b) (ab:∀b∈fp,b<s.heap.objs.size):(X.block scope G C N s H fp).Ok:=by
 have a:∀x c,G.lookup x=some c->X.env.cells.lookup x=some c/\(x,bj)∈scope.names:=λx c e=>by
  rw [U x] at e
  by_cases h:(x,bj)∈scope.names
  ·rw [if_pos h] at e;exact ⟨e,h⟩
  ·rw [if_neg h] at e;cases e
 refine ⟨I.ok.mod,S.kind,I.ok.glob,I.ok.blt,hC,λx y c h1 h2=>I.ok.inj x y c (a x c h1).1 (a y c h2).1,λx q=>?_,λx c h1 h2=>?_,I.ok.hd,I.ok.frames,.inl rfl,λb g=>?_,I.bs,aK I.ok.bsz I.sz,λb o e g=>?_,λb g m=>?_,I.stack,I.stkFree⟩
 ·-- v
  have key:∀k,(k=iR\/k=bj)->(tX scope X.env).names.lookup x=some k->∃c,G.lookup x=some c:=λk r e=>by
   obtain ⟨p,u,d⟩:=yU (env:=X.env) e
   have f:=dz u
   have i:p = .free:=by
    rcases d with d | d
    ·subst d
     rcases r with z | z
     ·exact absurd z (S.nocell _ f)
     ·exact z
    ·exact d.1
   subst i
   obtain ⟨_,l⟩:=S.fre _ f rfl
   obtain ⟨c,t⟩:=I.ok.has x (by unfold sV;rw [Y];exact l)
   exact ⟨c,by rw [U x,if_pos f];exact t⟩
  rcases q with z | z
  ·exact key _ (.inl rfl) z
  ·exact key _ (.inr rfl) z
 ·-- w
  have n:scope.names.lookup x=some .local:=of_decide_eq_true h1
  have h:=(a x c h2).2
  have:=(S.fre _ h rfl).1
  rw [n] at this
  cases this
 ·refine ⟨aD (aT (ab b g) hC),λx c e=>(j b g).2.2.2.2.1 x c (a x c e).1⟩
 ·rcases (j b g).2.2.2.1 with z | z
  ·exact I.ok.noex b o e z
  ·exact absurd (aT (av e) (aK I.ok.bsz z)) (cp _)
 ·rcases List.mem_cons.mp (I.stkSub b m) with z | z
  ·exact (j b g).2.1 z
  ·exact (j b g).2.2.1 z
theorem vN {N:List Str}{scope:Scope}{own:Nat}{caps:List Nat}{U:List (Str×Addr)}{C D:Addr}{σ:St}{H:Hp}{s:Shared}{h1:Heap}{fp:List Addr}
  (S:CompSc osc ON scope own N caps) (Y:X.env.scope=osc) (hN:X.N=ON) (G:∀x,U.lookup x=if (x,bj)∈scope.names then X.env.cells.lookup x else none)
  (I:Inv X pins σ H s) (hf:∀b∈fp,yN X pins H b) (ab:∀b∈fp,b<s.heap.objs.size) (hD:D=s.heap.objs.size) (hC:C=s.heap.objs.size+1)
  (k:∀b o,s.heap.get? b=some o->h1.get? b=some o) (eD:h1.get? D=some { cls:=.type "list",data:=.seq #[] }) (hn:h1.Ns C λ_=>none) (t':Nat) :
  Inv (X.block scope U C N s H fp) [] (vj own caps σ) (upd H D (.lst [])) { s with heap:=h1,toks:=t' }:=by
 subst hD
 subst hC
 have E:s.heap.objs.size<=s.heap.objs.size+1:=ib _
 have ok:=Ud (C:=s.heap.objs.size+1) S Y G I E hf ab
 have f:∀x c,U.lookup x=some c->X.env.cells.lookup x=some c/\(x,bj)∈scope.names:=λx c e=>by
  rw [G x] at e
  by_cases y:(x,bj)∈scope.names
  ·rw [if_pos y] at e;exact ⟨e,y⟩
  ·rw [if_neg y] at e;cases e
 have fr:∀a,s.heap.objs.size<=a->H a=none:=λa ha=>I.hok.fresh ha
 have J:qB X.prog X.w ↥152 h1 s.heap.objs.size (.lst []):=⟨aN _,[],0,.nil,eD⟩
 have r:∀x c,X.env.cells.lookup x=some c->∀v,s.heap.IsCell c v->h1.IsCell c v:=λx c _ v ⟨o,Z,hd⟩=>⟨o,k c o Z,hd⟩
 refine ⟨ok,rfl,I.bare,Un.laid k (au _) (fr _ (au _)),⟨_,hn,λi x v e1 h e3=>?_⟩,λx c e=>?_,?_,λx c e=>?_,λp V=>absurd (show p∈([]:List (Addr×Obj)) from V) (by simp),I.hok.laid k (au _) J,?_⟩
 ·-- ae L ac
  have P:N[i]? = some x:=e1
  have hi:own<=i:=by
   by_cases hi:own<=i
   ·exact hi
   ·unfold vj at h
    rw [cJ ↥81,eE] at h
    split at h <;> cases h
  obtain ⟨j',rfl⟩:∃j',i=own+j':=⟨i-own,∅⟩
  have g:(caps.map λj=>(σ[j]?).getD none)[j']? = some (some v):=by
   unfold vj at h
   rw [cE (by simp)] at h
   simpa using h
  rw [ax] at g
  cases K:caps[j']? with
  | none=>rw [K] at g;cases g
  | some j =>
   rw [K] at g
   have n:(σ[j]?).getD none=some v:=aI g
   have e4:σ[j]? = some (some v):=by
    cases q:σ[j]? with
    | none=>rw [q] at n;cases n
    | some z=>rw [q] at n;exact congrArg some n
   have T:(x,j)∈(N.drop own).zip caps:=by
    refine aA (i:=j') ?_
    rw [List.getElem?_zip_eq_some]
    exact ⟨by rw [List.getElem?_drop];exact P,K⟩
   obtain ⟨c1,M⟩:=S.cap _ T
   obtain ⟨_,hk⟩:=S.fre _ M rfl
   have B:X.env.kindOf x=some .cell\/X.env.kindOf x=some .free:=by unfold sV;rw [Y];exact hk
   obtain ⟨m,y,hl⟩:=I.loc
   obtain ⟨u,Q,l⟩:=hl j x v (by rw [hN];exact c1) e4 (by
    rcases B with z | z
    ·exact .inr (.inl z)
    ·exact .inr (.inr z))
   refine ⟨u,Q,?_⟩
   rcases l with ⟨t,_⟩ | ⟨_,c,O,R⟩
   ·rcases B with z | z
    ·rw [z] at t;cases t
    ·rw [z] at t;cases t
   ·refine .inr ⟨?_,c,by show U.lookup x=some c;rw [G x,if_pos M];exact O,r x c O _ R⟩
    rcases e3 with z | z
    ·obtain ⟨k',A,d⟩:=yU (env:=X.env) z
     have:=(S.fre _ M rfl).1
     rw [A] at this
     cases this
     rcases d with d | d
     ·cases d
     ·cases d.2
    ·exact z
 ·obtain ⟨v,z⟩:=I.cell x c (f x c e).1
  exact ⟨v,r x c (f x c e).1 v z⟩
 ·show upd H s.heap.objs.size (.lst []) ↥16=none
  rw [j8 (cH (dG _))]
  exact fr _ E
 ·have A:=(f x c e).1
  obtain ⟨v,z⟩:=I.cell x c A
  rw [j8 (aD z.lt)]
  exact I.freeC x c A
 ·unfold vj
  show _=N.length
  rw [aw,bc,ag,S.len]
structure BlockAt (X:Cx) (pins:List (Addr×Obj)) (H:Hp) (C:Addr):Prop where
 free:H C=none
 loc:C≠X.env.locals
 new:X.s₀.heap.objs.size<=C
 cell:∀x c,X.env.cells.lookup x=some c->c≠C
 pin:∀p∈X.pn++pins,p.1≠C
theorem BlockAt.gone (B:BlockAt X pins H C) (I:Inv X pins σ H s) (j:eW C s.heap h'):Inv X pins σ H { s with heap:=h' } :=
 I.turned (t':=s.toks) (λb o a e=>(j.2 b a).trans e) B.free B.loc (.inr B.new) B.cell B.pin
theorem QZ {scope:Scope}{own:Nat}{j:List (Str×Addr)}{tg elt iter:Expr}{ti:TT}{te:TE}{H:Hp}{s:Shared}{fp:List Addr}
    {Q:VK} {RR:aj->Addr->nI->Shared->Prop} 
  (hc:X.calm=true) (S:CompSc osc ON scope own N caps) (a1:X.env.scope=osc) (hN:X.N=ON) (a3:∀x,j.lookup x=if (x,bj)∈scope.names then X.env.cells.lookup x else none)
  (hg:∀j C s H ex,PG ↥10 tg g) (a2:∀j C s H ex,gC ↥10 ifs ti) (he:∀j C s H ex,PE ↥10 elt te)
  (I:Inv X pins σ H s) (T:Turn X.prog X.w X.K tg J fp it tn) (st:tn 0 s.heap) (Y:∀b∈fp,yN X pins H b)
  (hw:∀acc,H acc=none->∃W:Nat->Nat->St->Hp->Prop,↥142/\∀i m G H',W i m G H' ->
   (J.stop i H'/\Q (.ref acc) H')\/(J.go i H'/\∃NX:St->Hp->Prop,↥39 /\
    ∀x H2,J.yld i H' x H2->g x G H2 λU H3=>ti U H3 λok H4=>if ok=true then te U H4 λv H5=>∃ys,H5 acc=some (.lst ys)/\ys.length<sizeLine/\NX U (upd H5 acc ↥64) else NX U H4))
  (a7:∀(D C:Addr) (H':Hp) (s':Shared),Inv X pins σ H' s'->BlockAt X pins H' C->(∃m,s'.heap.Ns C m)->Q (.ref D) H'->RR (.ref D) C (.ok .next) s') :
  ay ↥2 X.A (pN []) (λacc s₃=>ay ↥2 X.A (nO scope X.env.globals j [] X.env.qual none .none (some X.env)) (λab s₄ =>
   cX ↥2 X.A (.compStart ↥22 0 (.ref it) acc { ab with scope:=tX scope X.env }) (RR acc ab.locals) s₄) E s₃) E s:=by
 have am:∀b∈fp,b<s.heap.objs.size:=λb a=>by
  obtain ⟨o,e,_⟩:=T.obj _ _ st b a
  exact av e
 refine bT (iV S.nocell (by intro y hy;simp at hy) (λh₁ h f=>?_) S.kind)
 dsimp only at h f ⊢
 generalize O:s.heap.push { cls:=.type "list",dict:=none,data:=.seq ([]:List aj).toArray }=H2 at h f ⊢
 have P:H2.objs.size=s.heap.objs.size+1:=by rw [<- O,c7]
 have al:∀b o,s.heap.get? b=some o->h₁.get? b=some o:=λb o e=>f.extBut b o (aD (by rw [P];exact bU (av e))) (ai _ (O ▸ ai _ e))
 have eD:h₁.get? s.heap.objs.size=some { cls:=.type "list",data:=.seq #[] }:=f.extBut _ _ (aD ∅) (ai _ (O ▸ aB _ rfl))
 have a5:H s.heap.objs.size=none:=I.hok.fresh (au _)
 obtain ⟨W,⟨m0,w0⟩,ap⟩:=hw s.heap.objs.size a5
 have a0:h₁.Ns H2.objs.size λ_=>none:=h
 have I1:Inv ↥9 [] (vj own caps σ) ↥152 { s with heap:=h₁,toks:=s.toks+([]:List (Str×aj)).length } :=
  vN S a1 hN a3 I Y am rfl P al eD a0 _
 have ae:tn 0 h₁:=T.keep 0 _ _ st λb _ o e=>al b o e
 have R:∀{H':Hp},↥55->∀b∈fp,yN ↥9 [] H' b:=λ{H'} hn b a=>by
  have ok:=I1.ok
  exact ⟨hn b a,(ok.exf b a).1,ok.exfs b a,.inl a,(ok.exf b a).2,λp hp=>absurd (show p∈([]:List (Addr×Obj)) from hp) (by simp)⟩
 have aL:∀{G:St} {H':Hp} {s':Shared},Inv ↥9 [] G H' s'->Q ↥13 H'->RR ↥13 H2.objs.size (.ok .next) s':=λ{G H' s'} t q=>by
  have J2:Inv X pins σ H' s':=I.call' (ch:=fp) t.os t.base t.hok t.bare λb a=>⟨(Y b a).2.2.2.1,(Y b a).2.1,(Y b a).2.2.2.2.1,(Y b a).2.2.2.2.2⟩
  obtain ⟨m,hm,_⟩:=t.loc
  refine a7 _ _ H' s' J2 ⟨t.free,cH (aT I.lt ∅),aK I.sz ∅,λx c e z=>?_,λp hp z=>?_⟩ ⟨m,hm⟩ q
  ·obtain ⟨v,y⟩:=I.cell x c e
   have h1:H2.objs.size<s.heap.objs.size:=z ▸ y.lt
   exact absurd h1 ∅
  ·have h1:H2.objs.size<s.heap.objs.size:=z ▸ av (I.pin p hp).1
   exact absurd h1 ∅
 have M:∀s₃:Shared,s₃={ s with heap:=h₁,toks:=s.toks+([]:List (Str×aj)).length } ->
   cX ↥2 X.A (.compLoop ↥22 0 (.ref it) ↥13 (pK scope j H2.objs.size X.env)) (RR ↥13 H2.objs.size) s₃:=by
  rintro s₃ rfl
  refine wW (λn s'=>∃i G H',Inv ↥9 [] G H' s'/\tn i s'.heap/\ ↥55/\W i n G H') ?_ m0
   ⟨0,_,_,I1,ae,λb a=>by rw [j8 (aD (am b a))];exact (Y b a).1,w0⟩
  rintro n s3 ⟨i,U,H3,I3,ac,an,w3⟩
  rcases ap i n U H3 w3 with ⟨as,qn⟩ | ⟨go,NX,a4,step⟩
  ·refine thn (T.done ↥9 rfl rfl rfl hc i [] s3 U H3 _ I3 (R an) ac as) λr s4 ⟨hr,I4⟩=>?_
   subst hr
   exact aL I4 qn
  ·refine thn (T.item ↥9 rfl rfl rfl hc i [] s3 U H3 _ I3 (R an) ac go) λr s4 ⟨u,hr,h4⟩=>?_
   subst hr
   refine thn h4 λ_ s5 ⟨x,H5,I5,r5,y5,L,a6⟩=>?_
   have a8:=I5.pinned (R a6) (T.obj _ _ L)
   refine thn (hg j H2.objs.size s H fp _ s5 U H5 x u _ a8 r5 (step x H5 y5)) λ_ s6 ⟨Z,H6,I6,q6⟩=>?_
   refine thn (a2 j H2.objs.size s H fp _ s6 Z H6 _ I6 q6) λok s7 ⟨H7,I7,q7⟩=>?_
   have again:∀{l:Shared} {B:St} {k:Hp},Inv ↥9 ([]++zC fp s5.heap) B k l->NX B k->∃m,m<n/\∃i G H',Inv ↥9 [] G H' l/\tn i l.heap/\ ↥55/\W i m G H':=λ{l B k} V n8=>by
    obtain ⟨m',hm,w8⟩:=a4 B k n8
    refine ⟨m',hm,i+1,B,k,V.unpinned,T.keep _ _ _ L λb a o e=>(V.pin (b,o) ↥102).1,λb a=>?_,w8⟩
    obtain ⟨o,e,d⟩:=T.obj _ _ L b a
    exact (V.pin (b,o) ↥102).2.1
   cases ok with
   | false =>
    rw [if_neg ar] at q7 ⊢
    exact again I7 q7
   | true =>
    rw [if_pos rfl] at q7 ⊢
    refine thn (he j H2.objs.size s H fp _ s7 Z H7 _ I7 q7) λv l ⟨y,k,V,r8,ys,e8,z8,q8⟩=>?_
    refine thn (qq _ l Z k ↥13 [y] _ [v] (λ_ H9=>NX Z H9) V rfl (.cons r8 .nil) ⟨_,ys,y,rfl,rfl,e8,z8,q8⟩) λ_ s9 ⟨_,H9,I9,_,q9⟩=>?_
    exact again I9 q9
 exact iu (M _ rfl) (T.self _ 0 _ _ _ ae (M _ rfl))
theorem JZ {scope:Scope}{own:Nat}(S:CompSc osc ON scope own N caps) (j:X.env.scope=osc) (I:Inv X pins σ H s) :
  ∀x∈scope.names,x.2 = .free->∃c,X.env.cells.lookup x.1=some c:=λx a b=>I.ok.has x.1 (by unfold sV;rw [j];exact (S.fre x a b).2)
theorem jG {own:Nat}(S:CompSc osc ON scope own N caps)
  (hc:X.calm=true) (z:X.env.scope=osc) (hN:X.N=ON) (hi:PI X tg iter U)
  (hg:∀j C s H ex,PG ↥10 tg g) (G:∀j C s H ex,gC ↥10 ifs Y) (he:∀j C s H ex,PE ↥10 elt te)
  (hs:∀x,cK iter X.env x=pure x:=by intro _;rfl):PE X ↥22 (VH own caps U g Y te):=by
 intro pins s σ H Q I h
 obtain ⟨j,a,d⟩:=yQ (JZ S z I)
 rw [oG]
 refine dX (use:=none) rfl hs a S.kind S.loc ↥114
 obtain ⟨it,fp,p,J,H2,e,n,T,b,k,f⟩:=h2
 subst e
 refine QZ (RR:=λacc C=>sW ↥2 X.A X.xe none ↥51 acc C) hc S z hN d hg G he n T b k f λD C H' s' l B ⟨m,i⟩ q=>?_
 exact ⟨m,i,λh' c=>⟨.ref D,H',B.gone l c,rfl,q⟩⟩
theorem yR {own:Nat}{j:Nat}{U:Pos}(S:CompSc osc ON scope own N caps)
  (ae:X.N.Nodup) (hj:X.N[j]? = some y) (hy:Loc X.env.scope y)
  (hc:X.calm=true) (ab:X.env.scope=osc) (hN:X.N=ON) (hi:PI X tg iter wi)
  (hg:∀G C s H ex,PG ↥61 tg g) (al:∀G C s H ex,gC ↥61 ifs ti) (he:∀G C s H ex,PE ↥61 elt te)
  (ac:lC ↥22 (some (.Name y Y)) U.line X.env=pure true:=by rfl)
  (hf:X.fn y=true\/X.env.scope.names.lookup y=some .local:=by first | exact .inl rfl | exact .inr rfl | assumption)
  (hs:∀x,cK iter X.env x=pure x:=by intro _;rfl):PS X (.Assign [.Name y Y] ↥22 U) (UR (VH own caps wi g ti te) (vJ j)):=by
 intro pins s σ H d I h
 obtain ⟨G,c,k⟩:=yQ (JZ S ab I)
 rw [exec_Assign_Name_used _ _ _ _ ac]
 refine af (cP (af ?_))
 show ay _ X.A (do let _ <- comprehension ↥22 scope X.env _ (pN []) false (eval iter X.env) (some (iM (.Name y Y) X.env))) _ _ s
 refine af (ba (dX (use:=some (iM (.Name y Y) X.env)) (Q:=λ_ s'=>SP X pins d .next s') rfl hs c S.kind S.loc
  (thn (hi pins s σ H _ I h) λv s1 h1=>thn h1 λO o h2=>?_)) (λ_ s' r=>wpAny_pure (wpAny_pure r)) λ_ _ e=>e)
 obtain ⟨it,fp,P,J,H2,e,M,T,f,E,p⟩:=h2
 subst e
 refine QZ (Q:=λv H'=>d.nx (σ.set j (some v)) H') (RR:=λacc C=>sW ↥2 X.A X.xe (some (iM (.Name y Y) X.env)) (λ_ s'=>SP X pins d .next s') acc C) hc S ab hN k hg al he M T f E p λD C H' s' L B ⟨m,t⟩ q=>?_
 show ay _ X.A (iM (.Name y Y) X.env (.ref D)) _ _ s'
 refine px (JA (v:=V.ref D) L ae hj hy rfl (λo K ⟨a,b,u⟩=>?_) hf)
 have l:C≠a:=by
  rcases u with z | z
  ·rw [z];exact B.loc
  ·exact λn=>B.cell y a z n.symm
 exact ⟨m,t.sameBut b l,λh' i=>⟨_,H',B.gone K i,q⟩⟩
end
theorem jO {K:ah}{xs:List V}{g:TG}{ti:TT}{te:TE}{R:Hp->Prop}{σ:St}{H:Hp}(Pv:Nat->St->Hp->Prop) (h0:Pv 0 σ H) (hl:∀i σ H,i<=xs.length->Pv i σ H->SqL K H a xs)
  (hs:∀i x σ H,xs[i]? = some x->Pv i σ H->g x σ H λj H3=>ti j H3 λok G=>if ok=true then te j G λv z=>∃ys,z acc=some (.lst ys)/\ys.length<sizeLine/\Pv (i+1) j (upd z acc ↥64) else Pv (i+1) j G)
  (hd:∀σ H,Pv xs.length σ H->R H) :
  ∃W:Nat->Nat->St->Hp->Prop,↥76/\∀i m U H',W i m U H' ->
   ((Itl K a).stop i H'/\R H')\/((Itl K a).go i H'/\∃Y:St->Hp->Prop,↥40 /\
    ∀x H2,(Itl K a).yld i H' x H2->g x U H2 λj H3=>ti j H3 λok G=>if ok=true then te j G λv z=>∃ys,z acc=some (.lst ys)/\ys.length<sizeLine/\Y j (upd z acc ↥64) else Y j G):=by
 refine ⟨λi m σ H=>m=xs.length-i/\i<=xs.length/\Pv i σ H,⟨xs.length,by simp,aN _,h0⟩,?_⟩
 rintro i m σ H ⟨rfl,hi,p⟩
 have q:=hl i σ H hi p
 by_cases b:i<xs.length
 ·refine .inr ⟨⟨xs,xs[i],q,by simp [b]⟩,Pv (i+1),λU H' c=>⟨xs.length-(i+1),∅,rfl,b,c⟩,λx H' y=>?_⟩
  obtain ⟨e,y⟩:=y
  subst e
  exact hs i x σ _ (y xs q) p
 ·have e:i=xs.length:=∅
  subst e
  exact .inl ⟨⟨xs,q,au _⟩,hd σ H p⟩
theorem Xs {K:ah}{xs:List V}{g:TG}{ti:TT}{te:TE}{R:Hp->Prop}{σ:St}{H:Hp}(Pv:Nat->St->Hp->Prop) (h0:Pv 0 σ H) (hl:∀i σ H,i<=xs.length->Pv i σ H->SqT K H a xs)
  (hs:∀i x σ H,xs[i]? = some x->Pv i σ H->g x σ H λj H3=>ti j H3 λok G=>if ok=true then te j G λv z=>∃ys,z acc=some (.lst ys)/\ys.length<sizeLine/\Pv (i+1) j (upd z acc ↥64) else Pv (i+1) j G)
  (hd:∀σ H,Pv xs.length σ H->R H) :
  ∃W:Nat->Nat->St->Hp->Prop,↥76/\∀i m U H',W i m U H' ->
   ((Itt K a).stop i H'/\R H')\/((Itt K a).go i H'/\∃Y:St->Hp->Prop,↥40 /\
    ∀x H2,(Itt K a).yld i H' x H2->g x U H2 λj H3=>ti j H3 λok G=>if ok=true then te j G λv z=>∃ys,z acc=some (.lst ys)/\ys.length<sizeLine/\Y j (upd z acc ↥64) else Y j G):=by
 refine ⟨λi m σ H=>m=xs.length-i/\i<=xs.length/\Pv i σ H,⟨xs.length,by simp,aN _,h0⟩,?_⟩
 rintro i m σ H ⟨rfl,hi,p⟩
 have q:=hl i σ H hi p
 by_cases b:i<xs.length
 ·refine .inr ⟨⟨xs,xs[i],q,by simp [b]⟩,Pv (i+1),λU H' c=>⟨xs.length-(i+1),∅,rfl,b,c⟩,λx H' y=>?_⟩
  obtain ⟨e,y⟩:=y
  subst e
  exact hs i x σ _ (y xs q) p
 ·have e:i=xs.length:=∅
  subst e
  exact .inl ⟨⟨xs,q,au _⟩,hd σ H p⟩
theorem qr {lo:Int}{n:Nat}{g:TG}{ti:TT}{te:TE}{R:Hp->Prop}{σ:St}{H:Hp}(Pv:Nat->St->Hp->Prop) (h0:Pv 0 σ H)
  (hs:∀i σ H,i<n->Pv i σ H->g (.int (lo+i)) σ H λj H3=>ti j H3 λok G=>if ok=true then te j G λv z=>∃ys,z acc=some (.lst ys)/\ys.length<sizeLine/\Pv (i+1) j (upd z acc ↥64) else Pv (i+1) j G)
  (hd:∀σ H,Pv n σ H->R H) :
  ∃W:Nat->Nat->St->Hp->Prop,↥76/\∀i m U H',W i m U H' ->
   ((Itr lo n).stop i H'/\R H')\/((Itr lo n).go i H'/\∃Y:St->Hp->Prop,↥40 /\
    ∀x H2,(Itr lo n).yld i H' x H2->g x U H2 λj H3=>ti j H3 λok G=>if ok=true then te j G λv z=>∃ys,z acc=some (.lst ys)/\ys.length<sizeLine/\Y j (upd z acc ↥64) else Y j G):=by
 refine ⟨λi m σ H=>m=n-i/\i<=n/\Pv i σ H,⟨n,by simp,aN _,h0⟩,?_⟩
 rintro i m σ H ⟨rfl,hi,p⟩
 by_cases a:i<n
 ·refine .inr ⟨a,Pv (i+1),λU H' b=>⟨n-(i+1),∅,rfl,a,b⟩,λx H' y=>?_⟩
  obtain ⟨e,y⟩:=y
  subst e y
  exact hs i σ _ a p
 ·have e:i=n:=∅
  subst e
  exact .inl ⟨au _,hd σ H p⟩
end L2
end
section
namespace L2
structure Cal (P:Program) (w:bD) (K:ah) (mg:Str->Option aj) (base:Heap) (k:Nat) (x:Str) (ps:List Str) (sp:Sp):Prop where
 ex:∃f fd,FnOk P w K mg base CX0 k f fd ps sp/\y8 K fd ps []/\mg x=some (.ref f)/\c3 K (.ref f)=true
theorem je {X:Cx}{k:Nat}{e:Expr}{es:List Expr}{pos:Pos}(c:Cal X.prog X.w X.K X.mg X.base k x ps sp) (G:Room k X.A) (U:Gl X x) (ha:PA X (e::es) t)
  (z: ↥24=false:=by decide) (Y:aO (e::es) X.env=↥33::aO es X.env:=by rfl) (j: (↥67).any (·.1)=false:=by rfl) :
  PE X ↥65 (WA sp [] E0 t):=by
 obtain ⟨f,fd,F,d,a,b⟩:=c.ex
 exact UO F G U a b d .nil VW ha z Y j
theorem Cal.mk' {w:bD}{K:ah}{mg:Str->Option aj}{base:Heap}{k:Nat}{x:Str}{ps:List Str}{st:Stmt}{f:Addr}{oc:aj}{od U:Option Addr}{Y:Array (Option aj)}{kV doc pm j z:aj}
  (X:K.In h) (G:h.Ns mainGlobals mg) (a:aY K mainGlobals x=some (some (.ref f)))
  (l:K.lookup f=some ⟨oc,od,.func ↥35,Y⟩) (c:cQ K j x=true) (k':c3 K (.ref f)=true)
  (hb:∀(kV doc pm:aj) (U:Option Addr) (j z:aj) (us:List aj),us.length=ps.length->cU ↥35 ⟨us,[]⟩=pure (ps.zip us))
  (ok:∀{f:Addr} {fd:FuncData},Fun K x x st f fd->FnOk P w K mg base CX0 k f fd ps sp):Cal P w K mg base k x ps sp:=by
 have F:=vp (st:=st) l c k'
 exact ⟨f,_,ok F,F.binds hb,bo X G a,k'⟩
section
variable {X:Cx}
inductive cI_call_isinst (K:ah) (xs:List V) (H:Hp) (Q:VK):Prop
 | mk (x:_) (n:_) (t:_) (b:_) (_:xs=[x,.ty n]) (_:TyOf K H x t) (_:bf K t (.type n)=some b) (_:Q (.bl b) H)
theorem QY:xh X (.builtin "isinstance") (cI_call_isinst X.K):=by
 intro pins s σ H xs f Q I r h
 obtain ⟨x,n,t,b,rfl,ty,e,q⟩:=h
 obtain ⟨u,a,rfl,d,c⟩:=Y4 r
 cases (show a=dW n from c)
 exact Yi I d ty e λtk=>⟨.bl b,H,I.tok tk,rfl,q⟩
noncomputable def Wy (i j:Int):Prop:=0<j/\j<2 ^ 200
theorem vH:OpR X (fE .FloorDiv) (rI Wy λi j=>.int (i / j)):=opI λi j _ _ _ _ _ a q=>by
 have h1:(0:Int)<j:=a.1
 have h2:j<2 ^ 200:=a.2
 refine floordiv_int ∅ (by rw [Int.fdiv_eq_ediv_of_nonneg i ∅];exact q) (.inl (PyProof.noPylong_of_log2 ?_))
 have c:j.natAbs<2 ^ 200:=∅
 have b:j.natAbs≠0:=∅
 have:=(Nat.log2_lt b).mpr c
 omega
inductive cI_call_all (K:ah) (xs:List V) (H:Hp) (Q:VK):Prop
 | mk (p:Addr) (bs:List Bool) (_:xs=[.ref p]) (_:SqL K H p (bs.map V.bl)) (_:Q (.bl (bs.all λb=>b)) H)
theorem Ul (G:X.calm=true):xh X (.builtin "all") (cI_call_all X.K):=by
 intro pins s σ H xs C Q I r h
 obtain ⟨p,bs,rfl,w,q⟩:=h
 obtain ⟨u,rfl,t⟩:=zX r
 cases t
 obtain ⟨a,k,pl,D⟩:=I.list w
 have l:p≠s.heap.objs.size:=by
  obtain ⟨o,n,e,_⟩:=id pl
  exact aD (av e)
 have j:a.length=bs.length:=by rw [<- k.length,ag]
 have d:∀i v,a[i]? = some v->∃b,bs[i]? = some b/\v=mC b:=λi v e=>by
  have hi:i<a.length:=(↥119).1
  have c:(bs.map V.bl)[i]? = some (V.bl (bs[i]'∅)):=by rw [ax,aa ∅];rfl
  obtain ⟨u,h1,h2⟩:=k.get c
  rw [e] at h1
  cases h1
  exact ⟨bs[i]'∅,aa ∅,h2⟩
 refine call_all_walk (cZ pl.isList ?_)
 refine ⟨s.heap.objs.size,_,_,_,_,_,λi=>bs.getD i true,rfl,oU (show (X.A.in1).handled=none from I.ok.hd G) s.heap.objs.size p l a.toArray,⟨⟨_,aB _ rfl,rfl,rfl⟩,pl.isList.at λo e=>ai _ e⟩,?_,?_⟩
 ·intro i v s' B E y f
  obtain ⟨b,c,rfl⟩:=d i v (by simpa using y)
  have e:bs.getD i true=b:=by rw [ak,c];rfl
  have f:B (bs.getD i true) s':=f
  rw [e] at f
  exact c0 f
 ·intro h' tk x
  have e:((aM a.toArray.size).all λi=>bs.getD i true)=bs.all λb=>b:=by
   rw [az,j,fc,c8,c8]
   constructor
   ·intro z b c
    obtain ⟨i,hi,rfl⟩:=List.mem_iff_getElem.mp c
    have:=z i (List.mem_range.mpr hi)
    rw [ak,aa hi] at this
    exact this
   ·intro z i hi
    have g:=List.mem_range.mp hi
    rw [ak,aa g]
    exact z _ (bQ g)
  rw [e]
  refine ⟨.bl _,H,I.kept (t':=tk) λb o m=>x b o (by
   intro z
   have:=List.mem_singleton.mp z
   subst this
   exact absurd (av m) (cp _)) (ai _ m),rfl,q⟩
end
noncomputable def kitT (a b:String):Option Bool:=if (dW a == dW b)=true then some true else if PySem.W.kitMeta b=true then (fastBuiltinMro a).map (·.contains (.type b)) else none
theorem qu (K:ah) (a b:String):bf K (.type a) (.type b)=kitT a b:=rfl
theorem wU (K:ah):bf K (.type "int") (.type "bool")=some false:=(qu K _ _).trans ↥38
theorem gg (K:ah):bf K (.type "int") (.type "int")=some true:=(qu K _ _).trans ↥38
theorem uZ (K:ah):bf K (.type "bool") (.type "bool")=some true:=(qu K _ _).trans ↥38
theorem QD (K:ah):bf K ↥146 (.type "bool")=some false:=(qu K _ _).trans ↥38
theorem XN (K:ah):bf K ↥146 (.type "int")=some false:=(qu K _ _).trans ↥38
theorem Xn (K:ah):bf K ↥146 (.type "str")=some false:=(qu K _ _).trans ↥38
theorem wk (K:ah):bf K ↥146 ↥146=some true:=(qu K _ _).trans ↥38
theorem ui (K:ah):bf K ↥146 (.type "tuple")=some false:=(qu K _ _).trans ↥38
theorem Jn (K:ah):bf K (.type "tuple") (.type "bool")=some false:=(qu K _ _).trans ↥38
theorem Qm (K:ah):bf K (.type "tuple") (.type "int")=some false:=(qu K _ _).trans ↥38
theorem Qs (K:ah):bf K (.type "tuple") (.type "str")=some false:=(qu K _ _).trans ↥38
theorem uh (K:ah):bf K (.type "tuple") ↥146=some false:=(qu K _ _).trans ↥38
theorem vx (K:ah):bf K (.type "tuple") (.type "tuple")=some true:=(qu K _ _).trans ↥38
noncomputable def Ext (b:Addr) (H H':Hp):Prop:=∀c o,H c=some o->c≠b->H' c=some o
theorem Ext.refl {b:Addr}:Ext b H H:=λ_ _ h _=>h
theorem Ext.trans {b:Addr}(x:Ext b H H1) (y:Ext b H1 H2):Ext b H H2:=λc o h n=>y c o (x c o h n) n
theorem Ext.of_same {b:Addr}(x:jk H H'):Ext b H H':=λc o h _=>x c o h
theorem Ext.put {b:Addr}:Ext b H (upd H b o):=λc _ h n=>by rw [j8 n];exact h
theorem jk.new {H:Hp}{p:Addr}(n:H p=none):jk H (upd H p o):=λc u h=>by rw [j8 (j1 h n)];exact h
theorem Ext.new {b:Addr}{H:Hp}{p:Addr}(n:H p=none):Ext b H (upd H p o):=Ext.of_same (jk.new n)
theorem Ext.free {b:Addr}(x:Ext b H H') {p:Addr}(h:H' p=none) (n:p≠b):H p=none:=by
 cases q:H p with
 | none=>rfl
 | some o=>rw [x p o q n] at h;cases h
end L2
end
section
namespace L2
section
variable {X:Cx}
theorem jd (K:ah) (h:X.K=K:=by rfl):IxR X (rIxL K):=by subst h;exact Ww
theorem qp (K:ah) (h:X.K=K:=by rfl):IxR X (rIxT K):=by subst h;exact WM
theorem jg (K:ah) (h:X.K=K:=by rfl):xh X (.builtin "len") (cI_call_len_seq K):=by subst h;exact Qx
theorem ZM (K:ah) (h:X.K=K:=by rfl):OpR X (cq .In) (rIn K false):=by subst h;exact YS
theorem zq (K:ah) (h:X.K=K:=by rfl):OpR X (cq .NotIn) (rIn K true):=by subst h;exact Qw
theorem qd (K:ah) (h:X.K=K:=by rfl):xh X (.builtin "isinstance") (cI_call_isinst K):=by subst h;exact QY
theorem yw (K:ah) (j:X.calm=true) (h:X.K=K:=by rfl):xh X (.builtin "all") (cI_call_all K):=by subst h;exact Ul j
theorem jT (K:ah) (j:PE X l tl) (h:X.K=K:=by rfl):PI X tg l (Y5 K tl):=by subst h;exact UA j
theorem uP (K:ah) (j:PE X l tl) (h:X.K=K:=by rfl):PI X tg l (E6 K tl):=by subst h;exact WZ j
theorem qS {k:Nat}{n:Nat}{pos:Pos}(K:ah) (G:X.calm=true) (h:PGs X es t)
  (z:(cY es X.env).length=n:=by rfl) (j:(cY es X.env).findIdx? (·.1)=none:=by rfl) (U:X.K=K:=by rfl):PG X (.Tuple es k pos) (gTup K n t):=by subst U;exact G7 G h z j
theorem zS {T id:String}{e:Expr}{es:List Expr}{apos cpos:Pos}(K:ah) (pa:PlainAttrs T) (U:Slot T name id) (ab:sS (.builtin id)=pure (.type "method_descriptor")) (hm:MtR X id r) (ho:PE X o to) (ha:PA X (e::es) t)
  (G:fS o name X.env (eval o X.env)=eval o X.env:=by rfl)
  (Y:((cG cpos (aO (e::es) X.env)).all (λx=>!x.1) && (il cpos (dS [] X.env)).all (λx=>x.1.isSome)
   && decide ((e::es).length+([]:List mF).length+(if ([]:List mF).isEmpty then 0 else 1)<30))=true:=by rfl)
  (z:(apos.endLine == cpos.line)=true:=by rfl) (hs:aO (e::es) X.env=↥33::aO es X.env:=by rfl) (j:(cG cpos (aO es X.env)).any (·.1)=false:=by rfl) (hK:X.K=K:=by rfl) :
  PE X (.Call (.Attribute o name apos) (e::es) [] cpos) (tBM K T r to t):=by subst hK;exact Et pa U ab hm ho ha G Y z hs j
end
noncomputable def New (H:Hp) (o:HO) (Q:VK):Prop:=∀p H',H p=none->H' p=some o->jk H H'->Q (.ref p) H'
theorem New.at (h:New H o Q):∀p,H p=none->Q (.ref p) (upd H p o):=λp n=>h p _ n j6 (jk.new n)
section
variable {X:Cx}{es:List Expr}{t:TA}{pos:Pos}
noncomputable def El (t:TA):TE:=λσ H Q=>t σ H λxs H1=>xs.length<=sizeLine/\New H1 (.tup xs) Q
noncomputable def GT (t:TA):TE:=λσ H Q=>t σ H λxs H1=>xs.length<=sizeLine/\New H1 (.lst xs) Q
theorem qa {j}(h:PA X es t):PE X (.Tuple es j pos) (El t):=by
 intro pins s σ H Q I d
 refine wpAny_Tuple_spliced (thn (h pos pins s σ H _ I d) λc s1 ⟨xs,H1,a,r,z,q⟩=>⟨by rw [<- r.length];exact z,?_⟩)
 have f:H1 s1.heap.objs.size=none:=a.hok.fresh (au _)
 refine ⟨.ref s1.heap.objs.size,upd H1 s1.heap.objs.size (.tup xs),a.laid (t':=s1.toks) (λb u e=>ai _ e) (au _) ?_,rfl,q.at _ f⟩
 exact ⟨z,c,r,⟨_,aB _ rfl,rfl,_,rfl⟩⟩
theorem jD (h:PA X es t):PE X (.List es pos) (GT t):=by
 intro pins s σ H Q I d
 refine wpAny_List_spliced (thn (h pos pins s σ H _ I d) λc s1 ⟨xs,H1,a,r,z,q⟩=>⟨by rw [<- r.length];exact z,?_⟩)
 have f:H1 s1.heap.objs.size=none:=a.hok.fresh (au _)
 refine ⟨.ref s1.heap.objs.size,upd H1 s1.heap.objs.size (.lst xs),a.laid (t':=s1.toks) (λb u e=>ai _ e) (au _) ?_,rfl,q.at _ f⟩
 exact ⟨z,c,0,r,aB _ rfl⟩
theorem OpR.weak {r':R2}(h:OpR X f r) (w:∀x y H Q,r' x y H Q->r x y H Q):OpR X f r':=λpins s σ H x y v u Q I b a q=>h pins s σ H x y v u Q I b a (w _ _ _ _ q)
theorem xh.weak {r':List V->Hp->VK->Prop}(h:xh X f r) (w:∀x H Q,r' x H Q->r x H Q):xh X f r':=λpins s σ H xs a Q I b q=>h pins s σ H xs a Q I b (w _ _ _ q)
theorem SlR.weak {r':V->Option Int->Option Int->Hp->VK->Prop}(h:SlR X r) (w:∀x lo hi H Q,r' x lo hi H Q->r x lo hi H Q):SlR X r':=λpins s σ H x v b a lo hi c Q I d f pl e q=>h pins s σ H x v b a lo hi c Q I d f pl e (w _ _ _ _ _ q)
inductive rCatN  (x:V) (y:V) (H:Hp) (Q:VK):Prop
 | mk (l:_) (b:_) (xs:_) (zs:_) (_:x = .ref l) (_:y = .ref b) (_:H l=some (.lst xs)) (_:H b=some (.lst zs)) (_:xs.length+zs.length<=sizeLine) (_:New H (.lst (xs++zs)) Q)
theorem ua:OpR X (fE .Add) rCatN:=GF.weak λ_ _ _ _ ⟨l,b,xs,zs,h1,h2,d,c,a,q⟩=>⟨l,b,xs,zs,h1,h2,d,c,a,q.at⟩
inductive cI_call_list_ofN (K:ah) (xs:List V) (H:Hp) (Q:VK):Prop
 | mk (p:_) (ys:_) (_:xs=[.ref p]) (_:(SqL K H p ys\/SqT K H p ys)) (_:New H (.lst ys) Q)
theorem qZ (K:ah) (h:X.K=K:=by rfl):xh X ↥146 (cI_call_list_ofN K):=by
 subst h
 exact JY.weak λ_ _ _ ⟨p,ys,h1,h2,q⟩=>⟨p,ys,h1,h2,q.at⟩
inductive sI_sl_listN (K:ah) (x:V) (lo:Option Int) (hi:Option Int) (H:Hp) (Q:VK):Prop
 | mk (a:_) (xs:_) (_:x = .ref a) (_:SqL K H a xs) (_:New H (.lst (wm xs lo hi)) Q)
theorem vV (K:ah) (h:X.K=K:=by rfl):SlR X (sI_sl_listN K):=by
 subst h
 exact UY.weak λ_ _ _ _ _ ⟨a,xs,h1,h2,q⟩=>⟨a,xs,h1,h2,q.at⟩
end
theorem qv {A B:Prop} [Decidable p] (h1:p->A) (h2:¬p->B):if decide p=true then A else B:=by
 by_cases h:p
 ·rw [if_pos (decide_eq_true h)];exact h1 h
 ·rw [if_neg (by rw [decide_eq_false h];exact ar)];exact h2 h
theorem zF {A B:Prop} [Decidable p] (h1:¬p->A) (h2:p->B):if (!decide p)=true then A else B:=by
 by_cases h:p
 ·rw [if_neg (by rw [decide_eq_true h];exact ar)];exact h2 h
 ·rw [if_pos (by rw [decide_eq_false h];rfl)];exact h1 h
theorem qo {α:Type}{xs:List α}{i:Int}{v:α}(j:0<=i) (h:xs[i.toNat]? = some v):atI xs i=some v:=by
 obtain ⟨n,rfl⟩:=Int.eq_ofNat_of_zero_le j
 exact y3 (by simpa using h)
theorem xG {ns:List Int}{i:Int}(j:0<=i) (h:i<ns.length):∃z,atI ↥129 i=some (.int z):=by
 refine ⟨ns[i.toNat]'∅,qo j ?_⟩
 rw [ax,aa ∅]
 rfl
theorem vy {ns:List Int}{i:Nat}(h: (↥129)[i]? = some y):∃z,y=V.int z:=by
 rw [ax] at h
 cases e:ns[i]? with
 | none=>rw [e] at h;cases h
 | some z=>rw [e] at h;exact ⟨z,(aI h).symm⟩
inductive spMixed  (vs:List V) (H:Hp) (Q:VK) (z_3:XK):Prop
 | mk (a b:Int) (_:vs=[.int a,.int b]) (_:∀r:Int,Q (.int r) H)
inductive spWhole  (vs:List V) (H:Hp) (Q:VK) (z_3:XK):Prop
 | mk (i:Int) (_:vs=[.int i]) (_:Q (.bl true) H)
structure Nb (mg:Str->Option aj):Prop where
 b_len:mg "len" = none
 b_range:mg "range" = none
 b_isinstance:mg "isinstance" = none
 b_int:mg "int" = none
 b_bool:mg "bool" = none
 b_str:mg "str" = none
 b_list:mg "list" = none
 b_tuple:mg "tuple" = none
 b_min:mg "min" = none
 b_max:mg "max" = none
 b_all:mg "all" = none
 b_zip:mg "zip" = none
end L2
end
section
namespace L2
mutual
inductive Rep (M:Addr->Prop) (K:ah) (H:Hp):V->eJ->Prop
 | non:Rep M K H .non .none
 | bl (b:Bool):Rep M K H (.bl b) (.bool b)
 | int (i:Int):Rep M K H (.int i) (.int i)
 | str (x:Str):Rep M K H (.str x) (.str x)
 | tup {p:Addr} {vs:List V} {ds:List eJ}:¬M p->SqT K H p vs->RepL M K H vs ds->Rep M K H (.ref p) (.tuple ds)
 | lst {p:Addr} {vs:List V} {ds:List eJ}:¬M p->SqL K H p vs->RepL M K H vs ds->Rep M K H (.ref p) (.list ds)
inductive RepL (M:Addr->Prop) (K:ah) (H:Hp):List V->List eJ->Prop
 | nil:RepL M K H [] []
 | cons {v:V} {vs:List V} {d:eJ} {ds:List eJ}:Rep M K H v d->RepL M K H vs ds->RepL M K H (v::vs) (d::ds)
end
noncomputable def Vv (M:Addr->Prop) (H H':Hp):Prop:=∀c o,H c=some o->¬M c->H' c=some o
theorem Vv.of_same (x:jk H H'):Vv M H H':=λc o h _=>x c o h
theorem Rep.reads_all {X:Cx}(I:Inv X pins σ H s) (h:RepL M X.K H vs ds) :
  ∀{us:List aj},jI vs us->∃as,ReadsAll s.heap us ds as:=by
 refine RepL.rec (M:=M) (K:=X.K) (H:=H) (motive_1:=λv d _=>∀u,jH v u->∃as,Reads s.heap u d as) (motive_2:=λvs ds _=>∀{us:List aj},jI vs us->∃as,ReadsAll s.heap us ds as)
  ?_ ?_ ?_ ?_ ?_ ?_ ?_ ?_ h
 ·intro u r;cases r;exact ⟨_,Reads.none⟩
 ·intro b u r;cases r;exact ⟨_,Reads.bool b⟩
 ·intro i u r;obtain ⟨t,rfl⟩:=r;exact ⟨_,Reads.int i t⟩
 ·intro x u r;obtain ⟨t,rfl⟩:=r;exact ⟨_,Reads.str x t⟩
 ·intro p vs ds n g _ f u r
  cases r
  obtain ⟨j,a,⟨o,e,c,k,d⟩,_⟩:=I.tuple g
  obtain ⟨as,q⟩:=f a
  exact ⟨as,reads_tuple_at e c d (by simpa using q)⟩
 ·intro p vs ds n g _ f u r
  cases r
  obtain ⟨j,a,⟨o,k,e,c,_,d⟩,_⟩:=I.list g
  obtain ⟨as,q⟩:=f a
  exact ⟨_,reads_list_at e c d (by simpa using q)⟩
 ·intro us r;cases r;exact ⟨_,ReadsAll.nil⟩
 ·intro v vs d ds _ _ m l us r
  cases r with
  | cons y w =>
   obtain ⟨as,q⟩:=m _ y
   obtain ⟨bs,z⟩:=l w
   exact ⟨_,ReadsAll.cons q z⟩
theorem Rep.reads {X:Cx}(I:Inv X pins σ H s) (h:Rep M X.K H v d) (r:jH v u):∃as,Reads s.heap u d as:=by
 obtain ⟨as,q⟩:=Rep.reads_all I (RepL.cons h .nil) (Paired.cons r .nil)
 cases q with
 | cons a b=>exact ⟨_,a⟩
section
variable {X:Cx}
inductive rEqD (K:ah) (x:V) (y:V) (H:Hp) (Q:VK):Prop
 | mk (M M':Addr->Prop) (d e:eJ) (_:Rep M K H x d) (_:Rep M' K H y e) (_:iz d=true) (_:iz e=true) (_:Q (.bl (PyData.eqv d e)) H)
theorem G5 (j:X.A.units+64<cLine):OpR X (cq .Eq) (rEqD X.K):=by
 intro pins s σ H x y v u Q I c b h
 obtain ⟨M,k,d,e,h1,h2,s1,a,q⟩:=h
 obtain ⟨i,g⟩:=h1.reads I c
 obtain ⟨bs,f⟩:=h2.reads I b
 exact eq_dataH g f s1 a j ⟨.bl _,H,I,rfl,q⟩
end
end L2
end
section
namespace L2
noncomputable def tCut (t u:TS):TS:=λD σ H=>∃P:St->Hp->Prop,t { D with nx:=P } σ H/\∀a H',P a H'->u D a H'
theorem zp {st:Stmt}{vn:List Stmt}(h1:PS X st t) (h2:PSs X vn u):PSs X (st::vn) (tCut t u):=by
 intro pins s σ H D I h
 obtain ⟨P,h,b⟩:=h
 refine mh (thn (h1 pins s σ H { D with nx:=P } I h) λf s1 q=>?_)
 cases f with
 | next =>
  obtain ⟨a,H',c,q⟩:=q
  exact h2 pins s1 a H' D c (b _ _ q)
 | ret v=>exact q
 | brk=>exact q
 | cont=>exact q
section
variable {X:Cx}
inductive rCatTA  (x:V) (y:V) (H:Hp) (Q:VK):Prop
 | mk (a:_) (b:_) (xs:_) (ys:_) (_:x = .ref a) (_:y = .ref b) (_:H a=some (.tup xs)) (_:H b=some (.tup ys)) (_:xs.length+ys.length<=sizeLine) (_:∀p H',jk H H'->H' p=some (.tup (xs++ys))->Q (.ref p) H')
theorem Ug:OpR X (fE .Add) rCatTA:=by
 intro pins s σ H x y v u Q I l k h
 obtain ⟨a,b,xs,ys,rfl,rfl,i,g,G,q⟩:=h
 by_cases o:xs=[]
 ·subst o
  cases l
  cases k
  obtain ⟨m,C,D,_⟩:=I.tuple (SqT.of i)
  obtain ⟨f,M,p2,_⟩:=I.tuple (SqT.of g)
  have hi:m=[]:=C.nil_iff.mpr rfl
  subst hi
  obtain ⟨⟨cls,J,K,B⟩,r,w,n,t⟩:=id D
  obtain ⟨⟨L,A,data2,j⟩,c,e,E,d⟩:=id p2
  simp only at w t e d
  subst w t e d
  exact pJ ⟨_,r,rfl⟩ ⟨_,c,rfl⟩ mq oC iq i9 (fT _ _)
   (tuple_addW0 a b #[] f.toArray n E J A B j (by simp)) ⟨r,c,⟨.ref b,H,I,rfl,q b H (jk.refl H) g⟩⟩
 ·refine Ut pins s σ H (.ref a) (.ref b) v u Q I l k ⟨a,b,xs,ys,rfl,rfl,SqT.of i,SqT.of g,o,G,λz=>?_,λ_ p n=>q p _ (jk.new n) j6⟩
  subst z
  exact q a H (jk.refl H) (by rw [aJ];exact i)
end
theorem Wg {X:Cx}(K:ah) (j:X.A.units+64<cLine) (h:X.K=K:=by rfl):OpR X (cq .Eq) (rEqD K):=by subst h;exact G5 j
noncomputable def jY (L:Addr) (H:Hp) (b:Addr):Prop:=∃(e:List Int) (a r c d:Int),H b=some (.lst [.ref L,.int a,.int r,.int c,.int d])/\L≠b/\H L=some (.lst (e.map V.int))/\0<=a
theorem jY.same {b:Addr}(B:jY L H b) (s:jk H H'):jY L H' b:=by
 obtain ⟨e,a,r,c,d,h1,h2,g,f⟩:=B
 exact ⟨e,a,r,c,d,s _ _ h1,h2,s _ _ g,f⟩
theorem jY.ext {b acc:Addr}(B:jY L H b) (n:acc≠b) (m:acc≠L) (e:Ext acc H H'):jY L H' b:=by
 obtain ⟨f,a,r,c,d,h1,h2,h,g⟩:=B
 exact ⟨f,a,r,c,d,e _ _ h1 n.symm,h2,e _ _ h m.symm,g⟩
theorem jY.put {b acc:Addr}(B:jY L H b) (n:acc≠b) (m:acc≠L):jY L (upd H acc o) b:=B.ext n m Ext.put
theorem jY.ne {b p:Addr}(B:jY L H b) (n:H p=none):p≠b:=by
 obtain ⟨e,a,r,c,d,h1,h2,g,f⟩:=B
 exact (j1 h1 n).symm
theorem jY.neL {b p:Addr}(B:jY L H b) (n:H p=none):p≠L:=by
 obtain ⟨f,a,r,c,d,h1,h2,e,g⟩:=B
 exact (j1 e n).symm
theorem jY.ne_tup {b p:Addr}{xs:List V}(B:jY L H b) (n:H p=some (.tup xs)):p≠b:=by
 obtain ⟨e,a,r,c,d,h1,h2,g,f⟩:=B
 exact jp n h1 ↥41
inductive spTakeL  (vs:List V) (H:Hp) (Q:VK) (z_3:XK):Prop
 | mk (L b:Addr) (n:Int) (_:vs=[.ref b,.int n]) (_:jY L H b) (_:(0<n/\n<2 ^ 200)) (_:∀(v:Int) (H':Hp),0<=v->v<n->jY L H' b->Ext b H H'->Q (.int v) H')
inductive spBoxL (K:ah) (vs:List V) (H:Hp) (Q:VK) (z_3:XK):Prop
 | mk (a:Addr) (ns:List Int) (_:vs=[.ref a]) (_:SqL K H a ↥129) (_:∀(L b:Addr) (H':Hp),H b=none->jY L H' b->jk H H'->Q (.ref b) H')
noncomputable abbrev T3:=Int×Int×Int
noncomputable abbrev yS (t:T3):HO:=.tup [.int t.1,.int t.2.1,.int t.2.2]
noncomputable def Gs (H:Hp) (v:V) (t:T3):Prop:=∃p,v = .ref p/\H p=some (yS t)
noncomputable def xo (H:Hp) (vs:List V) (ts:List T3):Prop:=cz (Gs H) vs ts
theorem xo.length {ts:List T3}(r:xo H vs ts):vs.length=ts.length:=aV r
theorem xo.get :∀{vs:List V}{ts:List T3}{i:Nat}{v:V},xo H vs ts->vs[i]? = some v->∃t,ts[i]? = some t/\Gs H v t
 | _,_,_,_,.nil,e=>by simp at e
 | _,_,0,_,.cons r _,e=>by simp at e;subst e;exact ⟨_,rfl,r⟩
 | _,_,i+1,v,.cons _ t,e=>by
  obtain ⟨d,h1,h2⟩:=xo.get (i:=i) (v:=v) t (by simpa using e)
  exact ⟨d,by simpa using h1,h2⟩
theorem xo.imp {H':Hp}{ts:List T3}(r:xo H vs ts) (h:∀p t,H p=some (yS t)->H' p=some (yS t)):xo H' vs ts :=
 Paired.mapP r λ_ t ⟨p,e,q⟩=>⟨p,e,h p t q⟩
theorem xo.snoc {ts:List T3}(r:xo H vs ts) (h:Gs H v t):xo H (vs++[v]) (ts++[t]):=cN r h
theorem qX {α β:Type}(f:α->β) (l:List α) (i:Nat) (v:α) (h:l[i]? = some v):(l.take (i+1)).map f=(l.take i).map f++[f v]:=by
 rw [aQ,h,aq]
 rfl
end L2
end
section
namespace L2
open PySem PySem.W PyProof.Rows
noncomputable def xy {α:Type}(lt:Nat->Nat->Bool) (n:Nat):KasT α->(α->Prop)->Prop
 | .ret a,G=>G a
 | .ask i j k,G=>i<n/\j<n/\xy lt n (k (lt i j)) G
theorem xy.bind {α β:Type}{lt:Nat->Nat->Bool}{n:Nat}{f:α->KasT β}{G:β->Prop}:∀{t:KasT α},xy lt n t (λa=>xy lt n (f a) G)->xy lt n (t.bind f) G
 | .ret _,h=>h
 | .ask _ _ k,h=>⟨h.1,h.2.1,xy.bind (t:=k _) h.2.2⟩
theorem xy.wp {α:Type}{lt:Nat->Nat->Bool}{n:Nat}{z:Nat->Nat->(Bool->Shared->Prop)->Shared->Prop}{I:Shared->Prop}(Y:∀i j C s,i<n->j<n->I s->(∀s',I s'->C (lt i j) s')->z i j C s)
  {G:α->Prop} {Q:α->Shared->Prop} (U:∀a s,G a->I s->Q a s):∀{t:KasT α} {s:Shared},xy lt n t G->I s->t.kasWp z Q s
 | .ret a,s,h,b=>U a s h b
 | .ask i j k,s,h,b=>Y i j _ s h.1 h.2.1 b λs' c=>xy.wp Y U (t:=k _) h.2.2 c
section
variable {O:KeyOrd}{key:Nat->O.α}{n:Nat}{p:Array Nat}
noncomputable abbrev ltK (O:KeyOrd) (key:Nat->O.α):Nat->Nat->Bool:=λi j=>O.blt (key i) (key j)
noncomputable abbrev kp (key:Nat->O.α) (p:Array Nat) (i:Nat):O.α:=key (p.getD i 0)
noncomputable def zP (key:Nat->O.α) (p:Array Nat) (k:Nat):Prop:=∀i j,i<=j->j<k->O.kle (kp key p i) (kp key p j)
noncomputable def J0 (key:Nat->O.α) (p:Array Nat) (k:Nat):Prop:=∀i j,i<=j->j<k->O.kle (kp key p j) (kp key p i)
noncomputable def qK (n:Nat) (p:Array Nat):Prop:=p.Perm (aM n).toArray
theorem qK.size (h:qK n p):p.size=n:=by have:=h.size_eq;simpa using this
theorem qK.lt (h:qK n p) (j:0<n) (i:Nat):p.getD i 0<n:=by
 by_cases hi:i<p.size
 ·have e:p.getD i 0=p[i]:=by simp [oV,hi]
  rw [e]
  have a:p[i]∈(aM n).toArray.toList:=(Array.perm_iff_toList_perm.mp h).mem_iff.mp (by simp)
  simpa using a
 ·have e:p.getD i 0=0:=by simp [oV,hi]
  rw [e];exact j
theorem zL {p q:Array Nat}{i j:Nat}(h:p[i]? = q[j]?):p.getD i 0=q.getD j 0:=by
 rw [ly,ly,h]
theorem JF {j d:Nat}(z:j<p.size) (G:d<=j) (k:Nat) :
  kp (O:=O) key (bubble p j d) k=if k=j-d then kp key p j else if j-d<k/\k<=j then kp key p (k-1) else kp key p k:=by
 have e:=getElem?_bubble z d G k
 unfold kp
 by_cases h1:k=j-d
 ·rw [if_pos h1] at e ⊢;rw [zL e]
 ·rw [if_neg h1] at e ⊢
  by_cases h2:j-d<k/\k<=j
  ·rw [if_pos h2] at e ⊢;rw [zL e]
  ·rw [if_neg h2] at e ⊢;rw [zL e]
theorem Z4 {i j:Nat}(z:j<=p.size) (k:Nat):kp (O:=O) key (sH p i j) k=if i<=k/\k<j then kp key p (i+j-1-k) else kp key p k:=by
 have e:=getElem?_mirror_all (i:=i) z k
 unfold kp sH
 by_cases h1:i<=k/\k<j
 ·rw [if_pos h1] at e ⊢;rw [zL e]
 ·rw [if_neg h1] at e ⊢;rw [zL e]
theorem zc {i j:Nat}(G:j<=p.size) (z:∀k,i<=k->k<j->kp (O:=O) key p k=kp key p (j-1)) (k:Nat):kp (O:=O) key (sH p i j) k=kp key p k:=by
 rw [Z4 G]
 split
 ·rw [z _ ∅ ∅,z k ∅ ∅]
 ·rfl
theorem qK.rev (h:qK n p) (i j:Nat):qK n (sH p i j):=(mirror_perm _ _ _ _).trans h
theorem qK.bub (h:qK n p) (i j:Nat):qK n (bubble p i j):=(bubble_perm _ _ _).trans h
theorem QG (Y:qK n p) (U:0<n) {G:Nat->Prop}:∀(f a:Nat),1<=a->zP (O:=O) key p a ->
  (∀m,a<=m->m<=a+f->zP (O:=O) key p m->(m=a+f\/O.klt (kp key p m) (kp key p (m-1)))->G m)->xy (ltK O key) n (kas_asc p f a) G
 | 0,a,_,c,h=>h a (au _) (au _) c (.inl rfl)
 | f+1,a,h1,c,h=>by
  refine ⟨Y.lt U _,Y.lt U _,?_⟩
  show xy _ _ (if O.blt (kp key p a) (kp key p (a-1))=true then _ else _) _
  cases b:O.blt (kp key p a) (kp key p (a-1)) with
  | true=>rw [if_pos rfl];exact h a (au _) ∅ c (.inr b)
  | false =>
   rw [if_neg ar]
   refine QG Y U f (a+1) ∅ (λi j k s=>?_) λm r q d o=>h m ∅ ∅ d (o.imp (λz=>∅) id)
   by_cases e:j<a
   ·exact c i j k e
   ·have g:j=a:=∅
    subst g
    by_cases l:i=j
    ·subst l;exact dw _
    ·exact iO (c i (j-1) ∅ ∅) b
theorem JJ (Y:qK n p) {m z:Nat}{G:Nat×Array Nat->Prop}(h1:1<=m) (hm:m<=z) (hn:z<=n) (hs:J0 (O:=O) key p m)
  (h:∀k U,qK n U->1<=k->k<=z->zP (O:=O) key U k->G (k,U)):xy (ltK O key) n (tT m z p) G:=by
 have a:m<=p.size:=by rw [Y.size];omega
 refine xy.bind (QG (Y.rev _ _) ∅ _ m h1 (λi j e f=>?_) λk d c b _=>h k _ (Y.rev _ _) ∅ ∅ b)
 rw [Z4 a,Z4 a,if_pos ∅,if_pos ∅]
 exact hs _ _ ∅ ∅
theorem uY {Y:Nat}(hn:Y<=n) {G:Array Nat×Nat×Nat->Prop}:∀(f:Nat) (p:Array Nat) (x q:Nat),qK n p->1<=x->x+f=Y->J0 (O:=O) key p x->q+1<=x ->
  (∀i,x-(q+1)<=i->i<x->kp (O:=O) key p i=kp key p (x-1)) ->
  (∀z m U,qK n z->x<=m->m<=Y->J0 (O:=O) key z m->U+1<=m->(∀i,m-(U+1)<=i->i<m->kp (O:=O) key z i=kp key z (m-1))->G (z,m,U)) ->
  xy (ltK O key) n (kas_desc f p x q) G
 | 0,p,x,q,c,h1,D,d,y,w,h=>h p x q c (au _) ∅ d y w
 | f+1,p,x,q,c,h1,D,d,y,w,h=>by
  have A:x<=p.size:=by rw [c.size];omega
  refine ⟨c.lt ∅ _,c.lt ∅ _,?_⟩
  show xy _ _ (if O.blt (kp key p x) (kp key p (x-1))=true then _ else _) _
  cases g:O.blt (kp key p x) (kp key p (x-1)) with
  | true =>
   rw [if_pos rfl]
   have e:∀z:Array Nat,(∀k,kp (O:=O) key z k=kp key p k)->J0 (O:=O) key z (x+1):=by
    intro z B i j t E
    rw [B,B]
    by_cases r:j<x
    ·exact d i j t r
    ·have s:j=x:=∅
     subst s
     by_cases u:i=j
     ·subst u;exact dw _
     ·exact iO (iA g) (d i (j-1) ∅ ∅)
   by_cases o:q > 0
   ·rw [if_pos o]
    exact uY hn f _ (x+1) 0 (c.rev _ _) ∅ ∅ (e _ (zc A w)) ∅ (λi h1 h2=>by congr 1;omega) λz m U a b=>h z m U a ∅
   ·rw [if_neg o]
    exact uY hn f _ (x+1) 0 c ∅ ∅ (e _ λ_=>rfl) ∅ (λi h1 h2=>by congr 1;omega) λz m U a b=>h z m U a ∅
  | false =>
   rw [if_neg ar]
   refine ⟨c.lt ∅ _,c.lt ∅ _,?_⟩
   show xy _ _ (if O.blt (kp key p (x-1)) (kp key p x)=true then _ else _) _
   cases l:O.blt (kp key p (x-1)) (kp key p x) with
   | true=>rw [if_pos rfl];exact h p x q c (au _) ∅ d y w
   | false =>
    rw [if_neg ar]
    have v:kp (O:=O) key p x=kp key p (x-1):=lu l g
    refine uY hn f p (x+1) (q+1) c ∅ ∅ (λi j t E=>?_) ∅ (λi h1 h2=>?_) λz m U a b=>h z m U a ∅
    ·by_cases r:j<x
     ·exact d i j t r
     ·have s:j=x:=∅
      subst s
      by_cases u:i=j
      ·subst u;exact dw _
      ·rw [v];exact d i (j-1) ∅ ∅
    ·rw [show x+1-1=x by omega]
     by_cases C:i=x
     ·subst C;rfl
     ·rw [v];exact w i ∅ ∅
theorem wb (hP:qK n p) {m z:Nat}{G:Nat×Array Nat->Prop}(hm:m+1<=z) (Y:z<=n) (hs:J0 (O:=O) key p (m+1))
  (h:∀k U,qK n U->1<=k->k<=z->zP (O:=O) key U k->G (k,U)):xy (ltK O key) n (kas_descPart m z p) G:=by
 refine xy.bind (uY Y _ p (m+1) 0 hP ∅ ∅ hs ∅ (λi h1 h2=>by congr 1;omega) λU k q b o e d r g=>?_)
 have c:k<=U.size:=by rw [b.size];omega
 show xy _ _ (if q > 0 then tT k z (sH U (k-(q+1)) k) else tT k z U) _
 by_cases a:q > 0
 ·rw [if_pos a]
  refine JJ (b.rev _ _) ∅ e Y (λi j f l=>?_) h
  rw [zc c g,zc c g]
  exact d i j f l
 ·rw [if_neg a]
  exact JJ b ∅ e Y d h
theorem Ys (U:qK n p) (hn:0<n) {G:Nat×Array Nat->Prop}(h:∀k Y,qK n Y->1<=k->k<=n->zP (O:=O) key Y k->G (k,Y)):xy (ltK O key) n (kas_count n p) G:=by
 refine xy.bind (QG U hn _ 1 (au 1) (λi j o w=>by have:i=j:=∅;subst this;exact dw _) λm g C b s=>?_)
 by_cases f:m=n
 ·rw [if_pos (by simpa using f)]
  exact h m p U g ∅ b
 ·rw [if_neg (by simpa using f)]
  have l:O.klt (kp key p m) (kp key p (m-1)):=by
   rcases s with z | z
   ·omega
   ·exact z
  by_cases q:m > 1
  ·rw [if_pos q]
   refine ⟨U.lt hn _,U.lt hn _,?_⟩
   show xy _ _ (if O.blt (kp key p 0) (kp key p (m-1))=true then _ else _) _
   cases d:O.blt (kp key p 0) (kp key p (m-1)) with
   | true=>rw [if_pos rfl];exact h m p U g ∅ b
   | false =>
    rw [if_neg ar]
    have e:m<=p.size:=by rw [U.size];omega
    have a:∀k,0<=k->k<m->kp (O:=O) key p k=kp key p (m-1):=by
     intro k _ y
     have B:=b 0 k ∅ y
     have A:=b k (m-1) ∅ ∅
     exact lu A (iO d B)
    refine wb (U.rev _ _) ∅ (au _) (λi j o w=>?_) h
    rw [zc e a,zc e a]
    by_cases t:j<m
    ·rw [a i ∅ ∅,a j ∅ t];exact dw _
    ·have v:j=m:=∅
     subst v
     by_cases c:i=j
     ·subst c;exact dw _
     ·rw [a i ∅ ∅];exact iA l
  ·rw [if_neg q]
   have r:m=1:=∅
   subst r
   refine wb U ∅ (au _) (λi j o w=>?_) h
   by_cases c:i=j
   ·subst c;exact dw _
   ·have x:i=0:=∅
    have u:j=1:=∅
    subst x;subst u
    exact iA l
theorem wt (U:qK n p) (z:0<n) {k:Nat}(j:zP (O:=O) key p k) {G:Nat->Prop}:∀(f l r:Nat),l<=r->r<=k->r-l<=f ->
  (∀i,i<l->O.kle (kp key p i) (kp key p k))->(∀i,r<=i->i<k->O.klt (kp key p k) (kp key p i)) ->
  (∀l,l<=k->(∀i,i<l->O.kle (kp key p i) (kp key p k))->(∀i,l<=i->i<k->O.klt (kp key p k) (kp key p i))->G l)->xy (ltK O key) n (kas_place p k f l r) G
 | 0,l,r,g,d,m,a,c,h=>by
  have:l=r:=∅
  subst this
  exact h l d a c
 | f+1,l,r,g,d,m,a,c,h=>by
  unfold kas_place
  by_cases e:l>=r
  ·rw [if_pos e]
   have:l=r:=∅
   subst this
   exact h l d a c
  ·rw [if_neg e]
   refine ⟨U.lt z _,U.lt z _,?_⟩
   show xy _ _ (if O.blt (kp key p k) (kp key p ((l+r) / 2))=true then _ else _) _
   cases b:O.blt (kp key p k) (kp key p ((l+r) / 2)) with
   | true =>
    rw [if_pos rfl]
    exact wt U z j f l _ ∅ ∅ ∅ a (λi h1 h2=>KeyOrd.klt_of_klt_of_kle b (j _ _ h1 h2)) h
   | false =>
    rw [if_neg ar]
    exact wt U z j f _ r ∅ ∅ ∅ (λi h1=>iO (j i ((l+r) / 2) ∅ ∅) (show O.kle _ _ from b)) c h
theorem ZR (U:0<n) {G:Array Nat->Prop}:∀(f:Nat) (p:Array Nat) (k:Nat),qK n p->k+f=n->zP (O:=O) key p k ->
  (∀z,qK n z->zP (O:=O) key z n->G z)->xy (ltK O key) n (kas_bin f p k) G
 | 0,p,k,a,e,b,h=>h p a (by rw [<- e];exact b)
 | f+1,p,k,a,e,b,h=>by
  refine xy.bind (wt a U b k 0 k (aN _) (au _) ∅ (λi hi=>∅) (λi h1 h2=>∅) λl m d g=>?_)
  refine ZR U f _ (k+1) (a.bub _ _) ∅ (λi j o q=>?_) h
  have c:k<p.size:=by rw [a.size];omega
  rw [JF c ∅,JF c ∅,show k-(k-l)=l by omega]
  repeat' split
  all_goals first
   | (exfalso;omega)
   | exact dw _
   | exact d _ ∅
   | exact iA (g _ ∅ ∅)
   | exact b _ _ ∅ ∅
theorem kM (z:0<n) {G:Array Nat->Prop}(h:∀j,qK n j->zP (O:=O) key j n->G j):xy (ltK O key) n (A5 n) G:=by
 refine xy.bind (Ys (Array.Perm.refl _) z λk j c h1 d b=>?_)
 show xy _ _ (if k<n then kas_bin (n-max k 1) j (max k 1) else .ret j) _
 by_cases a:k<n
 ·rw [if_pos a,show max k 1=k by omega]
  exact ZR z _ j k c ∅ b h
 ·rw [if_neg a]
  have e:k=n:=∅
  subst e
  exact h j c b
end
noncomputable def zW:List Int->List Int->Bool
 | [],[]=>false
 | [],_::_=>true
 | _::_,[]=>false
 | a::x,b::y=>if a=b then zW x y else decide (a<b)
theorem wL:∀a,zW a a=false
 | []=>rfl
 | a::x=>by unfold zW;rw [if_pos rfl];exact wL x
theorem kX:∀a b c,zW a b=true->zW b c=true->zW a c=true
 | [],[],_,h,_=>by cases h
 | [],_::_,[],_,h=>by cases h
 | [],_::_,_::_,_,_=>rfl
 | _::_,[],_,h,_=>by cases h
 | _::_,_::_,[],_,h=>by cases h
 | a::x,b::y,c::z,h1,h2=>by
  unfold zW at h1 h2 ⊢
  by_cases e:a=b
  ·subst e
   rw [if_pos rfl] at h1
   by_cases d:a=c
   ·rw [if_pos d] at h2 ⊢;exact kX x y z h1 h2
   ·rw [if_neg d] at h2 ⊢;exact h2
  ·rw [if_neg e] at h1
   have g:=of_decide_eq_true h1
   by_cases d:b=c
   ·subst d;rw [if_neg e];exact h1
   ·rw [if_neg d] at h2
    have f:=of_decide_eq_true h2
    rw [if_neg ∅]
    exact decide_eq_true ∅
theorem Xi:∀a b c,zW a c=true->zW a b=true\/zW b c=true
 | [],[],[],h=>by cases h
 | [],[],_::_,_=>.inr rfl
 | [],_::_,_,_=>.inl rfl
 | _::_,_,[],h=>by cases h
 | _::_,[],_::_,_=>.inr rfl
 | a::x,b::y,c::z,h=>by
  unfold zW at h ⊢
  by_cases f:a=b
  ·subst f
   rw [if_pos rfl]
   by_cases e:a=c
   ·rw [if_pos e] at h ⊢;exact Xi x y z h
   ·rw [if_neg e] at h ⊢;exact .inr h
  ·rw [if_neg f]
   by_cases e:b=c
   ·subst e;rw [if_neg f] at h;exact .inl h
   ·rw [if_neg e]
    by_cases g:a=c
    ·subst g
     by_cases d:a<b
     ·exact .inl (decide_eq_true d)
     ·exact .inr (decide_eq_true ∅)
    ·rw [if_neg g] at h
     have h':=of_decide_eq_true h
     by_cases d:a<b
     ·exact .inl (decide_eq_true d)
     ·exact .inr (decide_eq_true ∅)
theorem gX:∀a b,zW a b=false->zW b a=false->a=b
 | [],[],_,_=>rfl
 | [],_::_,h,_=>by cases h
 | _::_,[],_,h=>by cases h
 | a::x,b::y,h1,h2=>by
  unfold zW at h1 h2
  by_cases e:a=b
  ·subst e
   rw [if_pos rfl] at h1 h2
   rw [gX x y h1 h2]
  ·rw [if_neg e] at h1
   rw [if_neg (λz=>e z.symm)] at h2
   have:=of_decide_eq_false h1
   have:=of_decide_eq_false h2
   omega
noncomputable def k7:KeyOrd:=⟨List Int,zW,wL,kX,Xi,gX⟩
noncomputable def UG:KeyOrd:=⟨Int,λa b=>decide (a<b),λa=>by simp,λa b c h1 h2=>by
  have:=of_decide_eq_true h1;have:=of_decide_eq_true h2;exact decide_eq_true ∅,λa b c h=>by
  have:=of_decide_eq_true h
  by_cases d:a<b
  ·exact .inl (decide_eq_true d)
  ·exact .inr (decide_eq_true ∅),λa b h1 h2=>by
  have:=of_decide_eq_false h1;have:=of_decide_eq_false h2;omega⟩
end L2
end
section
namespace L2
open PySem.W
open PySem.AutoSeq1 (wpAny_loadPart')
open PySem.MeetsSeq PySem.MeetsSeq2 PySem.MeetsSeq3 PySem.SeqRoads2
theorem w5 (h:dC its xs) {i:Nat}(hi:i<its.length):∃t,its[i]? = some (.int (xs[i]'(by have:=h.length;omega)) t):=by
 have a:i<xs.length:=by have:=h.length;omega
 obtain ⟨u,c,t,b⟩:=jI.get (wv h) (i:=i) (x:=V.int xs[i]) (by rw [ax,aa a];rfl)
 exact ⟨t,by rw [c,b]⟩
theorem Yq (l b:Addr) (items j:List aj) (n n2:Nat) (dd Y:Option Addr) (sl z:Array (Option aj)) (U:dC items xs) (G:dC j ys) (k:Nat) :
  ∀i:Nat,items.length-i=k->i<=items.length->i<=j.length->Meets (fC.«list.__eq__.loop» ⟨[.ref l,.ref b,cw i,cw 0],[]⟩)
   (λA R s=>s.heap.get? l=some { cls:=.type "list",dict:=dd,data:=.seq items.toArray n,slots:=sl }/\s.heap.get? b=some { cls:=.type "list",dict:=Y,data:=.seq j.toArray n2,slots:=z } /\
    R (.ok (.ret (.bool (zW (xs.drop i) (ys.drop i))))) s):=by
 have H:=U.length
 have E:=G.length
 induction k with
 | zero =>
  intro i B hi q prog w A R s h
  obtain ⟨y,g,d,tk,os⟩:=s;obtain ⟨a,c,h⟩:=h
  wp_walk using ck a,ck c
  have o:items.toArray[((i:Nat):Int).toNat]? = none:=by simp;omega
  have C:xs.drop i=[]:=by simp;omega
  rw [C] at h
  rw [o]
  wp_walk using ck a,ck c
  show R (.ok (.ret (.bool (decide (items.toArray.size<j.toArray.size))))) _
  have f:decide (items.toArray.size<j.toArray.size)=zW [] (ys.drop i):=by
   by_cases m:i<ys.length
   ·rw [de m]
    exact decide_eq_true ↥81
   ·rw [mM ∅]
    exact decide_eq_false ↥81
  rw [f]
  exact h
 | succ k x =>
  intro i B hi q prog w A R s h
  obtain ⟨y,g,d,tk,os⟩:=s;obtain ⟨a,c,h⟩:=h
  have m:i<items.length:=∅
  obtain ⟨t,v⟩:=w5 U m
  have o:items.toArray[((i:Nat):Int).toNat]? = some (.int (xs[i]'∅) t):=by simpa using v
  wp_walk using ck a,ck c
  rw [o]
  by_cases p:i<j.length
  ·obtain ⟨u,r⟩:=w5 G p
   have f:j.toArray[((i:Nat):Int).toNat]? = some (.int (ys[i]'∅) u):=by simpa using r
   rw [f]
   rw [de (show i<xs.length by omega),de (show i<ys.length by omega)] at h
   unfold zW at h
   refine af (me ?_)
   have D:((i:Int)+1)=((i+1:Nat):Int):=by push_cast;rfl
   by_cases e:xs[i]'∅=ys[i]'∅
   ·rw [if_pos e] at h
    rw [beq_iff_eq.mpr e]
    wp_walk
    rw [D]
    exact ⟨dY plain_eq_loop _,dP entry_eq_loop (by
     rw [dj plain_eq_loop _]
     exact x (i+1) ∅ ∅ ∅ prog w A R _ ⟨a,c,h⟩)⟩
   ·rw [if_neg e] at h
    rw [beq_eq_false_iff_ne.mpr e]
    wp_walk using ck a,ck c
    rw [o,f]
    refine af (show ay (aF prog w) _ (richCompare .Lt _ _) _ _ _ from lt_int ?_)
    exact wpAny_pure h
  ·have f:j.toArray[((i:Nat):Int).toNat]? = none:=by simp;omega
   rw [f]
   rw [de (show i<xs.length by omega),mM (show ys.length<=i by omega)] at h
   wp_walk using ck a,ck c
   show R (.ok (.ret (.bool (decide (items.toArray.size<j.toArray.size))))) _
   rw [decide_eq_false ↥81]
   exact h
theorem YU (l b:Addr) (items j:List aj) (n Y:Nat) (dd G:Option Addr) (U z:Array (Option aj)) (hx:dC items xs) (hy:dC j ys) :
  Meets (fC.«list.__lt__» ⟨[.ref l,.ref b],[]⟩)
   (λA R s=>s.heap.get? l=some { cls:=.type "list",dict:=dd,data:=.seq items.toArray n,slots:=U }/\s.heap.get? b=some { cls:=.type "list",dict:=G,data:=.seq j.toArray Y,slots:=z } /\
    R (.ok (.ret (.bool (zW xs ys)))) s):=by
 intro prog w A R s h
 obtain ⟨e,g,d,tk,os⟩:=s;obtain ⟨a,c,h⟩:=h
 have f:=AutoSeq1.sub_list_list
 wp_walk using ck a,ck c
 exact ⟨dY plain_eq_loop _,dP entry_eq_loop (by
  rw [dj plain_eq_loop _]
  exact Yq l b items j n Y dd G U z hx hy _ 0 rfl (aN _) (aN _) prog w A R _ ⟨a,c,by simpa using h⟩)⟩
section
variable {prog:Program}{w:bD}{A:bF}{E:aj->Shared->Prop}{s:Shared}
theorem Xu {l b:Addr}{items j:List aj}{n n2:Nat}{dd G:Option Addr}{Y z:Array (Option aj)}{Q:Bool->Shared->Prop}(hu:A.units<cLine)
  (U:s.heap.get? l=some { cls:=.type "list",dict:=dd,data:=.seq items.toArray n,slots:=Y }) (hb:s.heap.get? b=some { cls:=.type "list",dict:=G,data:=.seq j.toArray n2,slots:=z })
  (hx:dC items xs) (hy:dC j ys) (h:Q (zW xs ys) s):ay (aF prog w) A (oneLt' true (.ref l) (.ref b)) Q E s:=by
 rw [oneLt'_eq]
 simp only [if_true]
 refine af (wpAny_cRoomFor hu ?_)
 refine af (wpAny_callSpecialIfBound?_slot ⟨_,U,rfl⟩ nQ (oR nQ ⟨_,U,rfl⟩ PySem.F.entry_list_lt (PySem.F.args_list_lt_2 _ _) (YU l b items j n n2 dd G Y z hx hy) ⟨U,hb,?_⟩))
 exact c0 h
theorem Zb {x y:Addr}{items items2:List aj}{n k:Nat}{Q:Bool->Shared->Prop}(Y:s.heap.get? x=some ox) (dx:ox.data = .seq items.toArray n) (U:s.heap.get? y=some j) (dy:j.data = .seq items2.toArray k)
  (G:dC items xs) (z:dC items2 ys) (h:Q (zW xs ys) s):ay (aF prog w) A (keyLt' (tuples' true) (.ref x) (.ref y)) Q E s:=by
 refine kat_lt Y dx U dy ?_
 have go:∀(items items2:List aj) (xs ys:List Int) (i:Nat) (f:Bool),dC items xs->dC items2 ys->(∀m:Nat,xs.length=m+items.length-items.length->True) ->
   f=decide (items.length<items2.length)->Q (zW xs ys) s->KatLex prog w A true f Q (items.zip items2) i s:=by
  intro items items2 xs ys i f a b
  induction a generalizing items2 ys i with
  | nil =>
   intro _ d c
   cases b with
   | nil=>subst d;exact c
   | cons m u r=>subst d;exact c
  | cons m u r o =>
   intro _ d c
   cases b with
   | nil=>subst d;exact c
   | cons l p g =>
    refine kat_cons (me ?_)
    unfold zW at c
    by_cases e:m=l
    ·rw [beq_iff_eq.mpr e]
     rw [if_pos e] at c
     refine kat_yes (o _ _ _ g (λ_ _=>trivial) ?_ c)
     rw [d]
     simp
    ·rw [beq_eq_false_iff_ne.mpr e]
     rw [if_neg e] at c
     refine kat_no ?_
     cases q:(true && i == 0) with
     | true=>exact oneLt_int c
     | false=>exact kat_one _ _ (lt_int c)
 have e:(items.toArray.toList.zip items2.toArray.toList)=items.zip items2:=by simp
 rw [e]
 exact go items items2 xs ys 0 _ G z (λ_ _=>trivial) (by simp) h
end
end L2
end
section
namespace L2
open PySem.W
section
variable {prog:Program}{w:bD}{A:bF}{E:aj->Shared->Prop}{s:Shared}
theorem uI (its:List aj):(its.toArray.zip its.toArray).map (·.2)=its.toArray:=by
 apply Array.toList_inj.mp
 rw [rE,ksk_zip]
 show (its.zip its).map A4=its
 rw [rG]
 exact au _
theorem uC (its:List aj):((aM its.length).map λi=>its.getD i b8)=its:=by
 apply mr
 ·simp
 ·intro i h1 h2
  simp at h1
  simp [h1]
theorem ZG {l:Addr}{its:List aj}{κ:sX}{lt:Nat->Nat->Bool}{G:List Nat->Prop}{Q:aj->Shared->Prop}(hl:s.heap.IsList l its.toArray) (Y:its.length<64)
  (hk:2<=its.length->∀h',↥25->∀U:sX->Shared->Prop,U κ { s with heap:=h' }->ay (aF prog w) A.in1.in1 (keyKind' its.toArray) U (λ_ _=>False) { s with heap:=h' })
  (hc:∀h',↥25->∀i j,i<its.length->j<its.length->∀U:Bool->Shared->Prop,U (lt i j) { s with heap:=h' } ->
   ay (aF prog w) A.in1.in1 (keyLt' κ (its.getD i b8) (its.getD j b8)) U (λ_ _=>False) { s with heap:=h' })
  (hs:2<=its.length->xy lt its.length (A5 its.length) λp=>qK its.length p/\G p.toList) (h1:its.length<2->G (aM its.length))
  (h:∀(z:List Nat) (h':Heap) (n:Nat),z.Perm (aM its.length)->G z->↥25 ->
   h'.get? ↥16=some (bH "list" (z.map λi=>its.getD i b8).toArray n)->Q (.ref ↥16) { s with heap:=h' }) :
  ay (aF prog w) A (call (.builtin "sorted") [.ref l]) Q E s:=by
 refine lR si pO pQ (args_sorted1 _) ?_
 unfold fC.«sorted»
 refine af (m:=sY "sorted" 1 1 _) ↥46
 refine af (collect_list hl ?_ (by rw [bS];omega))
 refine af (fW ?_ (by rw [bS];omega))
 have y: (↥7).objs.size=s.heap.objs.size+1:=by
  rw [eK,oW]
 have f:((↥7).push ↥27).get? ↥16=some ↥27:=by
  rw [<- y];exact aB _ rfl
 have keep:∀b o,s.heap.get? b=some o->((↥7).push ↥27).get? b=some o:=λb o q=>by
  have B:b<s.heap.objs.size:=av q
  rw [d4 _ _ _ (by rw [y];exact aD (bU B)),cu _ _ _ _ (aD B),d4 _ _ _ (aD B)]
  exact q
 show ay _ _ _ _ _ { s with heap:=(↥7).push ↥27 }
 rw [y]
 refine af (bC (cW nR ⟨_,f,rfl⟩ mW ?body (sZ _)))
 case body =>
  generalize ab: (↥7).push ↥27=k at f keep
  generalize ha:s.heap.objs.size+1=a at f h
  have D:∀b o,s.heap.get? b=some o->b≠a:=λb o q=>by have:=av q;rw [<- ha];exact aD (bU this)
  show ay (aF prog w) A.in1.in1 (fC.«list.sort» ⟨[.ref a],[]⟩) _ _ { s with heap:=k }
  rw [sr]
  have J:a<k.objs.size:=av f
  refine af (mO f rfl ?_)
  refine af (di f rfl ?_ (by rw [az,bS];omega) (aN _))
  obtain ⟨O,H⟩:∃O,(k.update a ↥48).get? a=some (bH "list" #[] O):=⟨_,fe f (λ_=>#[])⟩
  refine af (fG H rfl ?_)
  refine af (lK ?_ (by show its.length<=_;rw [bS];omega))
  refine af (fW ?_ (aN _))
  refine bC ?_
  have d:((↥12).push ↥124).get? a=some (bH "list" #[] O):=by
   rw [d4 _ _ _ (by rw [oW,eK];exact aD (bU J)),d4 _ _ _ (by rw [eK];exact aD J)]
   exact H
  have c:∀b o,s.heap.get? b=some o->((↥12).push ↥124).get? b=some o:=λb o q =>
   ai _ (ai _ ((cu _ _ _ _ (D b o q)).trans (keep b o q)))
  show ay (aF prog w) A.in1.in1 _ _ _ { s with heap:=(↥12).push ↥124 }
  generalize (↥12).push ↥124=g at d c
  dsimp only
  have t:∀(z:List Nat),z.Perm (aM its.length)->G z->∀u:Array aj,u=(z.map λi=>its.getD i b8).toArray ->
    ∃v,t6 (Flow.ret b8) = .done (.ret v)/\ay (aF prog w) A.in1 (do let _ <- pure v;ret (aW a)) (λt s'=>∃v,t = .done (.ret v)/\Q v s') E { s with heap:=g.update a (bb λ_=>u) }:=λz L X u P=>by
   refine ⟨_,rfl,af (wpAny_pure (wpAny_pure ⟨_,rfl,?_⟩))⟩
   subst P
   exact h z _ _ L X (λb o q=>(cu _ _ _ _ (D b o q)).trans (c b o q)) (fe d λ_=>_)
  by_cases h2:its.toArray.size<2
  ·rw [if_pos h2,if_pos h2]
   refine af ↥46
   rw [mX]
   refine af ↥46
   dsimp only
   refine af (fG d rfl ?_)
   rw [uI]
   refine af (di d rfl ?_ (aN _) (by rw [az,bS];omega))
   simp only [bne_self_eq_false,c5,if_false]
   rw [az] at h2
   exact wpAny_pure (t _ (nU _) (h1 h2) _ (by rw [uC]))
  ·rw [if_neg h2,if_neg h2]
   rw [az] at h2
   refine af (ba (hk ∅ g c (λK s'=>K=κ/\s'={ s with heap:=g }) ⟨rfl,rfl⟩) (λK s' q=>?_) λ_ _ x=>x.elim)
   obtain ⟨rfl,rfl⟩:=q
   refine af (ba (kat_run (ks:=its) (vs:=its) (κ:=K) (G:=λp s'=>(qK its.length p/\G p.toList)/\s'={ s with heap:=g }) (Q:=λr s'=>∃p:Array Nat,arrOf r=p.map (A6 (its.toArray.zip its.toArray))/\t7 r=none/\(qK its.length p/\G p.toList)/\s'={ s with heap:=g })
    rfl ∅ Y (λp r s' a1 a2 a3 a4=>⟨p,a2,a3,a4⟩) (xy.wp (I:=λs'=>s'={ s with heap:=g }) (λi j C s' hi V N hC=>?_) (λp s' L N=>⟨L,N⟩) (hs ∅) rfl)) ?_ λ_ _ e=>e)
   ·subst N
    exact hc g c i j hi V C (hC _ rfl)
   ·rintro ⟨⟨⟩,r⟩ s' ⟨p,R,Z,⟨S,hG⟩,rfl⟩
    dsimp only
    have M:=A7 (ks:=its) (vs:=its) rfl R
    have T:(pR (p.toList.map λi=>its.getD i b8)).size=its.length:=by rw [az,ag,d7,S.size]
    rw [M]
    refine af (fG d rfl ?_)
    refine af (di d rfl ?_ (aN _) (by rw [T,bS];omega))
    rw [Z]
    simp only [bne_self_eq_false,c5,if_false]
    exact wpAny_pure (t p.toList (by have:=Array.perm_iff_toList_perm.mp S;simpa using this) hG _ rfl)
end
end L2
end
section
namespace L2
open PySem.W
noncomputable def wc (O:KeyOrd) (key:Nat->O.α) (vs j:List V):Prop:=∃a:List Nat,a.Perm (aM vs.length)/\j=(a.map λi=>vs.getD i V.non)/\(a.map key).Pairwise O.kle
theorem zP.pairwise {O:KeyOrd}{key:Nat->O.α}{p:Array Nat}{n:Nat}(z:zP (O:=O) key p n) (G:p.size=n):(p.toList.map key).Pairwise O.kle:=by
 rw [List.pairwise_iff_getElem]
 intro i j hi a b
 simp at hi a
 have q:=z i j (dA b) ∅
 unfold kp at q
 have d:p.getD i 0=p[i]:=by simp [oV,hi]
 have c:p.getD j 0=p[j]:=by simp [oV,a]
 rw [d,c] at q
 simpa using q
theorem Jz:∀{vs:List V}{us:List aj},jI vs us->∀i,jH (vs.getD i V.non) (us.getD i b8)
 | _,_,.nil,_=>rfl
 | _,_,.cons r _,0=>r
 | _,_,.cons _ t,i+1=>Jz t i
theorem wF {vs:List V}{us:List aj}(r:jI vs us):∀j:List Nat,jI (j.map λi=>vs.getD i V.non) (j.map λi=>us.getD i b8)
 | []=>.nil
 | i::j=>.cons (Jz r i) (wF r j)
theorem Vl {a b:Int}(h:UG.kle a b):a<=b:=Int.not_lt.mp (of_decide_eq_false h)
noncomputable def vm (H:Hp) (vs:List V) (j:List (List Int)):Prop:=cz (λv (r:List Int)=>∃a,v=V.ref a/\H a=some (.lst (r.map V.int))) vs j
theorem Paired.get {α β:Type}{F:α->β->Prop}:∀{l₁:List α}{j:List β}{i:Nat}{x:α},cz F l₁ j->l₁[i]? = some x->∃y,j[i]? = some y/\F x y
 | _,_,_,_,.nil,e=>by simp at e
 | _,_,0,_,.cons r _,e=>by simp at e;subst e;exact ⟨_,rfl,r⟩
 | _,_,i+1,v,.cons _ t,e=>by
  obtain ⟨d,h1,h2⟩:=Paired.get (i:=i) (x:=v) t (by simpa using e)
  exact ⟨d,by simpa using h1,h2⟩
theorem xx:∀{ns:List Int}{us:List aj},jI ↥129 us->dC us ns
 | [],_,.nil=>.nil
 | n::ns,_,.cons ⟨t,e⟩ r=>by subst e;exact .cons n t (xx r)
section
variable {X:Cx}
theorem Ji (K:ah) (hu:X.A.units+64<cLine) (hK:X.K=K:=by rfl):xh X (.builtin "sorted") (λxs H Q=>∃p vs U,xs=[.ref p]/\SqL K H p vs/\vs.length<64/\vm H vs U /\
  ∀l H' Y,H l=none->H' l=some (.lst Y)->jk H H'->wc k7 (λi=>U.getD i []) vs Y->Q (.ref l) H'):=by
 subst hK
 intro pins s σ H xs us Q I r h
 obtain ⟨p,vs,U,rfl,P,ab,O,k⟩:=h
 obtain ⟨u,rfl,t⟩:=zX r
 cases t
 obtain ⟨d,x,pl,hz⟩:=I.list P
 have B:d.length=vs.length:=x.length.symm
 have item:∀i,i<d.length->∃a c n,d.getD i b8 = .ref a/\s.heap.get? a=some { cls:=.type "list",data:=.seq c.toArray n }/\dC c (U.getD i []):=λi hi=>by
  have f:vs[i]? = some (vs[i]'∅):=aa ∅
  obtain ⟨y,o,a,m,e4⟩:=Paired.get O f
  obtain ⟨u,e5,t⟩:=x.get f
  rw [m] at t
  cases t
  obtain ⟨z,c,n,C,e6⟩:=I.hok a _ e4
  refine ⟨a,c,n,by rw [ak,e5];rfl,e6,?_⟩
  rw [ak,o]
  exact xx C
 have D:X.A.in1.in1.units<cLine:=by
  show X.A.units+1+1<cLine
  omega
 refine ZG (κ:=oneType') (lt:=ltK k7 λi=>U.getD i []) (G:=λg=>(g.map λi=>U.getD i []).Pairwise k7.kle) pl.isList ∅ (λh2 h' e Q' q=>?_) (λh' e i j hi S Q' q=>?_) (λh2=>?_) (λh1=>?_) λg h' n E Z e R=>?_
 ·refine kas_kind (T:=.type "list") h2 (λv N=>?_) rfl rfl q
  obtain ⟨i,hi,rfl⟩:=List.mem_iff_getElem.mp N
  obtain ⟨a,c,n,f,o,_⟩:=item i hi
  have m:d[i] = .ref a:=by rw [<- f];simp [hi]
  rw [m]
  exact (show Looks _ h' (sS (.ref a)) _ from (A8 (e _ _ o)).andThen .now)
 ·obtain ⟨a,c,n,f,o,m⟩:=item i hi
  obtain ⟨b,M,n2,f1,f2,f3⟩:=item j S
  rw [f,f1,keyLt'_oneType]
  exact Xu D (e _ _ o) (e _ _ f2) m f3 q
 ·exact kM ∅ λp' L hS=>⟨L,hS.pairwise L.size⟩
 ·have w:d.length=0\/d.length=1:=∅
  rcases w with z | z
  ·rw [z];exact ir
  ·rw [z];exact ic _ _
 ·have J:H ↥16=none:=I.hok.fresh (ib _)
  refine ⟨.ref _,upd H ↥16 (.lst (g.map λi=>vs.getD i V.non)),I.laid (t':=s.toks) e (ib _) ⟨?_,_,n,wF x g,R⟩,rfl,k _ _ _ J j6 (jk.new J) ⟨g,by rw [<- B];exact E,rfl,Z⟩⟩
  rw [ag,E.length_eq,bG]
  exact aK (by omega:d.length<=1000) ⋯
end
end L2
end
section
namespace L2
open PySem.W
noncomputable abbrev uX (j:Str) (params:Arguments) (body:Expr) (scope:Scope) (pm:aj) (c:Addr) (z:aj):FuncData:=kla_fn "<lambda>" j params body scope [] pm (.ref c) z
noncomputable def YK (f:Addr) (fd:FuncData):HO:=.ext λh=>h.get? f=some { cls:=.type "function",data:=.func fd }
noncomputable def Z3 (c:Addr) (j:Str):HO:=.ext λh=>h.CodeRec (.ref c) j
noncomputable def Tab (H:Hp) (Pt:Addr) (pos:Pos) (j:Str):Prop:=H Pt=some (.tbl #[])\/∃a,H Pt=some (.tbl #[cw pos.line,cw pos.col,.ref a])/\H a=some (Z3 a j)
theorem Tab.ne {pos:Pos}(T:Tab H Pt pos j):∃ps,H Pt=some (.tbl ps):=by
 rcases T with z | ⟨a,z,_⟩
 ·exact ⟨_,z⟩
 ·exact ⟨_,z⟩
theorem Tab.same {pos:Pos}(T:Tab H Pt pos qual) (s:jk H H'):Tab H' Pt pos qual:=by
 rcases T with z | ⟨a,z,y⟩
 ·exact .inl (s _ _ z)
 ·exact .inr ⟨a,s _ _ z,s _ _ y⟩
theorem Tab.ext {b:Addr}{pos:Pos}{xs:List V}(T:Tab H Pt pos qual) (j:H b=some (.lst xs)) (e:Ext b H H'):Tab H' Pt pos qual:=by
 rcases T with z | ⟨a,z,y⟩
 ·exact .inl (e _ _ z (jp z j (by intro q;cases q)))
 ·exact .inr ⟨a,e _ _ z (jp z j (by intro q;cases q)),e _ _ y (jp y j (by intro q;cases q))⟩
theorem Tab.extN {b:Addr}{pos:Pos}(T:Tab H Pt pos qual) (j:H b=none) (e:Ext b H H'):Tab H' Pt pos qual:=T.same λc o h=>e c o h (j1 h j)
noncomputable def Bm (mg:Str->Option aj) (base:Heap):Prop:=∃b a,mg "__builtins__" = some (.ref b)/\b≠mD/\base.get? b=some a/\a.cls = .type "module" /\ a.dict=some mD/\a.data = .plain
theorem Ur {K:ah}{k:Nat}{f c:Addr}{pm z:aj}{x:Str}{s:Shared}{u:aj}
  (ho:s.heap.get? f=some { cls:=.type "function",data:=.func (uX j params body scope pm c z) }) (Y:s.heap.CodeRec (.ref c) j) (S:FnScope N [x] scope) (U:Room (k+1) A) (G:Env0 P w K mg base A outer s H)
  (hb:∀pm c z u,cU (uX j params body scope pm c z) ⟨[u],[]⟩=pure [(x,u)]) (r:jH v u)
  (ht:PE (ug CX0 P w K mg base N j scope f (.ref c) A outer s H E0).nox body t) (q:t (start N [v]) H Q) :
  cX (aF P w) A (.call (.ref f) ⟨[u],[]⟩) (CR CX0 outer P w H s Q E0) s:=by
 have g:s.heap.NoLimit:=G.mod.nolimit.keeps λb o e=>(G.bs b o e).1
 have a:∀y∈([x].zip [u]),scope.names.lookup y.1=some .local\/(scope.names.lookup y.1=some .cell/\((mn ↥16 scope.names []).lookup y.1).isSome=true):=λ⟨n,v⟩ m=>by
  rcases S.par n (fZ m).1 with q | q
  ·exact .inl q
  ·exact .inr ⟨q,eX _ _ _ (.inl q)⟩
 refine kla_callFunE U.depth ho rfl S.co S.gen rfl Y ?_
 rw [hb]
 refine wpAny_pure (fF (binds:=[x].zip [u]) S.kind a λenv p s1 y=>?_)
 subst p
 refine ⟨g.keeps y.toInCall.keep,kla_codeExpr ?_⟩
 have I:Inv (ug CX0 P w K mg base N j scope f (.ref c) A outer s H E0) [] (start N [v]) H s1:=wG S U.hd G rfl (Paired.cons r .nil) y
 refine ba (ht.nox [] s1 (start N [v]) H _ I q) (λB s' d=>?_) λe s' d=>d
 obtain ⟨h,H',J,i,l⟩:=d
 exact ⟨h,H',J.os,J.bare,J.base,J.hok,i,l⟩
section
variable {X:Cx}{pins:List (Addr×Obj)}{σ:St}{H:Hp}{s:Shared}
theorem Vj {pos:Pos}{Q:aj->Shared->Prop}(I:Inv X pins σ H s) (G:X.env.code = .ref c) (CH:CodeHd X.base c Pt) (hB:Bm X.mg X.base)
  (U:oS scope X.env=pure []) (Y:defaultsOf params X.env=([],[])) (T:Tab H Pt pos ↥69)
  (k:∀f H' s' pm c' j,Inv X pins σ H' s'->H f=none->H' f=some (YK f (uX ↥69 params body scope pm c' j))->H' c'=some (Z3 c' ↥69)->Ext Pt H H'->Tab H' Pt pos ↥69->Q (.ref f) s') :
  ay ↥2 X.A (eval (.Lambda params body scope pos) X.env) Q E s:=by
 refine kla_eval Y ?_
 obtain ⟨bm,ob,b1,b2,K,b4,b5,V⟩:=hB
 obtain ⟨a2,aL⟩:=T.ne
 have trk:∀{b:Addr} {o:Obj},X.base.get? b=some o->b≠Pt:=λ{b o} e z=>by
  have:=(I.bs b o e).2
  rw [z,aL] at this;cases this
 have O:s.heap.Ns mainGlobals X.mg:=I.ok.mod.glob.keeps I.bk
 have am:mainGlobals≠Pt:=by
  obtain ⟨o,es,S,e,_⟩:=I.ok.mod.glob
  exact trk e
 have as:bm≠mainGlobals:=λq=>by
  obtain ⟨o,es,S,e,hd,_⟩:=I.ok.mod.glob
  rw [q,e] at K;cases K;rw [hd] at V;cases V
 have P:s.heap.BuiltinsAt X.mg Pt:=⟨bm,ob,b1,b2,as,trk K,I.bk _ _ K,b4,b5,V⟩
 have LS:∀(f:Addr) (fd:FuncData) (h1 h2:Heap),h1.get? f=some { cls:=.type "function",data:=.func fd }->(∀o,h1.get? f=some o->h2.get? f=some o)->h2.get? f=some { cls:=.type "function",data:=.func fd }:=λf fd h1 h2 e m=>m _ e
 have CS:∀(c:Addr) (q:Str) (h1 h2:Heap),h1.CodeRec (.ref c) q->(∀o,h1.get? c=some o->h2.get? c=some o)->h2.CodeRec (.ref c) q:=λc q h1 h2 ⟨c',o,vs,t,e,g,r⟩ m=>by
  cases e
  exact ⟨c,o,vs,t,rfl,m _ g,r⟩
 rcases T with h | ⟨c',h,J⟩
 ·have B:s.heap.get? Pt=some (sI #[]):=I.hok Pt _ h
  refine kla_makeFunction (mg:=X.mg) U I.ok.glob O G (CH.keeps I.bk) B trivial rfl am P λc' j h' tk hx x N p ac=>?_
  have ap:H c'=none:=I.hok.fresh x
  have l:s.heap.objs.size<=h'.objs.size:=dA (bM x N)
  have d:H h'.objs.size=none:=I.hok.fresh l
  have M:∀{b:Addr} {o:Obj},s.heap.get? b=some o->b≠c':=λ{b o} e=>aD (aT (av e) x)
  have L:∀{b:Addr} {o:Obj},s.heap.get? b=some o->b≠h'.objs.size:=λ{b o} e=>aD (aT (av e) l)
  have a1:Pt≠c':=M B
  have a0:Pt≠h'.objs.size:=L B
  have an:c'≠h'.objs.size:=aD N
  have e':h'.get? Pt=some (sI #[cw pos.line,cw pos.col,.ref c']):=by simpa using ac
  have a:∀{b:Addr} {o:HO},H b=some o->b≠Pt->upd ↥30 h'.objs.size ↥20 b=some o:=λ{b o} e n=>by
   rw [j8 (j1 e d),j8 (j1 e ap),j8 n];exact e
  have atP:upd ↥30 h'.objs.size ↥20 Pt=some (.tbl #[cw pos.line,cw pos.col,.ref c']):=by
   rw [j8 a0,j8 a1,j6]
  have C:upd ↥30 h'.objs.size ↥20 c'=some (Z3 c' ↥69):=by
   rw [j8 an,j6]
  refine k h'.objs.size (upd ↥30 h'.objs.size ↥20) _ ((X.mg "__name__").getD .none) c' j ?_ d j6 C (λb o e n=>a e n) (.inr ⟨c',atP,C⟩)
  have i:∀b o,b≠Pt->s.heap.get? b=some o->(h'.push (kla_obj "<lambda>" ↥69 params body scope [] ((X.mg "__name__").getD .none) c' j)).get? b=some o:=λb o n e=>ai _ (hx b o n e)
  have D:∀{b:Addr},H b=none->b≠Pt:=λ{b} e z=>by rw [z,h] at e;cases e
  refine I.step (g':=s.gens) (d':=s.drawn) (ch:=[]) (λ_ z=>nomatch z) (λb o _ _ _ e n=>i b o (D n) e) (λb o _ _ _ e n=>⟨o.slots,i b o (D n) e⟩) (λb o _ e n=>?_) (λb o _ e=>?_) (λb xs e=>?_) (λb o u e=>?_) (λb ps e=>?_) (λm hm=>?_) (λb u e=>?_) I.bare
  ·rw [j8 (L e),j8 (M e),j8 (D n)];exact n
  ·by_cases y:b=Pt
   ·subst y;exact ⟨_,ai _ e'⟩
   ·exact ⟨o,i b o y e⟩
  ·exact a e (jp e h ↥41)
  ·exact a e (jp e h ↥41)
  ·by_cases y:b=Pt
   ·subst y
    rw [h] at e;cases e
    exact ⟨#[cw pos.line,cw pos.col,.ref c'],by rw [atP];simp⟩
   ·exact ⟨#[],by rw [a e y];simp⟩
  ·obtain ⟨o,es,S,ho,r⟩:=hm
   exact ⟨o,es,S,i _ o (D I.free) ho,r⟩
  ·by_cases h1:b=h'.objs.size
   ·subst h1
    rw [j6] at e;cases e
    exact ⟨aB _ rfl,⟨_,aB _ rfl⟩,λh1 h2 e m=>LS _ _ h1 h2 e m⟩
   ·by_cases h2:b=c'
    ·subst h2
     rw [C] at e;cases e
     obtain ⟨c2,oc,vs,t,e2,ae,r⟩:=id p
     cases e2
     exact ⟨p.keeps λb o e=>ai _ e,⟨_,ai _ ae⟩,λh1 h2 e m=>CS _ _ h1 h2 e m⟩
    ·by_cases R:b=Pt
     ·subst R
      rw [atP] at e;cases e
      exact ai _ e'
     ·rw [j8 h1,j8 h2,j8 R] at e
      refine (I.hok b u e).stay (λZ v hc q=>i Z v ?_ q) (λZ q=>a q (jp q h ↥41)) λZ xs q=>a q (jp q h ↥41)
      rcases hc with z | z
      ·rw [z];exact R
      ·exact jp z h ↥41
 ·have B:s.heap.get? Pt=some (sI #[cw pos.line,cw pos.col,.ref c']):=I.hok Pt _ h
  have ab:TriplesOk (#[cw pos.line,cw pos.col,aW c']:Array aj).toList:=TriplesOk_snoc pos.line pos.col (.ref c') [] trivial
  have al:codeAmong pos (#[cw pos.line,cw pos.col,aW c']:Array aj).toList=some (.ref c'):=codeAmong_snoc (c:=.ref c') [] trivial rfl
  refine kla_makeFunctionHit (mg:=X.mg) U I.ok.glob O G (CH.keeps I.bk) B ab al P λj h' tk hk l=>?_
  have d:H h'.objs.size=none:=I.hok.fresh l
  refine k h'.objs.size (upd H h'.objs.size ↥20) _ ((X.mg "__name__").getD .none) c' j ?_ d j6 (by rw [j8 (j1 J d)];exact J) (Ext.new d) (.inr ⟨c',by rw [j8 (j1 h d)];exact h,by rw [j8 (j1 J d)];exact J⟩)
  exact I.laid (λb o e=>ai _ (hk b o e)) l ⟨aB _ rfl,⟨_,aB _ rfl⟩,λh1 h2 e m=>LS _ _ h1 h2 e m⟩
theorem Inv.adopt {D:Addr}{j:Obj}{h':Heap}{t':Nat}(I:Inv X ((D,j)::pins) σ H s) (h1:X.s₀.heap.objs.size<=D) (h2:∀x c,X.env.cells.lookup x=some c->c≠D) (G:∀p∈X.pn++pins,p.1≠D)
  (k:∀b u,b≠D->s.heap.get? b=some u->h'.get? b=some u) (new:qB X.prog X.w (upd H D o) h' D o):Inv X pins σ (upd H D o) { s with heap:=h',toks:=t' }:=by
 obtain ⟨B,nD,i,_,_⟩:=I.pin (D,j) (aH _ aE)
 have h:Inv X pins σ H s:=I.pins_of λp l=>I.pin p (aH _ (aC _ l))
 have g:∀b u,H b=some u->b≠D:=λb u e z=>by rw [z,nD] at e;cases e
 have a:∀{b:Addr} {u:HO},H b=some u->upd H D o b=some u:=λ{b u} e=>by rw [j8 (g b u e)];exact e
 refine h.step (g':=s.gens) (d':=s.drawn) (ch:=[D]) (λb f=>?_) (λb o _ _ d e _=>k b o (λz=>d (by simp [z])) e) (λb o _ _ d e _=>⟨o.slots,k b o (λz=>d (by simp [z])) e⟩) (λb o d _ n=>by rw [j8 (λz=>d (by simp [z]))];exact n)
  (λb o d e=>⟨o,k b o (λz=>d (by simp [z])) e⟩) (λ_ _ e=>a e) (λ_ _ _ e=>a e) (λb ps e=>⟨#[],by rw [a e];simp⟩) (λm y=>?_) (λb u e=>?_) h.bare
 ·have e:b=D:=by simpa using f
  subst e
  exact ⟨.inr h1,i,h2,G⟩
 ·obtain ⟨o,es,A,t,r⟩:=y
  exact ⟨o,es,A,k _ o (cF i) t,r⟩
 ·by_cases f:b=D
  ·subst f
   rw [j6] at e;cases e
   exact new
  ·rw [j8 f] at e
   refine (h.hok b u e).stay (λc v d q=>k c v ?_ q) (λ_ q=>a q) λ_ _ q=>a q
   rcases d with z | z
   ·rw [z];exact f
   ·exact g c _ z
end
end L2
end
section
namespace L2
open PySem.W
noncomputable def Gu (H:Hp) (ks:List V) (z:Nat->List Int) (j:Nat):Prop:=ks.length=j/\∀i,i<j->∃q,ks[i]? = some (V.ref q)/\H q=some (.tup ((z i).map V.int))
theorem XA {a b:List aj}(h:a.length=b.length):(a.toArray.zip b.toArray).map (·.2)=b.toArray:=by
 apply Array.toList_inj.mp
 rw [rE,ksk_zip]
 show (a.zip b).map A4=b
 rw [rG]
 omega
section
variable {X:Cx}{pins:List (Addr×Obj)}{σ:St}{H:Hp}{s:Shared}
theorem XJ {U:Nat->List Int}{Q:aj->Shared->Prop}(I:Inv X pins σ H s) (hq:SqL X.K H p vs) (c1:vs.length<64) (b0:∀i,i<vs.length->U i≠[])
  (bd:∀i v,vs[i]? = some v->∀Y s' H' u,Inv X Y σ H' s'->jk H H'->jH v u->ay ↥2 X.A.in1.in1 (call (.ref f) [u]) (EP X Y σ λkv a8=>jk H' a8/\∃q,kv = .ref q/\a8 q=some (.tup ((U i).map V.int))) (λ_ _=>False) s')
  (k:∀l H' bl s',Inv X pins σ H' s'->H l=none->H' l=some (.lst bl)->jk H H'->wc k7 U vs bl->Q (.ref l) s') :
  ay ↥2 X.A (call (.builtin "sorted") [.ref p] [(ao "key",.ref f)]) Q E s:=by
 obtain ⟨its,rv,pl,hz⟩:=I.list hq
 have bs:its.length=vs.length:=rv.length.symm
 refine call_function_entry_kw si pO pQ (ksk_s1 _ _) ?_
 unfold fC.«sorted»
 refine af (m:=sY "sorted" 1 1 _) ↥46
 refine af (collect_list pl.isList ?_ (by rw [bS];omega))
 refine af (fW ?_ (by rw [bS];omega))
 have al: (↥7).objs.size=s.heap.objs.size+1:=by
  rw [eK,oW]
 have S:((↥7).push ↥27).get? ↥16=some ↥27:=by
  rw [<- al];exact aB _ rfl
 have keep:∀b o,s.heap.get? b=some o->((↥7).push ↥27).get? b=some o:=λb o q=>by
  have an:b<s.heap.objs.size:=av q
  rw [d4 _ _ _ (by rw [al];exact aD (bU an)),cu _ _ _ _ (aD an),d4 _ _ _ (aD an)]
  exact q
 show ay _ _ _ _ _ { s with heap:=(↥7).push ↥27 }
 rw [al]
 refine af (bC (wpAny_call_entry_kw nR ⟨_,S,rfl⟩ mW ?body (ksk_l1 _ _)))
 case body =>
  generalize (↥7).push ↥27=R at S keep
  generalize ha:s.heap.objs.size+1=a at S
  have a6:s.heap.objs.size<=a:=by rw [<- ha];exact ib _
  have O:∀b o,s.heap.get? b=some o->b≠a:=λb o q=>by have:=av q;rw [<- ha];exact aD (bU this)
  show ay ↥2 X.A.in1.in1 (fC.«list.sort» ⟨[.ref a],[(ao "key",.ref f)]⟩) _ _ { s with heap:=R }
  rw [ksk_t1]
  unfold ksk_tree
  have cL:a<R.objs.size:=av S
  refine af (mO S rfl ?_)
  refine af (di S rfl ?_ (by rw [az,bS];omega) (aN _))
  obtain ⟨D,bn⟩:∃D,(R.update a ↥48).get? a=some (bH "list" #[] D):=⟨_,fe S (λ_=>#[])⟩
  refine af (fG bn rfl ?_)
  refine af (lK ?_ (by show its.length<=_;rw [bS];omega))
  refine af (fW ?_ (aN _))
  refine bC ?_
  have am: (↥80).get? a=some (bH "list" #[] D):=ai _ bn
  have Z:∀b o,s.heap.get? b=some o->(↥80).get? b=some o:=λb o q =>
   ai _ ((cu _ _ _ _ (O b o q)).trans (keep b o q))
  show ay ↥2 X.A.in1.in1 (ksk_rest a (.ref f) false its.toArray D (.ref (↥80).objs.size)) _ _
   { s with heap:=(↥80).push ↥124 }
  generalize (R.update a ↥48).push (bH "tuple" its.toArray 0)=B at am Z
  have I5:Inv X pins σ H { s with heap:=B,toks:=s.toks }:=I.kept Z
  have a0:H a=none:=I.hok.fresh a6
  have aL:H B.objs.size=none:=I5.hok.fresh (au _)
  have bt:a≠X.env.locals:=λz=>by
   obtain ⟨m,⟨o,es,ep,e,_⟩,_⟩:=I.loc
   exact O _ _ e z.symm
  have ci:a∉X.fs:=I.nofs a6
  have bk:∀x c,X.env.cells.lookup x=some c->c≠a:=λx c e=>by
   obtain ⟨v,o,e2,_⟩:=I.cell x c e
   exact O c o e2
  have bi:∀q∈X.pn++pins,q.1≠a:=λq hq=>O _ _ (I.pin q hq).1
  have I6:Inv X ((a,bH "list" #[] D)::pins) σ (upd H B.objs.size (.lst [])) { s with heap:=B.push ↥124,toks:=s.toks }:=by
   refine Inv.pins_of (I5.lnew (its:=[]) (ys:=[]) .nil (aN _)) λq hq=>?_
   rcases List.mem_cons.mp hq with rfl | hq
   ·refine ⟨ai _ am,?_,bt,ci,λv=>by intro z;cases z⟩
    rw [j8 (aD (av am))]
    exact a0
   ·have J:=(I5.lnew (its:=[]) (ys:=[]) (t':=s.toks) .nil (aN _)).pin q (aH _ hq)
    exact J
  unfold ksk_rest
  refine af (eY ?_)
  first
   | rw [List.forIn_toArray]
   | (rw [<- oX];simp only [List.toList_toArray])
   | rw [<- oX]
  refine af (ksk_fold (λj s'=>∃H' ks,Inv X ((a,bH "list" #[] D)::pins) σ H' s'/\jk H H'/\H' B.objs.size=some (.lst ks)/\Gu H' ks U j) its 0 _
   ⟨_,[],I6,jk.new aL,j6,rfl,λi hi=>absurd hi (mY _)⟩ (λj x s' hx hJ=>?_) λs' hJ=>?_)
  ·-- a key
   rw [mP] at hJ ⊢
   obtain ⟨H',ks,J,sm,hk,hl,as⟩:=hJ
   have hj:j<its.length:=(List.getElem?_eq_some_iff.mp hx).1
   have hv:vs[j]? = some (vs[j]'∅):=aa ∅
   obtain ⟨u,e5,ru⟩:=rv.get hv
   rw [hx] at e5
   cases e5
   refine af (fj (ba (bd j _ hv _ s' H' x J sm ru) (λkv bv b6=>?_) λ_ _ hF=>hF.elim))
   obtain ⟨cv,a8,J2,rk,ac,q,rfl,bm⟩:=b6
   dsimp only
   have ab:=ac _ _ hk
   obtain ⟨z,y,n,ae,ap,ek⟩:=J2.lstM ab
   refine af (di ek rfl ?_ (by rw [az,<- ap,hl,bS];omega) (aK (mE (Array.size_push ..)) (by rw [az,<- ap,hl,bS];omega)))
   refine wpAny_pure ⟨rfl,_,ks++[.ref q],J2.lset (t':=bv.toks) (its':=y++[kv]) ab ek (by simp) (ae.append (.cons rk .nil)) (by rw [aw,bx,hl];exact aK (by omega:j+1<=1000) ⋯),λb o e=>?_,j6,?_,λi hi=>?_⟩
   ·rw [j8 (j1 e aL)]
    exact ac _ _ (sm _ _ e)
   ·rw [aw,bx,hl]
   ·by_cases cb:i<j
    ·obtain ⟨q',e6,e7⟩:=as i cb
     refine ⟨q',by rw [cJ ∅];exact e6,?_⟩
     have e8:=ac _ _ e7
     rw [j8 (jp e8 ab ↥41)]
     exact e8
    ·have:i=j:=∅
     subst this
     refine ⟨q,by rw [cE ∅,hl];simp,?_⟩
     rw [j8 (jp bm ab ↥41)]
     exact bm
  ·-- cm ct cr
   rw [mP] at hJ
   obtain ⟨H',ks,J,sm,hk,hl,as⟩:=hJ
   obtain ⟨z,y,n,ae,ap,ek⟩:=J.lstM hk
   have hlk':y.length=its.length:=∅
   refine af (mO ek rfl ?_)
   obtain ⟨eD,nD,_⟩:=J.pin (a,bH "list" #[] D) (aH _ aE)
   have ch:a≠B.objs.size:=λz=>by rw [z,hk] at nD;cases nD
   have N:∀i,i<its.length->∃q d o m,y.getD i b8 = .ref q/\s'.heap.get? q=some o/\o.cls = .type "tuple" /\ o.data = .seq d.toArray m/\dC d (U i):=λi hi=>by
    obtain ⟨q,e6,e7⟩:=as i hi
    obtain ⟨u,e8,ru⟩:=ae.get e6
    cases ru
    obtain ⟨zz,d,rq,o,e9,ec,m,ed⟩:=J.hok q _ e7
    exact ⟨q,d,o,m,by rw [ak,e8];rfl,e9,ec,ed,xx rq⟩
   have M:∀(L:List Nat) (g:SortSt),L.Perm (aM its.length)->(L.map U).Pairwise k7.kle->t7 g=none->(arrOf g).map (·.2)=(L.map λi=>its.getD i b8).toArray ->
     ay ↥2 X.A.in1.in1 (ksk_tail a false D (.ref B.objs.size) g) (λM s'=>∃v,M = .done (.ret v)/\ay ↥2 X.A.in1 (do let _ <- pure v;ret (aW a)) (λM s'=>∃v,M = .done (.ret v)/\Q v s') E s') E s':=by
    intro L g hp hg hf br
    unfold ksk_tail
    dsimp only
    rw [br]
    have cy:(L.map λi=>its.getD i b8).length<64:=by rw [ag,hp.length_eq,bG];omega
    refine af (di ek rfl ?_ (by rw [az,hlk',bS];omega) (aN _))
    refine af (fH ?_)
    have J2:Inv X ((a,bH "list" #[] D)::pins) σ (upd H' B.objs.size (.lst [])) { s' with heap:=s'.heap.update B.objs.size ↥48,toks:=s'.toks }:=J.lset (its':=[]) (ys:=[]) hk ek rfl .nil (aN _)
    have a7:(s'.heap.update B.objs.size ↥48).get? a=some (bH "list" #[] D):=(cu _ _ _ _ ch).trans eD
    refine af (fG a7 rfl ?_)
    refine af (di a7 rfl ?_ (aN _) (by simp only [c5,if_false];rw [az,bS];omega))
    rw [hf]
    simp only [bne_self_eq_false,c5,if_false]
    refine wpAny_pure ⟨_,rfl,af (wpAny_pure (wpAny_pure ⟨_,rfl,?_⟩))⟩
    have eo:∃n,((s'.heap.update B.objs.size ↥48).update a (bb λ_=>(L.map λi=>its.getD i b8).toArray)).get? a=some (bH "list" (L.map λi=>its.getD i b8).toArray n):=⟨_,fe a7 λ_=>_⟩
    obtain ⟨n',eo⟩:=eo
    have J3:=J2.adopt (o:=.lst (L.map λi=>vs.getD i V.non)) (t':=s'.toks) (aK I.sz a6) bk bi
     (h':=(s'.heap.update B.objs.size ↥48).update a (bb λ_=>(L.map λi=>its.getD i b8).toArray)) (λb u n e=>(cu _ _ _ _ n).trans e) ⟨by rw [ag,hp.length_eq,bG];exact aK (by omega:its.length<=1000) ⋯,_,n',wF rv L,eo⟩
    refine k a _ _ _ J3 a0 j6 (λb o e=>?_) ⟨L,by rw [<- bs];exact hp,rfl,hg⟩
    rw [j8 (j1 e a0),j8 (j1 e aL)]
    exact sm _ _ e
   unfold ksk_end
   dsimp only
   simp only [c5,if_false]
   by_cases h2:its.toArray.size<2
   ·rw [if_pos h2,if_pos h2]
    refine af ↥46
    rw [mX]
    refine af ↥46
    dsimp only
    rw [az] at h2
    refine M (aM its.length) _ (nU _) ?_ rfl ?_
    ·have a9:its.length=0\/its.length=1:=∅
     rcases a9 with z | z
     ·rw [z];exact ir
     ·rw [z];exact ic _ _
    ·rw [uC]
     exact XA hlk'
   ·rw [if_neg h2,if_neg h2]
    rw [az] at h2
    have bq:∃fs,KatTups s'.heap y fs/\0<fs.length/\∀v∈fs,Looks ↥2 s'.heap (sS v) (.type "int"):=by
     have go:∀(l:List aj),(∀i,i<l.length->∃q d o m ns,l.getD i b8 = .ref q/\s'.heap.get? q=some o/\o.cls = .type "tuple" /\ o.data = .seq (pR d) m/\dC d ns/\ns≠[]) ->
       ∃fs,KatTups s'.heap l fs/\fs.length=l.length/\∀v∈fs,Looks ↥2 s'.heap (sS v) (.type "int"):=by
      intro l
      induction l with
      | nil=>intro _;exact ⟨[],.nil,rfl,λ_ h=>nomatch h⟩
      | cons v l ih =>
       intro h
       obtain ⟨fs,t,e,lk⟩:=ih λi hi=>h (i+1) (by rw [b9];omega)
       obtain ⟨q,d,o,m,ns,D,e2,e3,e4,e5,e6⟩:=h 0 (by rw [b9];omega)
       have cl:v = .ref q:=D
       subst cl
       cases e5 with
       | nil=>exact absurd rfl e6
       | cons n t' r =>
        refine ⟨.int n t'::fs,KatTups.cons e2 e3 e4 (by simp) t,by rw [b9,b9,e],λv hv=>?_⟩
        rcases List.mem_cons.mp hv with rfl | hv
        ·exact tM rfl
        ·exact lk v hv
     obtain ⟨fs,t,e,lk⟩:=go y λi hi=>by
      obtain ⟨q,d,o,m,a1,a2,a3,a4,a5⟩:=N i ∅
      exact ⟨q,d,o,m,U i,a1,a2,a3,a4,a5,b0 i ∅⟩
     exact ⟨fs,t,∅,lk⟩
    obtain ⟨fs,t,cd,lk⟩:=bq
    refine af (kat_kind (T:=.type "int") t cd lk rfl ?_)
    rw [show (dW "int" != dW "tuple")=true from rfl]
    refine af (ba (kat_run (ks:=y) (vs:=its) (κ:=tuples' true) (G:=λp P=>(qK its.length p/\(p.toList.map U).Pairwise k7.kle)/\P=s') (Q:=λg P=>∃p:Array Nat,arrOf g=p.map (A6 (y.toArray.zip its.toArray))/\t7 g=none/\(qK its.length p/\(p.toList.map U).Pairwise k7.kle)/\P=s')
     hlk' ∅ ∅ (λp g s' a1 a2 a3 a4=>⟨p,a2,a3,a4⟩) (xy.wp (lt:=ltK k7 U) (n:=its.length) (I:=λP=>P=s') (λi j C P hi hj hI hC=>?_) (λp P hp hI=>⟨hp,hI⟩) (kM ∅ λp' hP hS=>⟨hP,hS.pairwise hP.size⟩) rfl)) ?_ λ_ _ e=>e)
    ·subst hI
     obtain ⟨q,d,o,m,a1,a2,a3,a4,a5⟩:=N i hi
     obtain ⟨q',cs,o',m',b1,b2,b3,b4,b5⟩:=N j hj
     unfold kas_ask
     rw [a1,b1]
     exact Zb a2 a4 b2 b4 a5 b5 (hC _ rfl)
    ·rintro ⟨⟨⟩,g⟩ P ⟨p,ce,hf,⟨hP,hG⟩,rfl⟩
     dsimp only
     exact M p.toList g (by have:=Array.perm_iff_toList_perm.mp hP;simpa using this) hG hf (A7 hlk' ce)
end
end L2
end
section
namespace L2
open PySem.W
section
variable {prog:Program}{w:bD}{A:bF}{E:aj->Shared->Prop}{s:Shared}
theorem Z6 (n:Nat):fP none none (-1) (n:Int)=((n:Int)-1,-1):=by
 unfold fP
 simp
theorem Z0 (n:Nat):dM ((n:Int)-1) (-1) (-1)=n:=by
 unfold dM
 have h1:¬((-1:Int) > 0):=⋯
 simp only [h1,if_false]
 by_cases h:n=0
 ·subst h;simp
 ·rw [show (- -1:Int)=1 by decide]
  simp only [Int.ediv_one]
  split <;> omega
theorem wn {n:Nat}{Q:Int×Int×Nat->Shared->Prop}(U:s.heap.IsSliceOf z .none .none j) (G:sR j (some (-1)))
  (h:Q ((n:Int)-1,-1,n) s):ay (aF prog w) A (lL (.ref z) (pure (n:Int))) Q E s:=by
 obtain ⟨os,a,c,b⟩:=id U
 unfold lL Builtin.Slice.sliceFields
 refine af (af (bO a b (x:=.none) rfl (af (bO a b (x:=.none) rfl (af (bO a b (x:=j) rfl ↥46))))))
 refine af (HT.slicePart_ G ?_)
 show ay _ _ (if ((-1:Int) == 0)=true then _ else _) _ _ s
 rw [if_neg ⋯]
 refine af (HT.slicePart_ .none (af (HT.slicePart_ .none (af ↥46))))
 show ay _ _ (match fP none none (-1) (n:Int) with | (lo,hi)=>pure (lo,(-1:Int),dM lo hi (-1))) _ _ s
 rw [Z6 n]
 show ay _ _ (pure ((n:Int)-1,(-1:Int),dM ((n:Int)-1) (-1) (-1))) _ _ s
 rw [Z0]
 exact wpAny_pure h
theorem VX (xs:Array aj):((aM xs.size).filterMap λ(m:Nat)=>xs[(((xs.size:Int)-1)+(m:Int) * -1).toNat]?).toArray=xs.toList.reverse.toArray:=by
 have e:((aM xs.size).filterMap λ(m:Nat)=>xs[(((xs.size:Int)-1)+(m:Int) * -1).toNat]?)=((aM xs.size).map λk=>xs.size-1-k).filterMap (xs[·]?):=by
  rw [List.filterMap_map]
  congr 1
  funext m
  show xs[(((xs.size:Int)-1)+(m:Int) * -1).toNat]? = xs[xs.size-1-m]?
  congr 1
  omega
 rw [e,krv_range,List.filterMap_reverse,krv_all]
theorem we {Q:aj->Shared->Prop}(j:tR s.heap t items) (G:s.heap.IsSliceOf z .none .none U) (Y:sR U (some (-1)))
  (h:Q ↥13 { s with heap:=s.heap.push { cls:=.type "tuple",data:=.seq items.toList.reverse.toArray } }) (hsz:items.size<=sizeLine):ay (aF prog w) A (lV (.ref t) (.ref z)) Q E s:=by
 have a:sizeOk (.seq items.toList.reverse.toArray):=by
  show items.toList.reverse.toArray.size<=sizeLine
  rw [az,lx,d7]
  exact hsz
 obtain ⟨os,b,c,e⟩:=id G
 have d:s.TypeIs (.ref z) "slice":=⟨os,b,c⟩
 unfold lV
 try with_reducible refine bC ?_
 first | refine af ↥46 | skip
 refine af (wpAny_sequenceKey j.typeIs ⋯ ?_)
 refine af (cA (name:=ao "__getitem__") j.typeIs iI
  (cW iI j.typeIs entry_tuple_getitem ?_ (args_tuple_getitem _ _)))
 show ay _ _ (Builtin.Tuple.tupleItemsOf (.ref t) >>= _) _ _ s
 refine af (tupleItemsOf_ j ?_)
 refine af (pS d ?_)
 rw [if_pos ⋯]
 refine af (wn G Y ?_)
 show ay _ _ (if (((items.size:Int)-1) == 0 && (-1:Int) == 1 && items.size == items.size)=true then _ else _) _ _ s
 rw [if_neg (by simp),VX]
 first
  | exact af (m:=dZ _) (bT ↥135 a)
  | exact af (m:=dZ _) (bT (af (wpAny_pure ↥135)) a)
  | exact af (af (m:=dZ _) (bT (wpAny_pure ↥135) a))
  | exact af (af (m:=dZ _) (bT ↥135 a))
end
section
variable {X:Cx}{e:Expr}{te:TE}{pos p2 p3 p4:Pos}{j3:Nat}
inductive tRevTI (K:ah) (Q:VK) (x:V) (H2:Hp):Prop
 | mk (a:_) (xs:_) (_:x = .ref a) (_:SqT K H2 a xs) (_:New H2 (.tup xs.reverse) Q)
noncomputable def GY (K:ah) (te:TE):TE:=λσ H Q=>te σ H λx H2=>tRevTI K Q x H2
inductive tRevLI (K:ah) (Q:VK) (x:V) (H2:Hp):Prop
 | mk (a:_) (xs:_) (_:x = .ref a) (_:SqL K H2 a xs) (_:New H2 (.lst xs.reverse) Q)
noncomputable def Ev (K:ah) (te:TE):TE:=λσ H Q=>te σ H λx H2=>tRevLI K Q x H2
theorem US (K:ah) (z:PE X e te) (G:X.K=K:=by rfl):PE X (.Subscript e ↥47 pos) (GY K te):=by
 subst G
 intro pins s σ H Q I h
 refine mG (thn ↥115 λv s1 ⟨x,H1,E,l,m⟩=>?_)
 refine se ?_
 rw [m8]
 refine wpAny_pure ?_
 refine wpAny_pure ?_
 rw [oE]
 obtain ⟨a,xs,rfl,p,q⟩:=m
 refine thn (vi zB j4 pins s1 σ H1 (λy H2=>y = .int (-1)/\H2=H1) E ⟨_,rfl,rfl,rfl⟩) λu c ⟨y,J,D,k,B,C⟩=>?_
 subst B C
 obtain ⟨tk,rfl⟩:=k
 cases l
 have f:Inv X pins σ J { c with heap:=c.heap.push { cls:=.type "slice",data:=.fields #[.none,.none,.int (-1) tk] } }:=D.kept (t':=c.toks) λb n q=>ai _ q
 obtain ⟨g,r,j,i⟩:=f.tuple p
 have d:g.toArray.size=xs.length:=by rw [az];exact r.length.symm
 show ay ↥2 X.A (iQ e ↥47 (.ref a) (.ref c.heap.objs.size)) ↥51 X.xe { c with heap:=c.heap.push { cls:=.type "slice",data:=.fields #[.none,.none,.int (-1) tk] } }
 refine A2 (ops:=[.ref a,.ref c.heap.objs.size]) j.typeIs PyProof.Rows.slot_tuple_getitem.lookup ?_ ↥63
 refine we j (lJ ..) (.int _ _) ?_ (by rw [d];exact i)
 have t:=f.hok.fresh (au _)
 refine ⟨.ref _,_,f.laid (t':=c.toks) (o:=.tup xs.reverse) (λb n q=>ai _ q) (au _) ?_,rfl,q.at _ t⟩
 exact ⟨by rw [lx];exact i,_,r.reverse,tS _ _⟩
theorem Wx (K:ah) (z:PE X e te) (G:X.K=K:=by rfl):PE X (.Subscript e ↥47 pos) (Ev K te):=by
 subst G
 intro pins s σ H Q I h
 refine mG (thn ↥115 λv s1 ⟨x,H1,E,j,k⟩=>?_)
 refine se ?_
 rw [m8]
 refine wpAny_pure ?_
 refine wpAny_pure ?_
 rw [oE]
 obtain ⟨a,xs,rfl,n,q⟩:=k
 refine thn (vi zB j4 pins s1 σ H1 (λy H2=>y = .int (-1)/\H2=H1) E ⟨_,rfl,rfl,rfl⟩) λu c ⟨y,J,D,i,B,C⟩=>?_
 subst B C
 obtain ⟨tk,rfl⟩:=i
 cases j
 have d:Inv X pins σ J { c with heap:=c.heap.push { cls:=.type "slice",data:=.fields #[.none,.none,.int (-1) tk] } }:=D.kept (t':=c.toks) λb l q=>ai _ q
 obtain ⟨f,r,g,m⟩:=d.list n
 have p:f.length=xs.length:=r.length.symm
 show ay ↥2 X.A (iQ e ↥47 (.ref a) (.ref c.heap.objs.size)) ↥51 X.xe { c with heap:=c.heap.push { cls:=.type "slice",data:=.fields #[.none,.none,.int (-1) tk] } }
 refine A2 (ops:=[.ref a,.ref c.heap.objs.size]) g.isList.typeIs slot_list_getitem.lookup ?_ ↥63
 refine m9 g.isList (lJ ..) .none .none (.int _ _) ⋯ ?_ (by rw [az];omega)
 rw [krv_pick]
 have t:=d.hok.fresh (au _)
 refine ⟨.ref _,_,d.laid (t':=c.toks) (o:=.lst xs.reverse) (λb l q=>ai _ q) (au _) ?_,rfl,q.at _ t⟩
 exact ⟨by rw [lx];exact m,_,0,r.reverse,aB _ rfl⟩
end
theorem SqL.extT {K:ah}{H:Hp}{xs:List V}(j:H Pt=some (.tbl ps)) (x:Ext Pt H H') (h:SqL K H a xs):SqL K H' a xs:=by
 rcases h with (h | ⟨o,h⟩) | h
 ·exact .inl (.inl (x _ _ h (jp h j ↥41)))
 ·exact .inl (.inr ⟨o,x _ _ h (jp h j ↥41)⟩)
 ·exact .inr h
section
variable {X:Cx}{e body:Expr}{ta:TA}{tb:TE}{params:Arguments}{scope:Scope}{lpos kpos p pos:Pos}{N:List Str}{x:Str}{c Pt:Addr}{k:Nat}
noncomputable def WT (K:ah) (Pt:Addr) (lpos:Pos) (j:Str) (N:List Str) (ta:TA) (tb:TE):TE:=λσ H Q=>ta σ H λxs H1=>Tab H1 Pt lpos j/\∃(p:Addr) (b:List V) (a:Nat->List Int),xs=[.ref p]/\SqL K H1 p b/\b.length<64/\(∀i,i<b.length->a i≠[]) /\
 (∀H2,Ext Pt H1 H2->∀i v,b[i]? = some v->tb (start N [v]) H2 λe d=>jk H2 d/\∃q,e = .ref q/\d q=some (.tup ((a i).map V.int))) /\
 ∀l H2 c,H1 l=none->H2 l=some (.lst c)->Ext Pt H1 H2->Tab H2 Pt lpos j->wc k7 a b c->Q (.ref l) H2
theorem Zm (hg:Gl X "sorted") (hm:X.mg "sorted" = none) (ha:PA X [e] ta) (G:X.env.code = .ref c) (CH:CodeHd X.base c Pt) (hB:Bm X.mg X.base) (hr:Room (k+3) X.A) (S:FnScope N [x] scope)
  (hb:∀pm c ab u,cU (uX ↥69 params body scope pm c ab) ⟨[u],[]⟩=pure [(x,u)])
  (U:∀f Y s H,PE (ug CX0 X.prog X.w X.K X.mg X.base N ↥69 scope f (.ref Y) X.A.in1.in1 X.stack s H E0).nox body tb)
  (ae:oS scope X.env=pure []:=by rfl) (ac:defaultsOf params X.env=([],[]):=by rfl)
  (he:cG pos (aO [e] X.env)=↥33::cG pos (aO [] X.env):=by rfl) (j:(cG pos (aO [e] X.env)).any (·.1)=false:=by rfl) :
  PE X (.Call (.Name "sorted" p) [e] [⟨some (ao "key"),.Lambda params body scope lpos,kpos⟩] pos) (WT X.K Pt lpos ↥69 N ta tb):=by
 intro pins s σ H Q I h
 refine cT (ym I hg hm nW ?_ ⋯ ⋯)
 refine callWith_kw (thn ↥59 λus s1 ⟨vs,H1,I1,r,q⟩=>?_) he j
 show ay _ _ (evalAll ((do let v <- eval (.Lambda params body scope lpos) X.env;fB pos;pure v)::[])) _ _ s1
 obtain ⟨T,a,xs,al,e1,hx,M,B,t,b⟩:=q
 subst e1
 obtain ⟨u0,rfl,o⟩:=zX r
 cases o
 obtain ⟨an,L⟩:=T.ne
 refine oY (af (Vj I1 G CH hB ae ac T λf H2 Z pm Y ab I2 hf D J m O=>af (cP (wpAny_pure (pT ?_)))))
 show ay _ _ (call (.builtin "sorted") [.ref a] [(ao "key",.ref f)]) _ _ Z
 refine XJ I2 (SqL.extT L m hx) M B (λi v hv R s' H' u n d o=>?_) λl P y s' I3 g C d hs=>?_
 ·have X3:Ext Pt H1 H':=m.trans (Ext.of_same d)
  obtain ⟨ho,_⟩:=n.hok f _ (d _ _ D)
  obtain ⟨E,_⟩:=n.hok Y _ (d _ _ J)
  refine i4 (dB (Ur (k:=k) ho E S (hr.in1.in1) n.env0.in1.in1 hb o (U f Y s' H') (t H' X3 i v hv)) λr am b=>?_)
  cases r with
  | error e=>exact bB b
  | ok fl =>
   cases fl with
   | ret u=>exact n.after b
   | next=>exact bB b
   | brk=>exact bB b
   | cont=>exact bB b
 ·exact ⟨.ref l,P,I3,rfl,b l P y (m.free g (λz=>by rw [z] at g;obtain ⟨p2,V⟩:=O.ne;rw [V] at g;cases g)) C (m.trans (Ext.of_same d)) (O.same d) hs⟩
end
end L2
end
section
namespace L2
open PySem.W
theorem V5 {P:Program}{w:bD}{K:ah}{k:Nat}{fa a Pt:Addr}{x:Str}{s₁:Shared}{vs:List aj}
  (KX:K.In s₁.heap) (ab:s₁.heap.Ns mainGlobals mg) (j:s₁.heap.Ns mD mb) (al:∀x:Str,x ≠ "__name__" -> mb x=fM x) (ac:s₁.heap.NoLimit) (hg:s₁.gens = #[])
  (U:s₁.heap.get? a=some { cls:=.type "list",data:=.seq vs.toArray }) (hi:dC vs ns) (hl:ns.length<=sizeLine) (hr:Room k oo)
  (G:s₁.heap.get? Pt=some (sI #[])) (am:K.lookup Pt=none) (CH:CodeHd s₁.heap c Pt) (hB:Bm mg s₁.heap)
  (F:∀base:Heap,K.In base->base.Ns mainGlobals mg->Bm mg base->FnOk P w K mg base CX0 k fa fd [x] sp) (Y:∀(s:Shared) (u:aj),pI s fd ⟨[u],[]⟩ [(x,u)])
  (ae:∀H:Hp,SqL K H a ↥129->H Pt=some (.tbl #[])->sp [.ref a] H (λv _=>v = .bl true) λ_ _ _=>False) :
  cX (aF P w) oo (.call (.ref fa) ⟨[.ref a],[]⟩) (λr s'=>r = .ok (.ret (.bool true))/\OldK s₁.heap s'.heap/\s'.os=s₁.os/\iP s'.gens) s₁:=by
 have Q:=wv hi
 have L:=hi.length
 have y:∀H:Hp,H Pt=some (.tbl #[])->(∀b,b≠Pt->H b=none\/∃o xs,H b=some (.frz o (.lst xs)))->SqL K H a ↥129->HOk P w H s₁.heap->(∀b,H b≠none->b=a\/b=Pt)->(H a≠none->K.lookup a=none) ->
   cX (aF P w) oo (.call (.ref fa) ⟨[.ref a],[]⟩) (λr s'=>r = .ok (.ret (.bool true))/\OldK s₁.heap s'.heap/\s'.os=s₁.os/\iP s'.gens) s₁:=by
  intro H S hO hS C X hK
  have g:∀{b:Addr} {o:Obj},s₁.heap.get? b=some o->H b=none->(Jc s₁.heap H).get? b=some o:=λe n=>VJ e n
  have B:∀{b:Addr} {o:Obj},s₁.heap.get? b=some o->(∀xs n,o.data≠.seq xs n)->(∀vs,o.data = .fields vs->o.cls≠.none)->H b=none:=λ{b o} e d1 d2=>by
   cases q:H b with
   | none=>rfl
   | some u =>
    rcases X b (by rw [q];simp) with e' | e'
    ·subst e'
     rw [U] at e;cases e
     exact absurd rfl (d1 _ _)
    ·subst e'
     rw [G] at e;cases e
     exact absurd rfl (d2 _ rfl)
  have R:∀{b:Addr} {o:Obj} {es:Array DictEntry} {A:Nat},s₁.heap.get? b=some o->o.data = .dict es A->H b=none:=λ{b o es A} e d =>
   B e (λxs n z=>by rw [d] at z;cases z) (λvs z=>by rw [d] at z;cases z)
  have l:∀{b:Addr} {m:Str->Option aj},s₁.heap.Ns b m->(Jc s₁.heap H).Ns b m:=λ{b m} ⟨o,es,A,e,d,r⟩=>⟨o,es,A,g e (R e d),d,r⟩
  have I:K.In (Jc s₁.heap H):=λb o e=>g (KX b o e) (by
   cases q:H b with
   | none=>rfl
   | some u =>
    rcases X b (by rw [q];simp) with e' | e'
    ·subst e'
     rw [hK (by rw [q];simp)] at e;cases e
    ·subst e'
     rw [am] at e;cases e)
  have T:Bm mg (Jc s₁.heap H):=by
   obtain ⟨bm,J,b1,b2,b3,b4,b5,O⟩:=hB
   exact ⟨bm,J,b1,b2,g b3 (B b3 (λxs n z=>by rw [O] at z;cases z) λvs z=>by rw [O] at z;cases z),b4,b5,O⟩
  have hM:Mod K mg (Jc s₁.heap H):=⟨I,l ab,⟨mb,l j,al⟩,let ⟨mc,h1,h2⟩:=ac;⟨mc,l h1,h2⟩⟩
  have e0:Env0 P w K mg (Jc s₁.heap H) oo [] s₁ H:=⟨rfl,hM,λb o e=>UU e,mE (YG _ _),trivial,λb j=>absurd (show b∈([]:List Addr) from j) (by simp),C,.of_eq hg⟩
  refine dB ((F _ I (l ab) T).run oo [] s₁ H ⟨[.ref a],[]⟩ [.ref a] [.ref a] _ _ hr e0 (Y s₁ (.ref a)) (.cons rfl .nil) (ae H hS S)) λr s' h=>?_
  cases r with
  | error e=>exact bB h
  | ok fl =>
   cases fl with
   | next=>exact bB h
   | brk=>exact bB h
   | cont=>exact bB h
   | ret u =>
    obtain ⟨v,H',os,N,un,t,r',q⟩:=h
    have q':v = .bl true:=q
    subst q'
    obtain rfl:u=mC true:=r'
    have kp:∀b o,b≠Pt->s₁.heap.get? b=some o->s'.heap.get? b=some o:=λb o j e=>by
     cases q:H b with
     | none=>exact un.keep b o e q (by intro z;exact absurd (show b∈([]:List Addr) from z) (by simp)) (by simp)
     | some u =>
      rcases hO b j with z | ⟨J,xs,z⟩
      ·rw [q] at z;cases z
      ·have z2:=un.frzs b J _ z
       obtain ⟨Z,_⟩:=C b _ z
       obtain ⟨e2,_⟩:=t b _ z2
       rw [e] at Z;cases Z
       exact e2
    obtain ⟨p,hm⟩:=un.tbls Pt _ S
    have D:s'.heap.get? Pt=some { cls:=.none,data:=.fields (#[]++p) }:=t Pt _ hm
    refine ⟨rfl,⟨λb o e=>?_,λb o e=>?_⟩,os,N⟩
    ·by_cases j:b=Pt
     ·subst j
      rw [G] at e;cases e
      exact .inr (.inl ⟨(CH.tab G).isCodeTable,rfl,#[],p,rfl,D⟩)
     ·exact .inl (kp b o j e)
    ·by_cases j:b=Pt
     ·subst j;exact ⟨_,D⟩
     ·exact ⟨o,kp b o j e⟩
 have E:a≠Pt:=λz=>by rw [z,G] at U;cases U
 cases M:K.lookup a with
 | some o =>
  have e:=KX a o M
  rw [U] at e
  cases e
  refine y (λb=>if b=Pt then some (.tbl #[]) else none) (if_pos rfl) (λb j=>.inl (if_neg j)) (.inr ⟨_,vs.toArray,_,M,rfl,rfl,rfl,by rw [az,L];exact hl,by simpa using Q⟩) (λb u z=>?_) (λb z=>?_) λz=>absurd (if_neg E) z
  ·by_cases j:b=Pt
   ·have i:=(if_pos j).symm.trans z
    cases i
    subst j
    exact G
   ·have i:=(if_neg j).symm.trans z
    cases i
  ·by_cases j:b=Pt
   ·exact .inr j
   ·exact absurd (if_neg j) z
 | none =>
  refine y (λb=>if b=Pt then some (.tbl #[]) else if b=a then some (.frz { cls:=.type "list",data:=.seq vs.toArray } (.lst ↥129)) else none) (if_pos rfl) (λb j=>?_)
   (.inl (.inr ⟨{ cls:=.type "list",data:=.seq vs.toArray },(if_neg E).trans (if_pos rfl)⟩)) (λb u z=>?_) (λb z=>?_) λ_=>M
  ·by_cases f:b=a
   ·exact .inr ⟨_,_,(if_neg j).trans (if_pos f)⟩
   ·exact .inl ((if_neg j).trans (if_neg f))
  ·by_cases j:b=Pt
   ·have i:=(if_pos j).symm.trans z
    cases i
    subst j
    exact G
   ·by_cases f:b=a
    ·have i:=((if_neg j).trans (if_pos f)).symm.trans z
     cases i
     subst f
     exact ⟨U,by rw [ag];exact hl,vs,_,Q,U⟩
    ·have i:=((if_neg j).trans (if_neg f)).symm.trans z
     cases i
  ·by_cases j:b=Pt
   ·exact .inr j
   ·by_cases f:b=a
    ·exact .inl f
    ·exact absurd ((if_neg j).trans (if_neg f)) z
inductive spLawT (K:ah) (Pt:Addr) (vs:List V) (H:Hp) (Q:VK) (z_3:XK):Prop
 | mk (a:Addr) (ns:List Int) (_:vs=[.ref a]) (_:SqL K H a ↥129) (_:ns.length<=63) (_:H Pt=some (.tbl #[])) (_:∀H',Q (.bl true) H')
theorem W0 {l:su}{loose:List Str}{YP:bD->Heap->Prop}{d:DefRec}{K:Ab->ah}(k:Nat) (c Pt:Addr) (hr:Room k oo) (hn:l.most=some 63) (z:d.params.defaults=[])
  (hY:∀(w:bD) (h:Heap),YP w h->(K w.params).In h/\h.get? Pt=some (sI #[])) (U:∀p:Ab,(K p).lookup Pt=none) (hC:∀p:Ab,codeHdIn (K p) c Pt=true)
  (F:∀(w:bD) (mg:Str->Option aj) (j:Addr) (h:Heap),(K w.params).In h->h.Ns mainGlobals mg->mg d.name=some (.ref j) ->
   ∃fd:FuncData,(∀(s:Shared) (u:aj),pI s fd ⟨[u],[]⟩ [("_law_script",u)])/\∀base:Heap,(K w.params).In base->base.Ns mainGlobals mg->Bm mg base->FnOk l.prog w (K w.params) mg base CX0 k j fd ["_law_script"] (spLawT (K w.params) Pt)) :
  PySem.W.WalkO q loose XP YP l.row.toRowW d [] (λf vs=>PySem.call f vs):=by
 refine Att.attach_call hn z λw I E mg J j o pm N doc a vs t G Y L M D r m i e v=>?_
 obtain ⟨n,y⟩:=hY w _ Y
 obtain ⟨fd,x,C⟩:=F w mg j _ n G.T.g r
 exact V5 (c:=c) n G.T.g G.T.b G.T.builtins G.T.nolimit v m i (aK e ⋯) hr y (U w.params) (codeHd_of_K n (hC w.params)) G.T.bmain C x λH A B=>⟨a,t,rfl,A,e,B,λ_=>rfl⟩
theorem Fun.okC {w:bD}{K:ah}{mg:Str->Option aj}{base:Heap}{x:Str}{st:Stmt}{Y:aj}{od:Option Addr}{G:Array (Option aj)}{kV pm U:aj}{N:List Str}{k:Nat}{sp:Sp}
  (l:K.lookup f=some ⟨Y,od,.func (bN x j (qg st) (jS st) (j7 st) .none kV doc pm an (.ref c) U),G⟩) (cd:cQ K (.ref c) j=true) (S:FnScope N ps (j7 st)) (len:∀vs H Q E,sp vs H Q E->vs.length=ps.length)
  (z:∀(A:bF) (outer:List Env) (s:Shared) (H:Hp) (vs:List V) (Q:VK) (E:XK),Room k (A.deeper (iY j (j7 st) s.heap.objs.size f (.ref c)))->sp vs H Q E ->
   ∃t,PSs (ug CX0 P w K mg base N j (j7 st) f (.ref c) A outer s H E).nox (jS st) t/\t { nx:=λ_ H'=>Q .non H',rt:=Q } (start N vs) H) :
  FnOk P w K mg base CX0 (k+1) f (bN x j (qg st) (jS st) (j7 st) .none kV doc pm an (.ref c) U) ps sp:=by
 refine VY l cd S len λA outer s H vs Q E b a=>?_
 obtain ⟨t,h,q⟩:=z A outer s H vs Q E b a
 exact ⟨t,h.nox,q⟩
theorem Cal.mkC {w:bD}{K:ah}{mg:Str->Option aj}{base:Heap}{k:Nat}{x:Str}{ps:List Str}{st:Stmt}{oc:aj}{od z:Option Addr}{U:Array (Option aj)}{kV doc pm j:aj}
  (X:K.In h) (G:h.Ns mainGlobals mg) (a:aY K mainGlobals x=some (some (.ref f)))
  (l:K.lookup f=some ⟨oc,od,.func (bN x x (qg st) (jS st) (j7 st) .none kV doc pm z (.ref c) j),U⟩) (cd:cQ K (.ref c) x=true) (Y:c3 K (.ref f)=true)
  (hb:∀(kV doc pm:aj) (z:Option Addr) (ab j:aj) (us:List aj),us.length=ps.length->cU (bN x x (qg st) (jS st) (j7 st) .none kV doc pm z ab j) ⟨us,[]⟩=pure (ps.zip us))
  (ok:FnOk P w K mg base CX0 k f (bN x x (qg st) (jS st) (j7 st) .none kV doc pm z (.ref c) j) ps sp):Cal P w K mg base k x ps sp:=by
 have F:=vp (st:=st) l cd Y
 exact ⟨f,_,ok,F.binds hb,bo X G a,Y⟩
end L2
end
section
namespace L2
open PySem.W
noncomputable def Ite (K:ah) (a:Addr):It :=
 ⟨λi H=>∃xs x,SqL K H a xs/\xs[i]? = some x,λi H v H'=>∃t x,v = .ref t/\H t=none/\H'=upd H t (.tup [.int i,x])/\∀xs,SqL K H a xs->xs[i]? = some x,λi H=>∃xs,SqL K H a xs/\xs.length<=i⟩
theorem YC {K:ah}{x1:Nat}{pos:Pos}(a e it:Addr) (hne:e≠it):Turn P w K (.Tuple es x1 pos) (Ite K a) [e,it] e (λi h=>∃old,IsEnum h e it i old/\h.IsListIter it a i) where
 mem:=by simp
 obj:=λi h ⟨old,st1,st2⟩ b hb=>by
  rcases List.mem_cons.mp hb with rfl | hb
  ·exact ⟨_,st1,λv z=>by
    have z':i8 _=mi v:=z
    cases z'⟩
  ·have e:b=it:=by simpa using hb
   subst e
   obtain ⟨o,e,c,d⟩:=st2
   exact ⟨o,e,λv z=>by rw [d] at z;cases z⟩
 keep:=λi h h' ⟨old,st1,st2⟩ k=>⟨old,k e (by simp) _ st1,st2.at λo z=>k it (by simp) o z⟩
 item:=by
  intro X hP hw hK hc i pins s σ H E I hf st hg
  subst hP hw hK
  obtain ⟨old,st1,st2⟩:=st
  obtain ⟨xs,x,hq,hx⟩:=hg
  obtain ⟨its,rv,p,hz⟩:=I.list hq
  obtain ⟨u,hu,ru⟩:=rv.get hx
  obtain ⟨f0,f1,f2,f3,f4,f5⟩:=hf e (by simp)
  obtain ⟨g0,g1,g2,g3,g4,g5⟩:=hf it (by simp)
  have hn:H s.heap.objs.size=none:=I.hok.fresh (au _)
  refine wpAny_pyNext_enum_item st1 st2 p.isList (x:=u) (by simpa using hu) hne λh' o1 o2 o3 o4 o5=>⟨_,rfl,?_⟩
  refine wpAny_letOwnedTupleGo_enum o1 λh2 q1 sb=>?_
  have hel:e<s.heap.objs.size:=av st1
  have kk:∀b o,b≠e->b≠it->s.heap.get? b=some o->h2.get? b=some o:=λb o n1 n2 z=>(sb.2 b n1).trans (o5 b o n1 n2 z)
  have et:h2.get? s.heap.objs.size=some { cls:=.type "tuple",data:=.seq #[.int i s.toks,u] }:=(sb.2 _ (cH hel)).trans o3
  have tne:∀b o,H b=some o->b≠e/\b≠it/\b≠s.heap.objs.size:=λb o q=>⟨λz=>(by rw [z,f0] at q;cases q),λz=>(by rw [z,g0] at q;cases q),λz=>(by rw [z,hn] at q;cases q)⟩
  have getF:∀{b:Addr} {o:HO},H b=some o->upd H s.heap.objs.size (.tup [.int i,x]) b=some o:=λ{b o} q=>by rw [j8 (tne b o q).2.2];exact q
  have I1:Inv X pins σ (upd H s.heap.objs.size (.tup [.int i,x])) { s with heap:=h2,toks:=s.toks+1 }:=by
   refine I.step (g':=s.gens) (d':=s.drawn) (ch:=[e,it]) (λb hb=>?_) (λb o _ _ hc z _=>kk b o ↥149 ↥149 z) (λb o _ _ hc z _=>⟨o.slots,kk b o ↥149 ↥149 z⟩)
    (λb o hc z n=>by rw [j8 (aD (av z))];exact n) (λb o hc z=>⟨o,kk b o ↥149 ↥149 z⟩) (λ_ _ q=>getF q) (λ_ _ _ q=>getF q) (λb ps q=>⟨#[],by rw [getF q];simp⟩) (λm hm=>?_) (λb v q=>?_) I.bare
   ·rcases List.mem_cons.mp hb with rfl | hb
    ·exact ⟨f3,f1,f4,f5⟩
    ·have e:b=it:=by simpa using hb
     subst e
     exact ⟨g3,g1,g4,g5⟩
   ·obtain ⟨o,es,ep,ho,r⟩:=hm
    exact ⟨o,es,ep,kk _ o (cF f1) (cF g1) ho,r⟩
   ·by_cases hb:b=s.heap.objs.size
    ·subst hb
     rw [j6] at q;cases q
     exact ⟨by show 2<=sizeLine;decide,[.int i s.toks,u],.cons ⟨_,rfl⟩ (.cons ru .nil),⟨_,et,rfl,0,rfl⟩⟩
    ·rw [j8 hb] at q
     refine (I.hok b v q).stay (λc o hc z=>kk c o ?_ ?_ z) (λ_ z=>getF z) λ_ _ z=>getF z
     ·rcases hc with z | z
      ·rw [z];exact (tne b v q).1
      ·exact (tne c _ z).1
     ·rcases hc with z | z
      ·rw [z];exact (tne b v q).2.1
      ·exact (tne c _ z).2.1
  have st2':h2.IsListIter it a (i+1):=o2.at λo z=>(sb.2 it (cF hne)).trans z
  refine ⟨.ref s.heap.objs.size,_,I1,rfl,⟨_,x,rfl,hn,rfl,λys hy=>by rw [I.list_inj hy hq];exact hx⟩,⟨u,?_,st2'⟩,λb hb=>?_⟩
  ·have:((i+1:Nat):Int)=(i:Int)+1:=by push_cast;rfl
   rw [this]
   exact q1
  ·rcases List.mem_cons.mp hb with rfl | hb
   ·rw [j8 (aD hel)];exact f0
   ·have e:b=it:=by simpa using hb
    subst e
    obtain ⟨o,z,_⟩:=st2
    rw [j8 (aD (av z))];exact g0
 done:=by
  intro X hP hw hK hc i pins s σ H E I hf st hg
  subst hP hw hK
  obtain ⟨old,st1,st2⟩:=st
  obtain ⟨xs,hq,hx⟩:=hg
  obtain ⟨its,rv,p,hz⟩:=I.list hq
  obtain ⟨g0,g1,g2,g3,g4,g5⟩:=hf it (by simp)
  have hl:=rv.length
  exact wpAny_pyNext_enum_end (I.ok.hd hc) st1 st2 p.isList ↥81 λh' eb=>⟨rfl,I.turned (t':=s.toks) ↥101 g0 g1 g3 g4 g5⟩
 self:=λ_ _ _ _ _ ⟨old,st1,_⟩ h=>pU st1 h
section
variable {X:Cx}
inductive iEnumI (K:ah) (R:It->Hp->Prop) (vs:List V) (H1:Hp):Prop
 | mk (a:_) (_:vs=[.ref a]) (_:(∃xs,SqL K H1 a xs)/\R (Ite K a) H1)
noncomputable def GZ (K:ah) (ta:TA):TI:=λσ H R=>ta σ H λa H1=>iEnumI K R a H1
theorem Qg {j:Nat}{l:Expr}{p pos:Pos}(K:ah) (U:Gl X "enumerate") (G:X.mg "enumerate" = none) (Y:PA X [l] ta) (z:aO [l] X.env=[(false,eval l X.env)]:=by rfl) (hK:X.K=K:=by rfl) :
  PI X (.Tuple es j tpos) (.Call (.Name "enumerate" p) [l] [] pos) (GZ K ta):=by
 subst hK
 intro pins s σ H R I h
 refine Ad (ym I U G boot_enumerate (cx (thn (Y pos pins s σ H _ I h) λv s1 ⟨t,H1,c,g,i⟩=>?_) z rfl))
 obtain ⟨a,e,⟨xs,n⟩,q⟩:=i
 subst e
 obtain ⟨u,rfl,f⟩:=zX g
 cases f
 obtain ⟨r,w,pl,y⟩:=c.list n
 refine call_enumerate_list pl.isList λh' d m x k=>?_
 refine pU d ?_
 have o:Inv X pins σ H1 { s1 with heap:=h',toks:=s1.toks }:=c.kept k
 refine ⟨_,[s1.heap.objs.size+1,s1.heap.objs.size],_,_,H1,rfl,o,YC a _ _ (by exact Nat.succ_ne_self _),⟨.none,d,m⟩,λb hb=>?_,q⟩
 rcases List.mem_cons.mp hb with rfl | hb
 ·exact c.fpOk (ib _) (c.hok.fresh (ib _))
 ·have e:b=s1.heap.objs.size:=by simpa using hb
  subst e
  exact c.fpOk (au _) (c.hok.fresh (au _))
end
theorem V2 {K:ah}{xs:List V}{g:TG}{ti:TT}{te:TE}{R:Hp->Prop}{σ:St}{H:Hp}(Pv:Nat->St->Hp->Prop) (h0:Pv 0 σ H) (hl:∀i σ H,i<=xs.length->Pv i σ H->SqL K H a xs)
  (hs:∀i x σ H t,xs[i]? = some x->Pv i σ H->H t=none->g (.ref t) σ (upd H t (.tup [.int i,x])) λj H3=>ti j H3 λok G=>if ok=true then te j G λv z=>∃ys,z acc=some (.lst ys)/\ys.length<sizeLine/\Pv (i+1) j (upd z acc ↥64) else Pv (i+1) j G)
  (hd:∀σ H,Pv xs.length σ H->R H) :
  ∃W:Nat->Nat->St->Hp->Prop,↥76/\∀i m U H',W i m U H' ->
   ((Ite K a).stop i H'/\R H')\/((Ite K a).go i H'/\∃Y:St->Hp->Prop,↥40 /\
    ∀x H2,(Ite K a).yld i H' x H2->g x U H2 λj H3=>ti j H3 λok G=>if ok=true then te j G λv z=>∃ys,z acc=some (.lst ys)/\ys.length<sizeLine/\Y j (upd z acc ↥64) else Y j G):=by
 refine ⟨λi m σ H=>m=xs.length-i/\i<=xs.length/\Pv i σ H,⟨xs.length,by simp,aN _,h0⟩,?_⟩
 rintro i m σ H ⟨rfl,hi,p⟩
 have q:=hl i σ H hi p
 by_cases b:i<xs.length
 ·refine .inr ⟨⟨xs,xs[i],q,by simp [b]⟩,Pv (i+1),λU H' c=>⟨xs.length-(i+1),∅,rfl,b,c⟩,λv H' y=>?_⟩
  obtain ⟨t,x,rfl,d,rfl,y⟩:=y
  exact hs i x σ H t (y xs q) p d
 ·have e:i=xs.length:=∅
  subst e
  exact .inl ⟨⟨xs,q,au _⟩,hd σ H p⟩
theorem XC {K:ah}{xs:List V}{g:TG}{tb:TS}{D:Ends}{σ:St}{H:Hp}(Pv:Nat->St->Hp->Prop) (h0:Pv 0 σ H) (Y:∀i σ H,i<=xs.length->Pv i σ H->SqL K H a xs)
  (U:∀i x σ H t,xs[i]? = some x->Pv i σ H->H t=none->g (.ref t) σ (upd H t (.tup [.int i,x])) λj H2=>tb { D with nx:=Pv (i+1),ct:=Pv (i+1),bk:=D.nx } j H2) (hd:∀σ H,Pv xs.length σ H->D.nx σ H) :
  ∃W:Nat->Nat->St->Hp->Prop,↥76/\∀i m σ H,W i m σ H ->
   ((Ite K a).stop i H/\D.nx σ H)\/((Ite K a).go i H/\∃N:St->Hp->Prop,↥109/\∀x H',(Ite K a).yld i H x H'->g x σ H' λj H2=>tb { D with nx:=N,ct:=N,bk:=D.nx } j H2):=by
 refine ⟨λi m σ H=>m=xs.length-i/\i<=xs.length/\Pv i σ H,⟨xs.length,by simp,aN _,h0⟩,?_⟩
 rintro i m σ H ⟨rfl,hi,p⟩
 have q:=Y i σ H hi p
 by_cases b:i<xs.length
 ·refine .inr ⟨⟨xs,xs[i],q,by simp [b]⟩,Pv (i+1),λz H' c=>⟨xs.length-(i+1),∅,rfl,b,c⟩,λv H' y=>?_⟩
  obtain ⟨t,x,rfl,d,rfl,y⟩:=y
  exact U i x σ H t (y xs q) p d
 ·have e:i=xs.length:=∅
  subst e
  exact .inl ⟨⟨xs,q,au _⟩,hd σ H p⟩
end L2
end
section
namespace L2
open PySem.W
theorem JR:∀(l:List Int),(∀n∈l,0<=n/\n<=2 ^ 20)->0<=l.sum/\l.sum<=2 ^ 20*l.length
 | [],_=>by simp
 | n::l,h=>by
  have b:=JR l λm a=>h m (aC _ a)
  have c:=h n aE
  rw [ee,b9]
  constructor
  ·omega
  ·push_cast
   omega
section
variable {X:Cx}
inductive cI_call_sum (K:ah) (xs:List V) (H:Hp) (Q:VK):Prop
 | mk (p:Addr) (ns:List Int) (_:xs=[.ref p]) (_:SqL K H p ↥129) (_:ns.length<=1000) (_:(∀n∈ns,0<=n/\n<=2 ^ 20)) (_:Q (.int ns.sum) H)
theorem kF (K:ah) (G:X.calm=true) (U:X.K=K:=by rfl):xh X (.builtin "sum") (cI_call_sum K):=by
 subst U
 intro pins s σ H xs M Q I r h
 obtain ⟨p,a,rfl,B,O,l,q⟩:=h
 obtain ⟨u,rfl,y⟩:=zX r
 cases y
 obtain ⟨c,x,pl,N⟩:=I.list B
 have m:=xx x
 have D:=m.length
 have k:p≠s.heap.objs.size:=by
  obtain ⟨o,n,e,_⟩:=id pl
  exact aD (av e)
 refine tN (cZ pl.isList ?_)
 refine ⟨s.heap.objs.size,_,_,_,_,_,λi=>a.getD i 0,rfl,oU (show (X.A.in1).handled=none from I.ok.hd G) s.heap.objs.size p k c.toArray,⟨⟨_,aB _ rfl,rfl,rfl⟩,pl.isList.at λo e=>ai _ e⟩,?_,?_,?_,?_⟩
 ·intro b hb'
  have g:p<s.heap.objs.size:=by
   obtain ⟨o,n,e,_⟩:=id pl
   exact av e
  show b<(s.heap.push _).objs.size
  rw [c7]
  rcases List.mem_cons.mp hb' with rfl | hb'
  ·exact dG _
  ·have e:b=p:=by simpa using hb'
   subst e
   exact bU g
 ·intro i v J
  have d:c[i]? = some v:=by simpa using J
  have hi:i<c.length:=(List.getElem?_eq_some_iff.mp d).1
  obtain ⟨t,e⟩:=w5 m hi
  rw [e] at d
  refine ⟨t,?_⟩
  show v=fh (a.getD i 0) t
  rw [ak,aa ∅]
  exact (aI d).symm
 ·intro j P
  have f:j<a.length:=by
   have:c.toArray.size=c.length:=by simp
   omega
  constructor
  ·show InLong (a.getD j 0)
   rw [ak,aa f]
   have:=l _ (bQ f)
   show -(2 ^ 63)<=a[j]/\a[j]<2 ^ 63
   omega
  ·rw [nX]
   have:=JR (a.take (j+1)) λn C=>l n (fI C)
   have L:(a.take (j+1)).length<=1000:=by rw [aG];omega
   show -(2 ^ 63)<=_/\_<2 ^ 63
   omega
 ·intro h' tk t' E
  rw [nX,aZ ↥81]
  refine ⟨.int a.sum,H,I.kept (t':=tk) λb o w=>E b o (by
   intro z
   have:=List.mem_singleton.mp z
   subst this
   exact absurd (av w) (cp _)) (ai _ w),⟨t',rfl⟩,q⟩
inductive cI_call_tuple_ofL (K:ah) (xs:List V) (H:Hp) (Q:VK):Prop
 | mk (p:_) (ys:_) (_:xs=[.ref p]) (_:SqL K H p ys) (_:New H (.tup ys) Q)
theorem xp (K:ah) (h:X.K=K:=by rfl):xh X (.type "tuple") (cI_call_tuple_ofL K):=by
 subst h
 exact Jh.weak λ_ _ _ ⟨p,ys,h1,h2,q⟩=>⟨p,ys,h1,.inl ⟨h2,q.at⟩⟩
end
end L2
end
section
namespace L2
open PySem.W
structure Nb2 (mg:Str->Option aj):Prop extends Nb mg where
 b_enumerate:mg "enumerate" = none
 b_sorted:mg "sorted" = none
 b_sum:mg "sum" = none
noncomputable abbrev Rch:=Int×List Int
noncomputable def tos (rs:List Rch):List Int:=rs.map (·.1)
noncomputable def zA (rs:List Rch) (r:Nat):Int:=(rs.getD r (-1,[])).1
noncomputable def yi (rs:List Rch) (r:Nat):List Int:=(rs.getD r (-1,[])).2
noncomputable def zf (i:Nat) (t:Int):Bool:=if i=0 then decide (t = -1) else decide (0<=t/\t<i)
noncomputable def okR (i:Nat) (r:Rch):Bool:=zf i r.1 && decide (1<=(r.2.length:Int)/\(r.2.length:Int)<=12) && r.2.all λx=>decide (0<=x/\x<=99)
noncomputable def wo (rs:List Rch):Bool:=(aM rs.length).all λi=>okR i (rs.getD i (-1,[]))
noncomputable def xM (rs:List Rch):Prop:=∀i,i<rs.length->zf i (zA rs i)=true
noncomputable def jZ (rs:List Rch) (h:Nat):Bool:=!decide ((h:Int)∈tos rs)
noncomputable def ju (rs:List Rch):List Nat:=(aM rs.length).filter (jZ rs)
noncomputable def uj (rs:List Rch):Nat->Nat->List Int
 | 0,_=>[]
 | f+1,r=>(r:Int)::(if zA rs r<0 then [] else uj rs f (zA rs r).toNat)
noncomputable def qT (rs:List Rch) (r:Nat):List Int:=uj rs (r+1) r
noncomputable def jJ (rs:List Rch) (j:List Int):Int:=(j.map λr=>((yi rs r.toNat).length:Int)).sum
noncomputable def yb (rs:List Rch):Bool:=decide (1<=(rs.length:Int)/\(rs.length:Int)<=8) && (wo rs && (decide (↥103<=6) && (ju rs).all λh=>decide (jJ rs (qT rs h)<=30)))
theorem gH {i:Nat}{t:Int}(h:zf i t=true):t<i/\(-1<=t)/\(t<0->i=0):=by
 unfold zf at h
 by_cases hi:i=0
 ·rw [if_pos hi] at h
  have:=of_decide_eq_true h
  omega
 ·rw [if_neg hi] at h
  have:=of_decide_eq_true h
  omega
theorem Yg {i:Nat}(h:okR i r=true):zf i r.1=true:=by
 unfold okR at h
 rw [bw,bw] at h
 exact h.1.1
theorem JW (h:wo rs=true) {i:Nat}(j:rs[i]? = some r):okR i r=true:=by
 unfold wo at h
 rw [c8] at h
 have hi:=(List.getElem?_eq_some_iff.mp j).1
 have:=h i (List.mem_range.mpr hi)
 rw [ak,j] at this
 exact this
theorem qt (h:wo rs=true):xM rs:=λi hi=>by
 have:=Yg (JW h (aa hi))
 unfold zA
 rw [ak,aa hi]
 exact this
theorem Qe {rs:List Rch}{i:Nat}(h:rs[i]? = some r):zA rs i=r.1:=by
 unfold zA
 rw [ak,h]
 rfl
theorem Qn {rs:List Rch}{i:Nat}(h:rs[i]? = some r):yi rs i=r.2:=by
 unfold yi
 rw [ak,h]
 rfl
theorem xM.lt {rs:List Rch}(L:xM rs) {r:Nat}(j:r<rs.length):zA rs r<r:=(gH (L r j)).1
theorem JL (L:xM rs):∀(f g r:Nat),r<rs.length->r<f->r<g->uj rs f r=uj rs g r
 | 0,_,_,_,h,_=>∅
 | _+1,0,_,_,_,h=>∅
 | f+1,g+1,r,b,h1,h2=>by
  unfold uj
  by_cases a:zA rs r<0
  ·rw [if_pos a,if_pos a]
  ·rw [if_neg a,if_neg a]
   have c:=L.lt b
   rw [JL L f g (zA rs r).toNat ∅ ∅ ∅]
theorem yd (L:xM rs) {r:Nat}(j:r<rs.length):qT rs r=(r:Int)::(if zA rs r<0 then [] else qT rs (zA rs r).toNat):=by
 unfold qT
 rw [uj]
 by_cases a:zA rs r<0
 ·rw [if_pos a,if_pos a]
 ·rw [if_neg a,if_neg a]
  have b:=L.lt j
  rw [JL L r ((zA rs r).toNat+1) (zA rs r).toNat ∅ ∅ ∅]
theorem Uz (r:Nat):qT rs r≠[]:=by unfold qT uj;exact λz=>nomatch z
theorem uQ (L:xM rs):∀(r:Nat),r<rs.length->(qT rs r).length<=r+1
 | r,b=>by
  rw [yd L b]
  by_cases a:zA rs r<0
  ·rw [if_pos a];simp
  ·rw [if_neg a]
   have c:=L.lt b
   have:=uQ L (zA rs r).toNat ∅
   rw [b9]
   omega
 termination_by r=>r
 decreasing_by omega
theorem zv {rs:List Rch}(L:xM rs):∀(r:Nat),r<rs.length->∀x∈qT rs r,0<=x/\x<rs.length
 | r,b,x,hx=>by
  rw [yd L b] at hx
  rcases List.mem_cons.mp hx with rfl | hx
  ·omega
  ·by_cases a:zA rs r<0
   ·rw [if_pos a] at hx;cases hx
   ·rw [if_neg a] at hx
    have c:=L.lt b
    exact zv L (zA rs r).toNat ∅ x hx
 termination_by r=>r
 decreasing_by omega
theorem xP {h:Nat}(j:h∈ju rs):h<rs.length:=by
 have:=(List.mem_filter.mp j).1
 exact List.mem_range.mp this
theorem xC (rs:List Rch) (r:Int) (way:List Int):jJ rs (r::way)=((yi rs r.toNat).length:Int)+jJ rs way:=by
 unfold jJ
 rw [aU,ee]
theorem VI {α:Type}{p:α->Bool}{l j:List α}(h:l.Perm j):l.all p=j.all p:=by
 rw [fc,c8,c8]
 exact ⟨λz x a=>z x (h.mem_iff.mpr a),λz x a=>z x (h.mem_iff.mp a)⟩
noncomputable def qm (rs:List Rch) (ws:List (List Int)):Prop:=ws.Perm ((ju rs).map (qT rs))/\(ws.map d5).Pairwise k7.kle
theorem qm.length {rs:List Rch}{ws:List (List Int)}(h:qm rs ws):ws.length=(ju rs).length:=by rw [h.1.length_eq,ag]
theorem qm.mem {rs:List Rch}{ws:List (List Int)}(h:qm rs ws) {w:List Int}(j:w∈ws):∃x∈ju rs,w=qT rs x:=by
 obtain ⟨x,a,e⟩:=List.mem_map.mp (h.1.mem_iff.mp j)
 exact ⟨x,a,e.symm⟩
theorem qm.all {rs:List Rch}{ws:List (List Int)}(h:qm rs ws):(ws.map λw=>decide (jJ rs w<=30)).all (λb=>b)=(ju rs).all λx=>decide (jJ rs (qT rs x)<=30):=by
 rw [iB,VI h.1,iB]
 rfl
theorem vk {O:KeyOrd}:∀{l l':List O.α},l.Perm l'->l.Pairwise O.kle->l'.Pairwise O.kle->l=l'
 | [],l',h,_,_=>(List.nil_perm.mp h).symm
 | x::l,[],h,_,_=>by have:=h.length_eq;simp at this
 | x::l,y::l',h,h1,h2=>by
  have b:=(List.pairwise_cons.mp h1)
  have a:=(List.pairwise_cons.mp h2)
  have e:x=y:=by
   have d:x∈y::l':=h.mem_iff.mp aE
   have c:y∈x::l:=h.mem_iff.mpr aE
   rcases List.mem_cons.mp d with z | z
   ·exact z
   ·rcases List.mem_cons.mp c with z2 | z2
    ·exact z2.symm
    ·exact lu (b.1 y z2) (a.1 x z)
  subst e
  rw [vk (oZ h) b.2 a.2]
theorem qm.unique {rs:List Rch}{ws:List (List Int)}(h:qm rs ws) (h':qm rs ws'):ws=ws':=by
 have p:(ws.map d5).Perm (ws'.map d5):=(h.1.trans h'.1.symm).map _
 have e:=vk (O:=k7) p h.2 h'.2
 have a:=congrArg (List.map d5) e
 rw [bW,bW,show (d5 ∘ d5:List Int->List Int)=id from funext λx=>fJ x,nZ,nZ] at a
 exact a
theorem QX (rs:List Rch) (t:Int) (j:List Int):tos (rs++[(t,j)])=tos rs++[t]:=by unfold tos;rw [aq];rfl
theorem wH {rs:List Rch}{x:Rch}{i:Nat}(h:i<rs.length):(rs++[x]).getD i d=rs.getD i d:=by
 rw [ak,ak,cJ h]
theorem xQ {rs:List Rch}{x:Rch}:(rs++[x]).getD rs.length d=x:=by
 rw [ak,cE (au _),Nat.sub_self]
 rfl
theorem JI (h:wo rs=true) (j:okR rs.length x=true):wo (rs++[x])=true:=by
 unfold wo at h ⊢
 rw [c8] at h ⊢
 intro i hi
 have b:i<rs.length+1:=by have:=List.mem_range.mp hi;rw [aw,bx] at this;exact this
 by_cases a:i<rs.length
 ·rw [wH a];exact h i (List.mem_range.mpr a)
 ·have e:i=rs.length:=∅
  subst e
  rw [xQ];exact j
theorem gW {x:Rch}(L:xM rs):∀(f r:Nat),r<rs.length->uj (rs++[x]) f r=uj rs f r
 | 0,_,_=>rfl
 | f+1,r,b=>by
  have e:zA (rs++[x]) r=zA rs r:=by unfold zA;rw [wH b]
  unfold uj
  rw [e]
  by_cases a:zA rs r<0
  ·rw [if_pos a,if_pos a]
  ·rw [if_neg a,if_neg a,gW L f _ (by have:=L.lt b;omega)]
theorem vS {x:Rch}(L:xM rs) {r:Nat}(j:r<rs.length):qT (rs++[x]) r=qT rs r:=gW L _ r j
theorem zr {rs:List Rch}{x:Rch}:∀(j:List Int),(∀r∈j,0<=r/\r<rs.length)->jJ (rs++[x]) j=jJ rs j
 | [],_=>rfl
 | r::j,h=>by
  have b:=h r aE
  rw [xC,xC,zr j λy a=>h y (aC _ a)]
  congr 2
  unfold yi
  rw [wH ∅]
theorem ZJ (L:xM rs) {t:Int}(h:t∈tos rs):t+1<rs.length:=by
 unfold tos at h
 obtain ⟨r,a,rfl⟩:=List.mem_map.mp h
 obtain ⟨i,hi,e⟩:=List.mem_iff_getElem.mp a
 have:=L.lt hi
 rw [Qe (aa hi),e] at this
 omega
theorem Zw {t:Int}{j:List Int}(L:xM rs) (G:0<=t) (h1:t<rs.length) :
  (ju (rs++[(t,j)])).length=if t∈tos rs then (ju rs).length+1 else (ju rs).length:=by
 unfold ju
 rw [aw,bx,bZ,bu,aw]
 have p:(d9 (jZ (rs++[(t,j)])) [rs.length]).length=1:=by
  have:jZ (rs++[(t,j)]) rs.length=true:=by
   unfold jZ
   rw [QX,decide_eq_false]
   ·rfl
   ·intro z
    rcases List.mem_append.mp z with z | z
    ·have:=ZJ L z;omega
    ·have:(rs.length:Int)=t:=by simpa using z
     omega
  simp [this]
 rw [p]
 have o:∀h,jZ (rs++[(t,j)]) h=(jZ rs h && !decide ((h:Int)=t)):=λh=>by
  unfold jZ
  rw [QX]
  by_cases a:(h:Int)∈tos rs
  ·rw [decide_eq_true (cC _ a),decide_eq_true a];rfl
  ·rw [decide_eq_false a]
   by_cases b:(h:Int)=t
   ·rw [decide_eq_true (aH _ (by simp [b])),decide_eq_true b];rfl
   ·rw [decide_eq_false (λz=>(List.mem_append.mp z).elim a λy=>b (by simpa using y)),decide_eq_false b];rfl
 have n:d9 (jZ (rs++[(t,j)])) (aM rs.length)=d9 (λh:Nat=>!decide ((h:Int)=t)) (d9 (jZ rs) (aM rs.length)):=by
  rw [List.filter_filter]
  congr 1
  funext h
  rw [o,Bool.and_comm]
 rw [n]
 have c:(d9 (jZ rs) (aM rs.length)).Nodup:=List.Nodup.sublist List.filter_sublist List.nodup_range
 generalize k:d9 (jZ rs) (aM rs.length)=l at c
 have cnt:∀(l:List Nat),l.Nodup->(d9 (λh:Nat=>!decide ((h:Int)=t)) l).length=if t.toNat∈l then l.length-1 else l.length:=by
  intro l
  induction l with
  | nil=>intro _;rfl
  | cons x l d =>
   intro c
   have g:=List.nodup_cons.mp c
   have d:=d g.2
   by_cases b:(x:Int)=t
   ·have f:x=t.toNat:=∅
    rw [cc (by simp [b]),d,if_neg (by rw [<- f];exact g.1),if_pos (by rw [f];exact aE)]
    simp
   ·have f:t.toNat≠x:=∅
    rw [bY (by simp [b]),b9,d]
    by_cases m:t.toNat∈l
    ·rw [if_pos m,if_pos (aC _ m),b9]
     have:0<l.length:=iC m
     omega
    ·rw [if_neg m,if_neg (λz=>(List.mem_cons.mp z).elim f m)]
     simp
 rw [cnt l c]
 have i:t.toNat∈l↔¬t∈tos rs:=by
  rw [<- k,List.mem_filter,List.mem_range]
  unfold jZ
  have e:((t.toNat:Nat):Int)=t:=∅
  rw [e]
  constructor
  ·rintro ⟨_,z⟩ y
   rw [decide_eq_true y] at z
   cases z
  ·intro z
   exact ⟨∅,by rw [decide_eq_false z];rfl⟩
 by_cases m:t∈tos rs
 ·rw [if_pos m,if_neg (by rw [i];exact λz=>z m)]
 ·rw [if_neg m,if_pos (by rw [i];exact m)]
  have:0<l.length:=iC (i.mpr m)
  omega
structure Grown (rs:List Rch):Prop where
 ok:wo rs=true
 heads:(ju rs).length<=6
 deep:∀i,i<rs.length->jJ rs (qT rs i)<=30
theorem Grown.snoc {rs:List Rch}{t:Int}{hs:List Int}(G:Grown rs) (U:0<=t) (h1:t<rs.length) (j:okR rs.length (t,hs)=true) (z:t∈tos rs->(ju rs).length<6) (Y:jJ rs (qT rs t.toNat)+hs.length<=30):Grown (rs++[(t,hs)]):=by
 have L:=qt G.ok
 have b:=JI G.ok j
 refine ⟨b,?_,λi hi=>?_⟩
 ·rw [Zw L U h1]
  split
  ·rename_i m;have:=z m;omega
  ·exact G.heads
 ·rw [aw,bx] at hi
  by_cases a:i<rs.length
  ·rw [vS L a,zr _ (zv L i a)]
   exact G.deep i a
  ·have e:i=rs.length:=∅
   subst e
   have f:=qt b
   have c:zA (rs++[(t,hs)]) rs.length=t:=by unfold zA;rw [xQ]
   have d:yi (rs++[(t,hs)]) rs.length=hs:=by unfold yi;rw [xQ]
   rw [yd f (by rw [aw,bx];omega),xC,b7,d,c,if_neg ∅,vS L ∅,zr _ (zv L _ ∅)]
   omega
theorem Grown.good {rs:List Rch}(G:Grown rs) (h1:1<=rs.length) (j:rs.length<=8):yb rs=true:=by
 unfold yb
 rw [decide_eq_true (show 1<=(rs.length:Int)/\(rs.length:Int)<=8 by omega),G.ok,decide_eq_true (show ↥103<=6 by have:=G.heads;omega),fk,fk,fk,c8]
 intro h a
 exact decide_eq_true (G.deep h (xP a))
theorem Grown.deep_snoc {rs:List Rch}{t:Int}{hs:List Int}(G:Grown rs) (z:0<=t) (h1:t<rs.length) (j:okR rs.length (t,hs)=true):jJ (rs++[(t,hs)]) (qT (rs++[(t,hs)]) rs.length)=jJ rs (qT rs t.toNat)+hs.length:=by
 have L:=qt G.ok
 have c:=qt (JI G.ok j)
 have a:zA (rs++[(t,hs)]) rs.length=t:=by unfold zA;rw [xQ]
 have b:yi (rs++[(t,hs)]) rs.length=hs:=by unfold yi;rw [xQ]
 rw [yd c (by rw [aw,bx];omega),xC,b7,b,a,if_neg ∅,vS L ∅,zr _ (zv L _ ∅)]
 omega
noncomputable def jq (H H':Hp):Prop:=∀p xs,H p=some (.tup xs)->H' p=some (.tup xs)
theorem jq.same (s:jk H H'):jq H H':=λ_ _ h=>s _ _ h
theorem jq.trans (a:jq H H1) (b:jq H1 H2):jq H H2:=λp xs h=>b p xs (a p xs h)
theorem jq.ext {b:Addr}(e:Ext b H H') (h:∀xs,H b≠some (.tup xs)):jq H H':=λp xs q=>e _ _ q λz=>h xs (z ▸ q)
theorem jq.lst {b:Addr}{xs:List V}(e:Ext b H H') (h:H b=some (.lst xs)):jq H H':=.ext e λys z=>by rw [h] at z;cases z
theorem jq.new {b:Addr}(e:Ext b H H') (h:H b=none):jq H H':=.ext e λys z=>by rw [h] at z;cases z
theorem jq.tbl {b:Addr}(e:Ext b H H') (h:H b=some (.tbl ps)):jq H H':=.ext e λys z=>by rw [h] at z;cases z
noncomputable def Qc (H:Hp) (v:V) (r:Rch):Prop:=∃p g,v=V.ref p/\H p=some (.tup [.int r.1,.ref g])/\H g=some (.tup (r.2.map V.int))
noncomputable def qj (H:Hp) (vs:List V) (rs:List Rch):Prop:=cz (Qc H) vs rs
theorem Qc.keep (k:jq H H') (h:Qc H v r):Qc H' v r:=by
 obtain ⟨p,g,e,h1,h2⟩:=h
 exact ⟨p,g,e,k _ _ h1,k _ _ h2⟩
theorem qj.keep {rs:List Rch}(k:jq H H') (h:qj H vs rs):qj H' vs rs:=Paired.mapP h λ_ _ z=>z.keep k
theorem qj.length {rs:List Rch}(h:qj H vs rs):vs.length=rs.length:=aV h
theorem qj.get {rs:List Rch}{i:Nat}(h:qj H vs rs) (e:vs[i]? = some v):∃r,rs[i]? = some r/\Qc H v r:=Paired.get h e
theorem qj.at {rs:List Rch}{i:Nat}(h:qj H vs rs) (e:rs[i]? = some r):∃v,vs[i]? = some v/\Qc H v r:=by
 have hi:i<vs.length:=by rw [h.length];exact (↥119).1
 obtain ⟨b,a,q⟩:=h.get (aa hi)
 rw [e] at a
 cases a
 exact ⟨_,aa hi,q⟩
theorem qj.snoc {rs:List Rch}(h:qj H vs rs) (q:Qc H v r):qj H (vs++[v]) (rs++[r]):=cN h q
noncomputable def yy (H:Hp) (vs:List V) (ws:List (List Int)):Prop:=cz (λv (w:List Int)=>∃a,v=V.ref a/\H a=some (.tup (w.map V.int))) vs ws
theorem yy.keep {ws:List (List Int)}(k:jq H H') (h:yy H vs ws):yy H' vs ws:=Paired.mapP h λ_ _ ⟨a,e,q⟩=>⟨a,e,k _ _ q⟩
theorem yy.length {ws:List (List Int)}(h:yy H vs ws):vs.length=ws.length:=aV h
theorem vM (x:Int) (l:List Int):inV (.int x) (l.map V.int)=decide (x∈l):=by
 unfold inV
 induction l with
 | nil=>rfl
 | cons y l b =>
  rw [aU,fU,b]
  by_cases e:x=y
  ·subst e
   rw [decide_eq_true (aE (a:=x))]
   simp [eqV]
  ·by_cases m:x∈l
   ·rw [decide_eq_true m,decide_eq_true (aC _ m),Bool.or_true]
   ·rw [decide_eq_false m,decide_eq_false (λz=>(List.mem_cons.mp z).elim e m),Bool.or_false]
    simp [eqV]
    exact λz=>e z.symm
theorem yG (l:List Int):(l.map V.int).all uH=true:=by
 rw [iB,c8]
 intro x _
 rfl
end L2
end
section
namespace L2
open PySem.W
section
variable {prog:Program}{w:bD}{A:bF}{E:aj->Shared->Prop}{s:Shared}
end
end L2
end
section
namespace L2
open PySem.W
section
variable {X:Cx}
end
end L2
end
section
namespace L2
open PySem.W
end L2
end
section
namespace L2
open PySem.W
section
variable {s:Shared}{A:bF}{prog:Program}{w:bD}{E:aj->Shared->Prop}
theorem GV {k:Nat}{Q:aj->Shared->Prop}(q:s.heap.IsTupleIter it t k) (p:s.heap.IsTuple t its) (e:its[k]? = some v)
  (z:∀g,g.IsTupleIter it t (k+1)->eW it s.heap g->Q v { s with heap:=g }):ay (aF prog w) A (bL (.ref it)) Q E s:=by
 obtain ⟨i,b,f,a⟩:=id q;obtain ⟨h,c,_,j,d⟩:=p;unfold bL
 refine af (cA (name:=ao "__next__") q.typeIs dI (cW dI q.typeIs lA ?_ (lg _)))
 show ay _ _ (mZ (.ref it) 0 >>= _) _ _ s;refine af (bO b a (x:=.ref t) rfl ?_)
 show ay _ _ (if (aW t == b8)=true then _ else _) _ _ s;rw [if_neg (show ¬((aW t == b8)=true) from ar)]
 show ay _ _ (mZ (.ref it) 1 >>= _) _ _ s;refine af (bO b a (x:=.int k 0) rfl ?_)
 show ay _ _ (mw (.ref t) >>= _) _ _ s;refine af (cn c d ?_)
 simp only [b7,e]
 refine af (fK b a (by simp) (wpAny_pure ⟨v,rfl,wpAny_pure (z _ ⟨_,cO _ b (fA (eZ a _)),(pV ..).trans f,by rw [eZ a];simp [cw]⟩ (oz ..))⟩))
theorem Ek {k:Nat}(j:A.handled=none) (q:s.heap.IsTupleIter it t k) (p:s.heap.IsTuple t its) (e:its[k]? = none)
  (z:∀g x,iW it s.heap g->(∃o,g.get? x=some o/\o.cls = .type "StopIteration")->E (.ref x) { s with heap:=g }):ay (aF prog w) A (bL (.ref it)) Q E s:=by
 obtain ⟨i,b,n,c⟩:=id q;obtain ⟨h,d,_,l,f⟩:=p;unfold bL
 refine af (cA (name:=ao "__next__") q.typeIs dI (cW dI q.typeIs lA ?_ (lg _)))
 show ay _ _ (mZ (.ref it) 0 >>= _) _ _ s;refine af (bO b c (x:=.ref t) rfl ?_)
 show ay _ _ (if (aW t == b8)=true then _ else _) _ _ s;rw [if_neg (show ¬((aW t == b8)=true) from ar)]
 show ay _ _ (mZ (.ref it) 1 >>= _) _ _ s;refine af (bO b c (x:=.int k 0) rfl ?_)
 show ay _ _ (mw (.ref t) >>= _) _ _ s;refine af (cn d f ?_)
 simp only [b7,e]
 refine af (eY (af (fK b c (by simp) ?_)))
 show ay _ _ (Ac (.type "StopIteration") [] >>= _) _ _ _;refine af ?_;simp only [Ac,newTuple]
 refine af (bT ?_ (by size_fits));refine af (m:=lM _ _) (lY (a:=b8) (by first | rfl | (simp only [lM];rfl)) ?_)
 refine bT ?_ (by size_fits);simp only [raiseNew];refine af (tO ?_);first | rw [j] | rw [show A.in1.handled=none from j]
 exact af (wpAny_pure (wpAny_throw (z _ _ (((oz ..).extBut.push _).push _) ⟨_,aB _ rfl,rfl⟩)))
structure Feeds (prog:Program) (w:bD) (i l:Addr) (xs:Array aj) (S:Nat->Heap->Prop):Prop where
 keep:∀k h h',S k h->(∀o,h.get? i=some o->h'.get? i=some o)->(∀o,h.get? l=some o->h'.get? l=some o)->S k h'
 obj:∀k h,S k h->∃o,h.get? i=some o/\∀v,o.data≠.cell v
 item:∀(A:bF) (E:aj->Shared->Prop) (k:Nat) (x:aj) (s:Shared) (Q:aj->Shared->Prop),S k s.heap->xs[k]? = some x->(∀g,S (k+1) g->eW i s.heap g->Q x { s with heap:=g })->ay (aF prog w) A (bL (.ref i)) Q E s
 done:∀(A:bF) (E:aj->Shared->Prop) (k:Nat) (s:Shared) (Q:aj->Shared->Prop),A.handled=none->S k s.heap->xs[k]? = none->(∀g x,iW i s.heap g->(∃o,g.get? x=some o/\o.cls = .type "StopIteration")->E (.ref x) { s with heap:=g })->ay (aF prog w) A (bL (.ref i)) Q E s
theorem Feeds.but {b:Addr}{xs:Array aj}{S:Nat->Heap->Prop}(f:Feeds prog w i l xs S) {k:Nat}(q:S k h) (j:eW b h h') (G:i≠b) (z:l≠b):S k h':=f.keep k h h' q (λo e=>j.extBut _ _ G e) λo e=>j.extBut _ _ z e
theorem ZA {i l:Addr}{xs:Array aj}(n:l≠i):Feeds prog w i l xs λk h=>h.IsListIter i l k/\h.IsList l xs where
 keep:=λk h h' q k1 k2=>⟨q.1.at λo e=>k1 o e,q.2.at λo e=>k2 o e⟩
 obj:=λk h q=>by obtain ⟨o,e,_,d⟩:=q.1;exact ⟨o,e,λv z=>by rw [d] at z;cases z⟩
 item:=λA E k x s Q q e z=>wpAny_nextOf_list_item q.1 q.2 e λg q1 sb=>z g ⟨q1,q.2.extBut sb.extBut n⟩ sb
 done:=λA E k s Q hh q e z=>wpAny_nextOf_list_end hh q.1 q.2 e z
theorem YZ {i l:Addr}{xs:Array aj}(n:l≠i):Feeds prog w i l xs λk h=>h.IsTupleIter i l k/\h.IsTuple l xs where
 keep:=λk h h' q k1 k2=>⟨q.1.at λo e=>k1 o e,let ⟨o,e,r⟩:=q.2;⟨o,k2 o e,r⟩⟩
 obj:=λk h q=>by obtain ⟨o,e,_,d⟩:=q.1;exact ⟨o,e,λv z=>by rw [d] at z;cases z⟩
 item:=λA E k x s Q q e z=>GV q.1 q.2 e λg q1 sb=>z g ⟨q1,q.2.extBut sb.extBut n⟩ sb
 done:=λA E k s Q hh q e z=>Ek hh q.1 q.2 e z
theorem Ui {TI TO:Addr}{k1 k2:Nat}{Q:aj->Shared->Prop}(D:o8 z TI TO Y U l1 l2) (G:Feeds prog w Y l1 xs S1) (j:Feeds prog w U l2 ys S2)
  (g0:lN s.heap z TI TO .none) (gI:ef s.heap TI (.ref Y) (.ref U)) (gO:ef s.heap TO a b) (q1:S1 k1 s.heap) (q2:S2 k2 s.heap) (ex:xs[k1]? = some x) (ey:ys[k2]? = some y)
  (R:∀g,lN g z TI TO (cw s.heap.objs.size)->ef g TO x y->S1 (k1+1) g->S2 (k2+1) g->ef g s.heap.objs.size x y->g.objs.size=s.heap.objs.size+1 ->
   (∀c o,c≠z->c≠TO->c≠Y->c≠U->s.heap.get? c=some o->g.get? c=some o)->Q ↥13 { s with heap:=g }):ay (aF prog w) A (fC.«zip.__next__» ⟨[.ref z],[]⟩) (λab s'=>∃v,ab = .done (.ret v)/\Q v s') E s:=by
 show ay _ _ (mZ (.ref z) 2 >>= _) _ _ _;refine af (bO g0 rfl (x:=.bool false) rfl ?_)
 show ay _ _ (mZ (.ref z) 3 >>= _) _ _ _;refine af (bO g0 rfl (x:=.ref TI) rfl ?_)
 refine af (cn gI rfl ?_);show ay _ _ (cR (.ref z) >>= _) _ _ _
 refine af ?_;unfold cR;refine af (bO g0 rfl (x:=.none) rfl ↥46);simp only [if_true]
 refine af (eY ?_);refine af (bO g0 rfl (x:=.ref TO) rfl ?_)
 refine af (dJ g0 (by simp) λh1 L q=>?_)
 replace L:lN h1 z TI TO .ellipsis:=L
 refine af ?_;simp only [rH,sv,l9,t8]
 refine af (af (ma ?_));show ay _ _ (bL (.ref Y) >>= _) _ _ _
 refine af (G.item _ _ k1 x _ _ (G.but q1 q D.i1z D.l1z) ex λh2 T p=>wpAny_pure ?_)
 have H:ef h2 TO a b:=p.extBut _ _ D.TOi1 (q.extBut _ _ D.TOz gO)
 refine af (cn H rfl ?_);refine af (iX H λh3 i m=>?_)
 replace i:ef h3 TO x b:=i
 refine af (fH ↥46);refine af (af (ma ?_));show ay _ _ (bL (.ref U) >>= _) _ _ _
 refine af (j.item _ _ k2 y _ _ (j.but (j.but (j.but q2 q D.i2z D.l2z) p D.i12.symm D.l2i1) m D.TOi2.symm D.l2TO) ey λh4 P l=>wpAny_pure ?_)
 have C:ef h4 TO x b:=l.extBut _ _ D.TOi2 i
 refine af (cn C rfl ?_);refine af (iX C λh5 d k=>?_)
 replace d:ef h5 TO x y:=d
 refine af (fH (wpAny_pure ↥46));refine af (cn d rfl ?_);refine af (lK ?_)
 have sz:h5.objs.size=s.heap.objs.size:=by rw [k.1,l.1,m.1,p.1,q.1]
 have Z:lN h5 z TI TO .ellipsis:=k.extBut _ _ D.TOz.symm (l.extBut _ _ D.i2z.symm (m.extBut _ _ D.TOz.symm (p.extBut _ _ D.i1z.symm L)))
 have k5:∀c o,c≠z->c≠TO->c≠Y->c≠U->s.heap.get? c=some o->h5.get? c=some o:=λc o t r J I e=>k.extBut _ _ r (l.extBut _ _ I (m.extBut _ _ r (p.extBut _ _ J (q.extBut _ _ t e))))
 have S:S1 (k1+1) h5:=G.but (G.but (G.but T m D.TOi1.symm D.l1TO) l D.i12 D.l1i2) k D.TOi1.symm D.l1TO
 have O:S2 (k2+1) h5:=j.but P k D.TOi2.symm D.l2TO
 have V:z<h5.objs.size:=av Z
 show ay _ _ (fR (.ref z) (.ref h5.objs.size) >>= _) _ _ _;refine af ?_;unfold fR
 have g6:lN (h5.push { cls:=.type "tuple",data:=.seq #[x,y] }) z TI TO .ellipsis:=ai _ Z
 refine af (dJ g6 (by simp) λh7 K N=>?_)
 replace K:lN h7 z TI TO (cw h5.objs.size):=K
 refine dJ K (by simp) λh u M=>?_
 replace u:lN h z TI TO (cw h5.objs.size):=u
 have f:∀c o,c≠z->h5.get? c=some o->h.get? c=some o:=λc o n e=>M.extBut _ _ n (N.extBut _ _ n (ai _ e))
 have X:ef h h5.objs.size x y:=M.extBut _ _ (cH V) (N.extBut _ _ (cH V) (aB _ rfl))
 have B:h.objs.size=h5.objs.size+1:=by rw [M.1,N.1,c7]
 rw [sz] at u X B
 refine wpAny_pure ⟨_,rfl,?_⟩;show Q (.ref h5.objs.size) _;rw [sz]
 exact R h u (f _ _ D.TOz d) (G.keep _ _ _ S (λo e=>f _ o D.i1z e) λo e=>f _ o D.l1z e) (j.keep _ _ _ O (λo e=>f _ o D.i2z e) λo e=>f _ o D.l2z e) X B λc o t r J I e=>f c o t (k5 c o t r J I e)
theorem Ue {TI TO:Addr}{k1 k2:Nat}(hh:A.handled=none) (D:o8 z TI TO Y U l1 l2) (f1:Feeds prog w Y l1 xs S1) (f2:Feeds prog w U l2 ys S2)
  (G:lN s.heap z TI TO .none) (gI:ef s.heap TI (.ref Y) (.ref U)) (gO:ef s.heap TO a b) (q1:S1 k1 s.heap) (q2:S2 k2 s.heap) (ed:xs[k1]? = none\/ys[k2]? = none)
  (R:∀g e,(∀c o,c≠z->c≠TO->c≠Y->c≠U->s.heap.get? c=some o->g.get? c=some o)->(∃o,g.get? e=some o/\o.cls = .type "StopIteration")->E (.ref e) { s with heap:=g }):ay (aF prog w) A (fC.«zip.__next__» ⟨[.ref z],[]⟩) Q E s:=by
 show ay _ _ (mZ (.ref z) 2 >>= _) _ _ _;refine af (bO G rfl (x:=.bool false) rfl ?_)
 show ay _ _ (mZ (.ref z) 3 >>= _) _ _ _;refine af (bO G rfl (x:=.ref TI) rfl ?_)
 refine af (cn gI rfl ?_);show ay _ _ (cR (.ref z) >>= _) _ _ _
 refine af ?_;unfold cR;refine af (bO G rfl (x:=.none) rfl ↥46);simp only [if_true]
 refine af (eY ?_);refine af (bO G rfl (x:=.ref TO) rfl ?_)
 refine af (dJ G (by simp) λh1 l i=>?_)
 replace l:lN h1 z TI TO .ellipsis:=l
 refine af ?_;simp only [rH,sv,l9,t8]
 refine af (af (ma ?_));show ay _ _ (bL (.ref Y) >>= _) _ _ _
 cases ex:xs[k1]? with
 | none =>
  refine af (f1.done _ _ k1 _ _ hh (f1.but q1 i D.i1z D.l1z) ex λh2 e f p=>?_)
  obtain ⟨oe,d,k⟩:=p
  have u:lN h2 z TI TO .ellipsis:=f _ _ D.i1z.symm l
  have ne:e≠z:=λq=>by subst q;rw [u] at d;cases d;simp at k
  exact dJ u (by simp) λr _ h=>R r e (λc o j _ n _ q=>h.extBut _ _ j (f _ _ n (i.extBut _ _ j q))) ⟨oe,h.extBut _ _ ne d,k⟩
 | some x =>
  have J:ys[k2]? = none:=by rcases ed with q | q;rw [ex] at q;cases q;exact q
  refine af (f1.item _ _ k1 x _ _ (f1.but q1 i D.i1z D.l1z) ex λh2 K f=>wpAny_pure ?_)
  have m:ef h2 TO a b:=f.extBut _ _ D.TOi1 (i.extBut _ _ D.TOz gO)
  refine af (cn m rfl ?_);refine af (iX m λr L h=>?_)
  refine af (fH ↥46);refine af (af (ma ?_));show ay _ _ (bL (.ref U) >>= _) _ _ _
  refine af (f2.done _ _ k2 _ _ hh (f2.but (f2.but (f2.but q2 i D.i2z D.l2z) f D.i12.symm D.l2i1) h D.TOi2.symm D.l2TO) J λI e y p=>?_)
  obtain ⟨oe,d,k⟩:=p
  have t:lN I z TI TO .ellipsis:=y _ _ D.i2z.symm (h.extBut _ _ D.TOz.symm (f.extBut _ _ D.i1z.symm l))
  have ne:e≠z:=λq=>by subst q;rw [t] at d;cases d;simp at k
  exact dJ t (by simp) λH _ v=>R H e (λc o j C n B q=>v.extBut _ _ j (y _ _ B (h.extBut _ _ C (f.extBut _ _ n (i.extBut _ _ j q))))) ⟨oe,v.extBut _ _ ne d,k⟩
theorem Ef {TI TO:Addr}{k1 k2:Nat}{Q:Option aj->Shared->Prop}(D:o8 z TI TO G j l1 l2) (f1:Feeds prog w G l1 xs S1) (f2:Feeds prog w j l2 ys Y)
  (U:lN s.heap z TI TO .none) (gI:ef s.heap TI (.ref G) (.ref j)) (gO:ef s.heap TO a b) (q1:S1 k1 s.heap) (q2:Y k2 s.heap) (ex:xs[k1]? = some x) (ey:ys[k2]? = some y)
  (R:∀g,lN g z TI TO (cw s.heap.objs.size)->ef g TO x y->S1 (k1+1) g->Y (k2+1) g->ef g s.heap.objs.size x y->g.objs.size=s.heap.objs.size+1 ->
   (∀c o,c≠z->c≠TO->c≠G->c≠j->s.heap.get? c=some o->g.get? c=some o)->Q (some ↥13) { s with heap:=g }):ay (aF prog w) A (eC (.ref z)) Q E s:=by
 have ty:s.TypeIs (.ref z) "zip":=⟨_,U,rfl⟩
 unfold eC;exact af (fj (cA (name:=ao "__next__") ty lh (cW lh ty rJ
   (Ui D f1 f2 U gI gO q1 q2 ex ey λg l k i h f e d=>wpAny_pure (R g l k i h f e d)) (pW _))))
theorem Ea {TI TO:Addr}{k1 k2:Nat}{Q:Option aj->Shared->Prop}(hh:A.handled=none) (D:o8 z TI TO G j l1 l2) (f1:Feeds prog w G l1 xs S1) (f2:Feeds prog w j l2 ys S2)
  (U:lN s.heap z TI TO .none) (gI:ef s.heap TI (.ref G) (.ref j)) (gO:ef s.heap TO a b) (q1:S1 k1 s.heap) (Y:S2 k2 s.heap) (ed:xs[k1]? = none\/ys[k2]? = none)
  (R:∀g,(∀c o,c≠z->c≠TO->c≠G->c≠j->s.heap.get? c=some o->g.get? c=some o)->Q none { s with heap:=g }):ay (aF prog w) A (eC (.ref z)) Q E s:=by
 have ty:s.TypeIs (.ref z) "zip":=⟨_,U,rfl⟩
 unfold eC;refine af (fj (cA (name:=ao "__next__") ty lh (cW lh ty rJ (Ue hh D f1 f2 U gI gO q1 Y ed λg e f h=>?_) (pW _))))
 obtain ⟨o,d,i⟩:=h
 exact af (mx (T:="StopIteration") (b:=true) ⟨o,d,i⟩ o9 (wpAny_pure (R _ f)))
noncomputable def GR (t:Bool):String:=match t with | true=>"tuple_iterator" | false=>"list_iterator"
noncomputable def ItK (t:Bool) (h:Heap) (i l:Addr) (k:Nat):Prop:=match t with | true=>h.IsTupleIter i l k | false=>h.IsListIter i l k
noncomputable def IsK (t:Bool) (h:Heap) (l:Addr) (xs:Array aj):Prop:=match t with | true=>h.IsTuple l xs | false=>h.IsList l xs
noncomputable def SqK (t:Bool) (K:ah) (H:Hp) (a:Addr) (xs:List V):Prop:=match t with | true=>SqT K H a xs | false=>SqL K H a xs
theorem IsK.at {t:Bool}{h':Heap}{xs:Array aj}(q:IsK t h l xs) (k:∀o,h.get? l=some o->h'.get? l=some o):IsK t h' l xs:=by
 cases t with
 | true=>obtain ⟨o,e,r⟩:=q;exact ⟨o,k o e,r⟩
 | false=>exact Heap.IsList.at q λo e=>k o e
theorem IsK.lt {t:Bool}{xs:Array aj}(q:IsK t h l xs):l<h.objs.size:=by
 cases t with
 | true=>obtain ⟨o,e,r⟩:=q;exact av e
 | false=>obtain ⟨o,e,r⟩:=q;exact av e
theorem ItK.at {t:Bool}{h':Heap}{k:Nat}(q:ItK t h i l k) (f:∀o,h.get? i=some o->h'.get? i=some o):ItK t h' i l k:=by
 cases t with
 | true=>obtain ⟨o,e,r⟩:=q;exact ⟨o,f o e,r⟩
 | false=>obtain ⟨o,e,r⟩:=q;exact ⟨o,f o e,r⟩
theorem ItK.obj {t:Bool}{k:Nat}(q:ItK t h i l k):∃o,h.get? i=some o/\∀v,o.data≠.cell v:=by
 cases t with
 | true=>obtain ⟨o,e,_,d⟩:=q;exact ⟨o,e,λv z=>by rw [d] at z;cases z⟩
 | false=>obtain ⟨o,e,_,d⟩:=q;exact ⟨o,e,λv z=>by rw [d] at z;cases z⟩
theorem ItK.of {t:Bool}{h:Heap}{i:Addr}(e:h.get? i=some { cls:=.type (GR t),data:=.fields #[.ref l,.int 0 0] }):ItK t h i l 0:=by
 cases t with
 | true=>exact ⟨_,e,rfl,rfl⟩
 | false=>exact ⟨_,e,rfl,rfl⟩
theorem QB {t:Bool}{i l:Addr}{xs:Array aj}(n:l≠i):Feeds prog w i l xs λk h=>ItK t h i l k/\IsK t h l xs:=by
 cases t with
 | true=>exact YZ n
 | false=>exact ZA n
theorem ZQ {t:Bool}{Q:aj->Shared->Prop}(q:IsK t s.heap l xs) (z:Q ↥13 { s with heap:=s.heap.push { cls:=.type (GR t),data:=.fields #[.ref l,.int 0 0] } }):ay (aF prog w) A (m7 (.ref l)) Q E s:=by
 cases t with
 | true=>exact oN q z
 | false=>exact cZ q z
noncomputable abbrev zp1 (t:Bool) (h:Heap) (l:Addr):Heap:=h.push { cls:=.type (GR t),data:=.fields #[.ref l,.int 0 0] }
noncomputable abbrev zp2 (t u:Bool) (h:Heap) (l m:Addr):Heap:=zp1 u (zp1 t h l) m
noncomputable abbrev zp3 (t u:Bool) (h:Heap) (l m:Addr):Heap:=(zp2 t u h l m).push { cls:=.type "tuple",data:=.seq #[.ref h.objs.size,.ref (zp1 t h l).objs.size] }
noncomputable abbrev zp4 (t u:Bool) (h:Heap) (l m:Addr):Heap:=(zp3 t u h l m).push { cls:=.type "tuple",data:=.seq #[.none,.none] }
noncomputable abbrev zp5 (t u:Bool) (h:Heap) (l m:Addr):Heap:=(zp4 t u h l m).push { cls:=.type "zip",data:=.fields #[.none,.bool false,.bool false,.ref (zp2 t u h l m).objs.size,.ref (zp3 t u h l m).objs.size] }
theorem YX (t u:Bool) (l m:Addr) (xs ys:Array aj) :
  Meets (fC.«zip.__new__» ⟨[.type "zip",.ref l,.ref m],[]⟩) (λ_ R s=>IsK t s.heap l xs/\IsK u s.heap m ys/\R (.ok (.ret (.ref (zp4 t u s.heap l m).objs.size))) { s with heap:=zp5 t u s.heap l m }) :=
 .of_wp λprog w A R b h=>by
  obtain ⟨a,g,d,tk,os⟩:=b;obtain ⟨f,c,h⟩:=h;have j:=sub_zip
  have i:IsK t (Shared.heap ⟨a,g,d,tk,os⟩) l xs:=f
  have p2:IsK u (Shared.heap ⟨zp1 t a l,g,d,tk,os⟩) m ys:=c.at λo e=>ai _ e
  wp_walk using ZQ i,ZQ p2
  exact ⟨_,rfl,h⟩
theorem GM {t u:Bool}{Q:aj->Shared->Prop}(G:IsK t s.heap l xs) (z:IsK u s.heap m ys)
  (R:∀g,lN g (s.heap.objs.size+4) (s.heap.objs.size+2) (s.heap.objs.size+3) .none->ef g (s.heap.objs.size+2) ↥13 (.ref ↥16) ->
   ef g (s.heap.objs.size+3) .none .none->ItK t g s.heap.objs.size l 0->ItK u g ↥16 m 0->(∀c o,s.heap.get? c=some o->g.get? c=some o)->Q (.ref (s.heap.objs.size+4)) { s with heap:=g }) :
  ay (aF prog w) A (call (.type "zip") [.ref l,.ref m]) Q E s:=by
 refine callType_new F.called_zip ⋯ (F.typeCall_zip_2 _ _) (F.newCall_zip_2 _ _) (λobj=>F.args_object_init_3 obj _ _) F.entry_zip_new (YX t u l m xs ys) ⟨G,z,?_⟩
 have d:(zp1 t s.heap l).objs.size=s.heap.objs.size+1:=c7 ..
 have b:(zp2 t u s.heap l m).objs.size=s.heap.objs.size+2:=by rw [c7,d]
 have a:(zp3 t u s.heap l m).objs.size=s.heap.objs.size+3:=by rw [c7,b]
 have f:(zp4 t u s.heap l m).objs.size=s.heap.objs.size+4:=by rw [c7,a]
 have e:(zp5 t u s.heap l m).get? (zp4 t u s.heap l m).objs.size=some _:=aB _ rfl
 have h:(zp5 t u s.heap l m).get? (zp3 t u s.heap l m).objs.size=some _:=ai _ (aB _ rfl)
 have i:(zp5 t u s.heap l m).get? (zp2 t u s.heap l m).objs.size=some _:=ai _ (ai _ (aB _ rfl))
 have j:(zp5 t u s.heap l m).get? (zp1 t s.heap l).objs.size=some _:=ai _ (ai _ (ai _ (aB _ rfl)))
 have k:(zp5 t u s.heap l m).get? s.heap.objs.size=some _:=ai _ (ai _ (ai _ (ai _ (aB _ rfl))))
 show _/\_
 rw [b,a,f] at e;rw [d,b] at i;rw [a] at h;rw [d] at j;rw [f]
 exact ⟨⟨_,e,rfl⟩,R _ e i h (.of k) (.of j) λc o x=>ai _ (ai _ (ai _ (ai _ (ai _ x))))⟩
end
section
variable {X:Cx}{s:Shared}{σ:St}{H:Hp}{pins:List (Addr×Obj)}
theorem YH {t:Bool}(I:Inv X pins σ H s) (h:SqK t X.K H a xs):∃its:List aj,jI xs its/\IsK t s.heap a its.toArray/\xs.length<=sizeLine:=by
 cases t with
 | true=>exact I.tuple h
 | false=>obtain ⟨its,r,p,z⟩:=I.list h;exact ⟨its,r,p.isList,z⟩
theorem XM {t:Bool}(I:Inv X pins σ H s) (h:SqK t X.K H a xs) (h':SqK t X.K H a ys):xs=ys:=by
 cases t with
 | true=>exact I.tuple_inj h h'
 | false=>exact I.list_inj h h'
end
noncomputable def Vr (K:ah) (t u:Bool) (z j:Addr):It :=
 ⟨λi H=>∃xs ys x y,SqK t K H z xs/\SqK u K H j ys/\xs[i]? = some x/\ys[i]? = some y,λi H v H'=>∃p x y,v = .ref p/\H p=none/\H'=upd H p (.tup [x,y])/\(∀xs,SqK t K H z xs->xs[i]? = some x)/\∀ys,SqK u K H j ys->ys[i]? = some y,
  λi H=>∃xs ys,SqK t K H z xs/\SqK u K H j ys/\(xs.length<=i\/ys.length<=i)⟩
theorem Yu {t u:Bool}{K:ah}{x1:Nat}{pos:Pos}{TI TO:Addr}(D:o8 z TI TO i1 i2 l1 l2) :
  Turn P w K (.Tuple es x1 pos) (Vr K t u l1 l2) [z,TI,TO,i1,i2] z (λi h=>∃a b,lN h z TI TO .none/\ef h TI (.ref i1) (.ref i2)/\ef h TO a b/\ItK t h i1 l1 i/\ItK u h i2 l2 i) where
 mem:=by simp
 obj:=λi h ⟨a,b,t1,t2,t3,t4,t5⟩ c hc=>by
  simp only [fm,fO,or_false] at hc
  rcases hc with rfl | rfl | rfl | rfl | rfl
  ·exact ⟨_,t1,λv e=>by have e':i8 _=mi v:=e;cases e'⟩
  ·exact ⟨_,t2,λv e=>by have e':A9 _ _=mi v:=e;cases e'⟩
  ·exact ⟨_,t3,λv e=>by have e':A9 _ _=mi v:=e;cases e'⟩
  ·exact t4.obj
  ·exact t5.obj
 keep:=λi h h' ⟨a,b,t1,t2,t3,t4,t5⟩ k=>⟨a,b,k z (by simp) _ t1,k TI (by simp) _ t2,k TO (by simp) _ t3,t4.at λo e=>k i1 (by simp) o e,t5.at λo e=>k i2 (by simp) o e⟩
 item:=by
  intro X hP hw hK hc i pins s σ H E I hf st hg
  subst hP hw hK
  obtain ⟨a,b,t1,t2,t3,t4,t5⟩:=st
  obtain ⟨xs,ys,x,y,hq1,hq2,hx,hy⟩:=hg
  obtain ⟨its1,rv1,p1,_⟩:=YH I hq1
  obtain ⟨its2,rv2,p2,_⟩:=YH I hq2
  obtain ⟨u1,hu1,ru1⟩:=rv1.get hx
  obtain ⟨u2,hu2,ru2⟩:=rv2.get hy
  have hn:H s.heap.objs.size=none:=I.hok.fresh (au _)
  have fz:=hf z (by simp)
  have fTO:=hf TO (by simp)
  have f1:=hf i1 (by simp)
  have f2:=hf i2 (by simp)
  refine Ef D (QB D.l1i1) (QB D.l2i2) t1 t2 t3 ⟨t4,p1⟩ ⟨t5,p2⟩ (x:=u1) (y:=u2) (by simpa using hu1) (by simpa using hu2) λh' o1 o2 o3 o4 o5 o6 o7=>⟨_,rfl,?_⟩
  obtain ⟨o3,_⟩:=o3;obtain ⟨o4,_⟩:=o4
  refine wpAny_letOwnedTupleGo_zip o1 λh2 q1 sb=>?_
  have hzl:z<s.heap.objs.size:=av t1
  have kk:∀c o,c≠z->c≠TO->c≠i1->c≠i2->s.heap.get? c=some o->h2.get? c=some o:=λc o n1 n2 n3 n4 e=>(sb.2 c n1).trans (o7 c o n1 n2 n3 n4 e)
  have et:h2.get? s.heap.objs.size=some { cls:=.type "tuple",data:=.seq #[u1,u2] }:=(sb.2 _ (cH hzl)).trans o5
  have tne:∀c o,H c=some o->c≠z/\c≠TO/\c≠i1/\c≠i2/\c≠s.heap.objs.size:=λc o q=>⟨λe=>(by rw [e,fz.1] at q;cases q),λe=>(by rw [e,fTO.1] at q;cases q),λe=>(by rw [e,f1.1] at q;cases q),λe=>(by rw [e,f2.1] at q;cases q),λe=>(by rw [e,hn] at q;cases q)⟩
  have getF:∀{c:Addr} {o:HO},H c=some o->upd H s.heap.objs.size (.tup [x,y]) c=some o:=λ{c o} q=>by rw [j8 (tne c o q).2.2.2.2];exact q
  have nin:∀{c:Addr},c∉[z,TO,i1,i2]->c≠z/\c≠TO/\c≠i1/\c≠i2:=λ{c} h=>by simpa using h
  have I1:Inv X pins σ (upd H s.heap.objs.size (.tup [x,y])) { s with heap:=h2,toks:=s.toks }:=by
   refine I.step (g':=s.gens) (d':=s.drawn) (ch:=[z,TO,i1,i2]) (λc hc'=>?_) (λc o _ _ hc' e _=>kk c o (nin hc').1 (nin hc').2.1 (nin hc').2.2.1 (nin hc').2.2.2 e) (λc o _ _ hc' e _=>⟨o.slots,kk c o (nin hc').1 (nin hc').2.1 (nin hc').2.2.1 (nin hc').2.2.2 e⟩)
    (λc o _ e n=>by rw [j8 (aD (av e))];exact n) (λc o hc' e=>⟨o,kk c o (nin hc').1 (nin hc').2.1 (nin hc').2.2.1 (nin hc').2.2.2 e⟩) (λ_ _ q=>getF q) (λ_ _ _ q=>getF q) (λc ps q=>⟨#[],by rw [getF q];simp⟩) (λm hm=>?_) (λc v q=>?_) I.bare
   ·simp only [fm,fO,or_false] at hc'
    rcases hc' with rfl | rfl | rfl | rfl
    ·exact ⟨fz.2.2.2.1,fz.2.1,fz.2.2.2.2.1,fz.2.2.2.2.2⟩
    ·exact ⟨fTO.2.2.2.1,fTO.2.1,fTO.2.2.2.2.1,fTO.2.2.2.2.2⟩
    ·exact ⟨f1.2.2.2.1,f1.2.1,f1.2.2.2.2.1,f1.2.2.2.2.2⟩
    ·exact ⟨f2.2.2.2.1,f2.2.1,f2.2.2.2.2.1,f2.2.2.2.2.2⟩
   ·obtain ⟨o,es,ep,ho,r⟩:=hm
    exact ⟨o,es,ep,kk _ o (cF fz.2.1) (cF fTO.2.1) (cF f1.2.1) (cF f2.2.1) ho,r⟩
   ·by_cases hb:c=s.heap.objs.size
    ·subst hb
     rw [j6] at q;cases q
     exact ⟨by show 2<=sizeLine;decide,[u1,u2],.cons ru1 (.cons ru2 .nil),⟨_,et,rfl,0,rfl⟩⟩
    ·rw [j8 hb] at q
     have hh:=tne c v q
     refine (I.hok c v q).stay (λc' o hc' e=>?_) (λ_ e=>getF e) λ_ _ e=>getF e
     have hh':c'≠z/\c'≠TO/\c'≠i1/\c'≠i2:=by
      rcases hc' with e | e
      ·rw [e];exact ⟨hh.1,hh.2.1,hh.2.2.1,hh.2.2.2.1⟩
      ·have:=tne c' _ e;exact ⟨this.1,this.2.1,this.2.2.1,this.2.2.2.1⟩
     exact kk c' o hh'.1 hh'.2.1 hh'.2.2.1 hh'.2.2.2 e
  have s2:∀{c:Addr} {o:Obj},c≠z->h'.get? c=some o->h2.get? c=some o:=λn e=>(sb.2 _ n).trans e
  refine ⟨.ref s.heap.objs.size,_,I1,rfl,⟨_,x,y,rfl,hn,rfl,λys' hy'=>by rw [XM I hy' hq1];exact hx,λys' hy'=>by rw [XM I hy' hq2];exact hy⟩,⟨u1,u2,q1,kk _ _ D.TIz D.TITO D.TIi1 D.TIi2 t2,s2 D.TOz o2,o3.at λo e=>s2 D.i1z e,o4.at λo e=>s2 D.i2z e⟩,λc hc'=>?_⟩
  have hl:c<s.heap.objs.size:=by
   simp only [fm,fO,or_false] at hc'
   rcases hc' with rfl | rfl | rfl | rfl | rfl
   ·exact hzl
   ·exact av t2
   ·exact av t3
   ·obtain ⟨o,e,_⟩:=t4.obj;exact av e
   ·obtain ⟨o,e,_⟩:=t5.obj;exact av e
  rw [j8 (aD hl)]
  exact (hf c hc').1
 done:=by
  intro X hP hw hK hc i pins s σ H E I hf st hg
  subst hP hw hK
  obtain ⟨a,b,t1,t2,t3,t4,t5⟩:=st
  obtain ⟨xs,ys,hq1,hq2,hend⟩:=hg
  obtain ⟨its1,rv1,p1,_⟩:=YH I hq1
  obtain ⟨its2,rv2,p2,_⟩:=YH I hq2
  have e1:=rv1.length
  have e2:=rv2.length
  have fz:=hf z (by simp)
  have fTO:=hf TO (by simp)
  have f1:=hf i1 (by simp)
  have f2:=hf i2 (by simp)
  have tne:∀c o,H c=some o->c≠z/\c≠TO/\c≠i1/\c≠i2:=λc o q=>⟨λe=>(by rw [e,fz.1] at q;cases q),λe=>(by rw [e,fTO.1] at q;cases q),λe=>(by rw [e,f1.1] at q;cases q),λe=>(by rw [e,f2.1] at q;cases q)⟩
  have nin:∀{c:Addr},c∉[z,TO,i1,i2]->c≠z/\c≠TO/\c≠i1/\c≠i2:=λ{c} h=>by simpa using h
  refine Ea (I.ok.hd hc) D (QB D.l1i1) (QB D.l2i2) t1 t2 t3 ⟨t4,p1⟩ ⟨t5,p2⟩ ?_ λh' kk=>⟨rfl,?_⟩
  ·rcases hend with h | h
   ·exact .inl ↥81
   ·exact .inr ↥81
  ·refine I.step (g':=s.gens) (d':=s.drawn) (t':=s.toks) (ch:=[z,TO,i1,i2]) (λc hc'=>?_) (λc o _ _ hc' e _=>kk c o (nin hc').1 (nin hc').2.1 (nin hc').2.2.1 (nin hc').2.2.2 e) (λc o _ _ hc' e _=>⟨o.slots,kk c o (nin hc').1 (nin hc').2.1 (nin hc').2.2.1 (nin hc').2.2.2 e⟩)
    (λ_ _ _ _ n=>n) (λc o hc' e=>⟨o,kk c o (nin hc').1 (nin hc').2.1 (nin hc').2.2.1 (nin hc').2.2.2 e⟩) (λ_ _ q=>q) (λ_ _ _ q=>q) (λc ps q=>⟨#[],by rw [q];simp⟩) (λm hm=>?_) (λc v q=>?_) I.bare
   ·simp only [fm,fO,or_false] at hc'
    rcases hc' with rfl | rfl | rfl | rfl
    ·exact ⟨fz.2.2.2.1,fz.2.1,fz.2.2.2.2.1,fz.2.2.2.2.2⟩
    ·exact ⟨fTO.2.2.2.1,fTO.2.1,fTO.2.2.2.2.1,fTO.2.2.2.2.2⟩
    ·exact ⟨f1.2.2.2.1,f1.2.1,f1.2.2.2.2.1,f1.2.2.2.2.2⟩
    ·exact ⟨f2.2.2.2.1,f2.2.1,f2.2.2.2.2.1,f2.2.2.2.2.2⟩
   ·obtain ⟨o,es,ep,ho,r⟩:=hm
    exact ⟨o,es,ep,kk _ o (cF fz.2.1) (cF fTO.2.1) (cF f1.2.1) (cF f2.2.1) ho,r⟩
   ·have hh:=tne c v q
    refine (I.hok c v q).stay (λc' o hc' e=>?_) (λ_ e=>e) λ_ _ e=>e
    have hh':c'≠z/\c'≠TO/\c'≠i1/\c'≠i2:=by
     rcases hc' with e | e
     ·rw [e];exact hh
     ·exact tne c' _ e
    exact kk c' o hh'.1 hh'.2.1 hh'.2.2.1 hh'.2.2.2 e
 self:=λ_ _ _ _ _ ⟨_,_,t1,_⟩ h=>rK t1 h
section
variable {X:Cx}
inductive iZipSI (K:ah) (R:It->Hp->Prop) (vs:List V) (H1:Hp):Prop
 | mk (t:_) (u:_) (a:_) (b:_) (_:vs=[.ref a,.ref b]) (_:(∃xs,SqK t K H1 a xs)) (_:(∃ys,SqK u K H1 b ys)) (_:R (Vr K t u a b) H1)
noncomputable def Eb (K:ah) (ta:TA):TI:=λσ H R=>ta σ H λa H1=>iZipSI K R a H1
theorem Qj {G:Nat}{l r:Expr}{p pos:Pos}(K:ah) (hg:Gl X "zip") (Y:X.mg "zip" = none) (ha:PA X [l,r] ta) (U:aO [l,r] X.env=(false,eval l X.env)::aO [r] X.env:=by rfl) (z:(cG pos (aO [r] X.env)).any (·.1)=false:=by rfl) (hK:X.K=K:=by rfl) :
  PI X (.Tuple es G tpos) (.Call (.Name "zip" p) [l,r] [] pos) (Eb K ta):=by
 subst hK
 intro pins s σ H R I h
 refine Ad (ym I hg Y boot_zip (cx (thn ↥59 λQ s1 ⟨P,H1,d,B,C⟩=>?_) U z))
 obtain ⟨t,T,a,b,e,⟨xs,L⟩,⟨ys,n⟩,q⟩:=C
 subst e
 obtain ⟨u,S,rfl,A,j⟩:=Y4 B
 cases A
 cases j
 obtain ⟨O,V,pl,_⟩:=YH d L
 obtain ⟨J,N,f,_⟩:=YH d n
 refine GM pl f λh' i y x w v E=>?_
 refine rK i ?_
 have M:Inv X pins σ H1 { s1 with heap:=h',toks:=s1.toks }:=d.kept E
 have m:a<s1.heap.objs.size:=pl.lt
 have k:b<s1.heap.objs.size:=f.lt
 have D:o8 (s1.heap.objs.size+4) (s1.heap.objs.size+2) (s1.heap.objs.size+3) s1.heap.objs.size (s1.heap.objs.size+1) a b:=by
  constructor <;> first | exact aD m | exact aD k | exact aD (aT m (eL _ _)) | exact aD (aT k (eL _ _)) | (apply aD;omega) | (apply cH;omega)
 refine ⟨_,[s1.heap.objs.size+4,s1.heap.objs.size+2,s1.heap.objs.size+3,s1.heap.objs.size,s1.heap.objs.size+1],_,_,H1,rfl,M,Yu D,⟨.none,.none,i,y,x,w,v⟩,λc o=>?_,q⟩
 have g:s1.heap.objs.size<=c:=by
  simp only [fm,fO,or_false] at o
  rcases o with rfl | rfl | rfl | rfl | rfl
  ·exact eL _ _
  ·exact eL _ _
  ·exact eL _ _
  ·exact au _
  ·exact eL _ _
 exact d.fpOk g (d.hok.fresh g)
end
theorem vW {K:ah}{t0 u0:Bool}{xs ys:List V}{g:TG}{ti:TT}{te:TE}{R:Hp->Prop}{σ:St}{H:Hp}(ab:xs.length=ys.length) (Pv:Nat->St->Hp->Prop) (h0:Pv 0 σ H) (hl:∀i σ H,i<=xs.length->Pv i σ H->SqK t0 K H a xs/\SqK u0 K H b ys)
  (hs:∀i x y σ H t,xs[i]? = some x->ys[i]? = some y->Pv i σ H->H t=none->g (.ref t) σ (upd H t (.tup [x,y])) λj H3=>ti j H3 λok G=>if ok=true then te j G λv z=>∃zs,z acc=some (.lst zs)/\zs.length<sizeLine/\Pv (i+1) j (upd z acc (.lst (zs++[v]))) else Pv (i+1) j G)
  (hd:∀σ H,Pv xs.length σ H->R H) :
  ∃W:Nat->Nat->St->Hp->Prop,↥76/\∀i m U H',W i m U H' ->
   ((Vr K t0 u0 a b).stop i H'/\R H')\/((Vr K t0 u0 a b).go i H'/\∃Y:St->Hp->Prop,↥40 /\
    ∀x H2,(Vr K t0 u0 a b).yld i H' x H2->g x U H2 λj H3=>ti j H3 λok G=>if ok=true then te j G λv z=>∃zs,z acc=some (.lst zs)/\zs.length<sizeLine/\Y j (upd z acc (.lst (zs++[v]))) else Y j G):=by
 refine ⟨λi m σ H=>m=xs.length-i/\i<=xs.length/\Pv i σ H,⟨xs.length,by simp,aN _,h0⟩,?_⟩
 rintro i m σ H ⟨rfl,hi,p⟩
 obtain ⟨q,d⟩:=hl i σ H hi p
 by_cases c:i<xs.length
 ·refine .inr ⟨⟨xs,ys,xs[i],ys[i]'∅,q,d,by simp [c],aa ∅⟩,Pv (i+1),λU H' l=>⟨xs.length-(i+1),∅,rfl,c,l⟩,λv H' y=>?_⟩
  obtain ⟨t,x,k,rfl,n,rfl,h,f⟩:=y
  exact hs i x k σ H t (h xs q) (f ys d) p n
 ·have e:i=xs.length:=∅
  subst e
  exact .inl ⟨⟨xs,ys,q,d,.inl (au _)⟩,hd σ H p⟩
end L2
end
section
namespace L2
open PySem.W
mutual
inductive Dat (H:Hp):V->eJ->Prop
 | non:Dat H .non .none
 | bl (b:Bool):Dat H (.bl b) (.bool b)
 | int (i:Int):Dat H (.int i) (.int i)
 | str (x:Str):Dat H (.str x) (.str x)
 | tup {p:Addr} {vs:List V} {ds:List eJ}:H p=some (.tup vs)->DatL H vs ds->Dat H (.ref p) (.tuple ds)
 | lst {p:Addr} {vs:List V} {ds:List eJ}:H p=some (.lst vs)->DatL H vs ds->Dat H (.ref p) (.list ds)
inductive DatL (H:Hp):List V->List eJ->Prop
 | nil:DatL H [] []
 | cons {v:V} {vs:List V} {d:eJ} {ds:List eJ}:Dat H v d->DatL H vs ds->DatL H (v::vs) (d::ds)
end
mutual
theorem Dat.ext (x:Vv M H H') (j:∀c,M c->∀vs,H c≠some (.lst vs)/\H c≠some (.tup vs)):∀{v:V}{d:eJ},Dat H v d->Dat H' v d
 | _,_,.non=>.non
 | _,_,.bl b=>.bl b
 | _,_,.int i=>.int i
 | _,_,.str y=>.str y
 | _,_,.tup h r=>.tup (x _ _ h λz=>(j _ z _).2 h) (DatL.ext x j r)
 | _,_,.lst h r=>.lst (x _ _ h λz=>(j _ z _).1 h) (DatL.ext x j r)
theorem DatL.ext (x:Vv M H H') (j:∀c,M c->∀vs,H c≠some (.lst vs)/\H c≠some (.tup vs)):∀{vs:List V}{ds:List eJ},DatL H vs ds->DatL H' vs ds
 | _,_,.nil=>.nil
 | _,_,.cons h r=>.cons (Dat.ext x j h) (DatL.ext x j r)
end
theorem Dat.same (s:jk H H') (h:Dat H v d):Dat H' v d:=h.ext (M:=λ_=>False) (Vv.of_same s) (λ_ z=>z.elim)
mutual
theorem Dat.rep {M:Addr->Prop}(j:∀p,¬M p) {K:ah}:∀{v:V}{d:eJ},Dat H v d->Rep M K H v d
 | _,_,.non=>.non
 | _,_,.bl b=>.bl b
 | _,_,.int i=>.int i
 | _,_,.str y=>.str y
 | _,_,.tup h r=>.tup (j _) (SqT.of h) (DatL.rep j r)
 | _,_,.lst h r=>.lst (j _) (SqL.of h) (DatL.rep j r)
theorem DatL.rep {M:Addr->Prop}(j:∀p,¬M p) {K:ah}:∀{vs:List V}{ds:List eJ},DatL H vs ds->RepL M K H vs ds
 | _,_,.nil=>.nil
 | _,_,.cons h r=>.cons (Dat.rep j h) (DatL.rep j r)
end
theorem DatL.length :∀{vs:List V}{ds:List eJ},DatL H vs ds->vs.length=ds.length
 | _,_,.nil=>rfl
 | _,_,.cons _ r=>congrArg Nat.succ r.length
theorem DatL.get :∀{vs:List V}{ds:List eJ}{i:Nat}{v:V},DatL H vs ds->vs[i]? = some v->∃d,ds[i]? = some d/\Dat H v d
 | _,_,_,_,.nil,e=>by simp at e
 | _,_,0,_,.cons r _,e=>by simp at e;subst e;exact ⟨_,rfl,r⟩
 | _,_,i+1,v,.cons _ t,e=>by
  obtain ⟨d,h1,h2⟩:=DatL.get (i:=i) (v:=v) t (by simpa using e)
  exact ⟨d,by simpa using h1,h2⟩
noncomputable def uA:Nat->eJ->Bool
 | 0,_=>false
 | _+1,.none=>true
 | _+1,.bool _=>true
 | _+1,.int _=>true
 | _+1,.str _=>true
 | n+1,.list ds=>decide (ds.length<=1000) && ds.all (uA n)
 | n+1,.tuple ds=>decide (ds.length<=1000) && ds.all (uA n)
 | _+1,_=>false
inductive spAl (n:Nat) (vs:List V) (H:Hp) (Q:VK) (z_3:XK):Prop
 | mk (x y:V) (d:eJ) (_:vs=[x,y]) (_:Dat H x d) (_:Dat H y d) (_:uA n d=true) (_:∀H',jk H H'->Q (.bl true) H')
theorem Xp (K:ah):bf K (.type "str") (.type "bool")=some false:=(qu K _ _).trans ↥38
theorem Za (K:ah):bf K (.type "str") (.type "int")=some false:=(qu K _ _).trans ↥38
theorem gm (K:ah):bf K (.type "str") (.type "str")=some true:=(qu K _ _).trans ↥38
end L2
end
section
namespace L2
open PySem.W
noncomputable def Two (vs:Array aj) (a0:aj):Prop:=vs[0]? = some a0/\vs[2]? = some .none
theorem Two.put (t:Two vs a0) (x:aj):Two (vs.setIfInBounds 1 x) a0 :=
 ⟨by rw [iJ ⋯];exact t.1,by rw [iJ ⋯];exact t.2⟩
theorem Up (o:Obj) (f:Array aj->Array aj):(o.mapFields f).dict=o.dict:=by
 obtain ⟨c,d,a,b⟩:=o
 cases a <;> rfl
noncomputable def OnT (h B:Heap) (e:Addr) (cls a0 fl:aj):Prop :=
 ∃oe a T b ts,h.get? e=some oe/\(oe.cls=cls/\Two a a0/\oe.dict=none)/\oe.data = .fields a/\a[1]? = some (.ref T)/\B.get? T=none/\T≠e/\h.get? T=some b/\b.data = .fields ts/\ts[3]? = some fl
section
variable {M:Model}{A:bF}{E:aj->Shared->Prop}{s:Shared}{B:Heap}{env:Env}{outer l:List Env}{L e:Addr}{cls a0 fl:aj}{Q:Unit->Shared->Prop}
theorem yO (st:B.StaysIn s.heap) (G:s.heap.FunFrames B l) (z:OnT s.heap B e cls a0 fl)
  (k:∀g,B.StaysIn g->g.FunFrames B l->OnT g B e cls a0 .none->(∀b o,s.heap.get? b=some o->(∀vs,o.data≠.fields vs)->g.get? b=some o)->Q () { s with heap:=g }):ay M A (setFlight (.ref e) none) Q E s:=by
 obtain ⟨oe,vs,T,w,ts,p,u,r,t,gB,n,i,h,v⟩:=z
 have j:3<ts.size:=(Array.getElem?_eq_some_iff.mp v).1
 have d:∀b,b≠T->(s.heap.update T (fq (·.setIfInBounds 3 ((none:Option Addr).elim b8 λf=>cw f)))).get? b=s.heap.get? b:=λb a =>
  bE _ _ a.symm
 have m:∀{b o},s.heap.get? b=some o->(∀vs,o.data≠.fields vs)->b≠T:=λa c q=>by
  rw [q,i] at a
  cases a
  exact c ts h
 unfold setFlight
 refine af (bO p r t ?_)
 rw [if_pos (by simp)]
 refine fK i h j (k _ (λb o a=>?_) (G.of_keeps λb o a c=>⟨o,?_,rfl⟩) ?_ λb o a c=>?_)
 ·rw [d b λq=>by rw [q,gB] at a;cases a]
  exact st b o a
 ·rw [d b (m a c)]
  exact a
 ·refine ⟨oe,vs,T,_,_,?_,u,r,t,gB,n,cO _ i (fA (eZ h _)),eZ h _,by simp [j]⟩
  rw [d e n.symm]
  exact p
 ·rw [d b (m a c)]
  exact a
theorem QM {nx:Bool}(fr:A.frames=some (env::outer)) (z:s.heap.FunFrames B (env::outer)) (hL:env.frame=some L) (G:s.heap.get? e=some oe) (st:B.StaysIn s.heap) (ne:B.get? e=none) (gd:oe.data = .fields vs)
  (U:1<vs.size) (Y:Two vs a0) (dn:oe.dict=none) (k:∀g,B.StaysIn g->g.FunFrames B (env::outer)->OnT g B e oe.cls a0 (cw L)->s.heap.UpToSlots g->Q () { s with heap:=g }) :
  ay M A (do let a <- frameOf env;let pl <- entryPlaceOf L nx;let b <- oA j a .none (cw L) .none pl;setField (.ref e) 1 b) Q E s:=by
 have p:e∉(env::outer).filterMap (·.frame):=λq=>by
  obtain ⟨_,o,u,d⟩:=z.mem q
  rw [G] at u
  cases u
  exact d vs gd
 refine af (wpAny_frameOf_fun fr z hL λg1 f=>?_)
 refine af (wpAny_entryPlaceOf λpl n=>?_)
 unfold oA newFields
 refine af (bT ?_ (n.sizeOk5 _ _ _ _ _))
 have w:g1.get? e=some oe:=(f.2.1 e p).trans G
 have s1:B.StaysIn g1:=λb o c=>(f.2.1 b λq=>by rw [(z.mem q).1] at c;cases c).trans (st b o c)
 generalize l:({ cls:=.type "traceback",dict:=none,data:=.fields ([j,.ref L,.none,cw L,.none]++(if pl.isEmpty then cD 6 b8 else pl)).toArray }:Obj)=new
 have t:new.data = .fields ([j,.ref L,.none,cw L,.none]++(if pl.isEmpty then cD 6 b8 else pl)).toArray:=by rw [<- l]
 have v:=ai (h:=g1) new w
 refine fK v gd U ?_
 have y:g1.objs.size≠e:=cH (av w)
 have x:=eZ gd ↥130
 have C:=cO (fq ↥130) v (fA x)
 have T3:((g1.push new).update e (fq ↥130)).get? g1.objs.size=some new:=by
  rw [bE _ _ y.symm]
  exact aB g1 (fA t)
 have kp:∀{b o},b≠e->g1.get? b=some o->((g1.push new).update e (fq ↥130)).get? b=some o:=λc q=>by
  rw [bE _ _ c.symm]
  exact ai _ q
 have r:∀{b o},s.heap.get? b=some o->(∀vs,o.data≠.fields vs)->b≠e:=λc d q=>by
  rw [q,G] at c
  cases c
  exact d vs gd
 refine k _ (λb o c=>kp (λq=>by rw [q,ne] at c;cases c) (s1 b o c)) (z.of_keeps λb o c d=>?_) ?_ λb o c d=>?_
 ·obtain ⟨m,i⟩:=f.2.2 b o c
  exact ⟨_,kp (r c d) i,rfl⟩
 ·exact ⟨_,_,g1.objs.size,_,_,C,⟨pV _ _,Y.put _,(Up _ _).trans dn⟩,x,by simp [U],s1.fresh,y,T3,t,by first | (simp;done) | (rcases n with rfl | ⟨_,_,_,_,_,_,_,rfl⟩ <;> simp)⟩
 ·obtain ⟨m,i⟩:=f.2.2 b o c
  exact ⟨m,kp (r c d) i⟩
theorem Y2 (fr:A.frames=some (env::outer)) (G:s.heap.FunFrames B (env::outer)) (j:env.frame=some L) (z:OnT s.heap B e cls a0 .none) (st:B.StaysIn s.heap) (ne:B.get? e=none)
  (k:∀g,B.StaysIn g->g.FunFrames B (env::outer)->OnT g B e cls a0 (cw L)->s.heap.UpToSlots g->Q () { s with heap:=g }):ay M A (lE (.ref e) env) Q E s:=by
 obtain ⟨oe,vs,T,C,ts,l,⟨rfl,r,y⟩,m,p,gB,x,f,h,n⟩:=z
 unfold lE
 simp only [j]
 refine af (bO l m p ?_)
 rw [if_pos (by simp)]
 refine af (bO f h n ?_)
 rw [if_neg (by simp [cw])]
 refine af (fK f h (Array.getElem?_eq_some_iff.mp n).1 ?_)
 have d:∀b,b≠T->(s.heap.update T (fq (·.setIfInBounds 3 b8))).get? b=s.heap.get? b:=λb a =>
  bE _ _ a.symm
 have i:∀{b o},s.heap.get? b=some o->(∀vs,o.data≠.fields vs)->b≠T:=λa c q=>by
  rw [q,f] at a
  cases a
  exact c ts h
 refine QM (oe:=oe) (vs:=vs) (a0:=a0) fr (G.of_keeps λb o a c=>⟨o,?_,rfl⟩) j ?_ (λb o a=>?_) ne m (Array.getElem?_eq_some_iff.mp p).1 r y λg w v u t=>k g w v u λb o a c=>?_
 ·exact (d b (i a c)).trans a
 ·exact (d e x.symm).trans l
 ·exact (d b λq=>by rw [q,gB] at a;cases a).trans (st b o a)
 ·exact t b o ((d b (i a c)).trans a) c
theorem U2 (fr:A.frames=some (env::outer)) (G:s.heap.FunFrames B (env::outer)) (z:env.frame=some L) (j:OnT s.heap B e cls a0 .none) (st:B.StaysIn s.heap) (ne:B.get? e=none)
  (k:∀g,B.StaysIn g->g.FunFrames B (env::outer)->OnT g B e cls a0 .none->s.heap.UpToSlots g->Q () { s with heap:=g }):ay M A (om env (.ref e)) Q E s:=by
 unfold om
 refine af (Y2 fr G z j st ne λg m l i h=>?_)
 exact yO (s:={ s with heap:=g }) m l i λq f d c a=>k q f d c (h.trans λb o p n=>⟨o.slots,a b o p n⟩)
theorem Zo (fr:A.frames=some (env::outer)) (z:env.frame=some L) (st:B.StaysIn h) (G:h.FunFrames B (env::outer)) (j:oa h s.heap e cls U)
  (k:∀g t,B.StaysIn g->g.FunFrames B (env::outer)->OnT g B e cls (.ref t) .none->B.get? e=none->s.heap.UpToSlots g->Q () { s with heap:=g }):ay M A (om env (.ref e)) Q E s:=by
 obtain ⟨t,c,w,y⟩:=j.there
 have new:B.get? e=none:=by
  cases q:B.get? e with
  | none=>rfl
  | some o =>
   have:=st e o q
   rw [j.new] at this
   cases this
 unfold om lE
 simp only [z]
 refine af (af (bO (x:=.none) c rfl rfl ?_))
 rw [if_neg ⋯]
 refine QM (a0:=.ref t) fr (G.of_keeps λb o a _=>⟨o,j.keeps b o a,rfl⟩) z c (λb o a=>j.keeps b o (st b o a)) new rfl (by simp) ⟨rfl,rfl⟩ rfl λg r p n m=>?_
 exact yO (s:={ s with heap:=g }) r p n λv l i f d=>k v t l i f new (m.trans λb o a u=>⟨o.slots,d b o a u⟩)
end
end L2
end
section
namespace L2
open PySem.W
structure Fly (g:Heap) (H:Hp) (h:Heap) (a:Addr) (cls fl:aj):Prop where
 na:g.get? a=none
 ha:H a=none
 ob:∃oe vs T oT ts a0,h.get? a=some oe/\(oe.cls=cls/\Two vs a0/\oe.dict=none)/\oe.data = .fields vs/\vs[1]? = some (.ref T)/\g.get? T=none/\H T=none/\T≠a/\h.get? T=some oT/\oT.data = .fields ts/\ts[3]? = some fl
theorem Fly.mono {g':Heap}(f:Fly g H h a cls fl) (l:∀b o,g'.get? b=some o->∃o',g.get? b=some o'):Fly g' H h a cls fl:=by
 have no:∀{b},g.get? b=none->g'.get? b=none:=λ{b} e=>by
  cases q:g'.get? b with
  | none=>rfl
  | some o =>
   obtain ⟨o',c⟩:=l b o q
   rw [e] at c
   cases c
 obtain ⟨oe,d,T,i,ts,a0,h1,h2,n,m,k,j⟩:=f.ob
 exact ⟨no f.na,f.ha,oe,d,T,i,ts,a0,h1,h2,n,m,no k,j⟩
noncomputable def CX1 (P:Program) (w:bD):CXT:=λouter H s E e s' =>
 ∃a cls H',e = .ref a/\s'.os=s.os/\iP s'.gens/\Un (frs outer) [] H H' s.heap s'.heap/\HOk P w H' s'.heap/\Fly s.heap H' s'.heap a cls .none/\E cls none H'
noncomputable def zy (X:Cx) (pins:List (Addr×Obj)) (σ:St) (H':Hp) (s1:Shared) (a:Addr) (cls fl:aj):Prop :=
 ∃s H,Inv X pins σ H s/\s1.os=s.os/\iP s1.gens/\Un (frs X.stack) [] H H' s.heap s1.heap/\HOk X.prog X.w H' s1.heap/\Fly s.heap H' s1.heap a cls fl
theorem gL (x:qB P w H h a o):∃ob,h.get? a=some ob:=by
 cases o with
 | lst xs=>obtain ⟨_,_,_,_,e⟩:=x;exact ⟨_,e⟩
 | tup xs=>obtain ⟨_,_,_,ob,e,_⟩:=x;exact ⟨_,e⟩
 | dK kvs=>obtain ⟨_,_,_,_,ob,_,_,e,_⟩:=x;exact ⟨_,e⟩
 | dT kvs=>obtain ⟨_,_,_,_,ob,_,_,e,_⟩:=x;exact ⟨_,e⟩
 | set S n=>obtain ⟨ob,_,_,_,e,_⟩:=x;exact ⟨_,e⟩
 | ins C dx fs=>obtain ⟨_,_,_,e,_⟩:=x;exact ⟨_,e⟩
 | own y=>exact x
 | xd fs=>obtain ⟨_,⟨_,_,_,e,_⟩,_⟩:=x;exact ⟨_,e⟩
 | rng lo hi=>obtain ⟨_,_,_,e⟩:=x;exact ⟨_,e⟩
 | frz ob u=>obtain ⟨e,_⟩:=x;exact ⟨_,e⟩
 | tbl ps=>exact ⟨_,(show h.get? a=some _ from x)⟩
 | met f y=>exact ⟨_,(show h.get? a=some _ from x)⟩
 | ext φ=>obtain ⟨_,e,_⟩:=x;exact e
section
variable {X:Cx}{pins:List (Addr×Obj)}{σ:St}{H H':Hp}{s s1:Shared}{a:Addr}{cls fl:aj}
theorem zy.inv (f:zy X pins σ H' s1 a cls fl):Inv X pins σ H' s1:=by
 obtain ⟨s,H,I,os,b,u,ok,c⟩:=f
 exact I.call' os u ok b (λb z=>absurd z (by simp))
theorem zy.fly (j:X.ex=[]) (f:zy X pins σ H' s1 a cls fl):Fly X.s₀.heap H' s1.heap a cls fl:=by
 obtain ⟨s,H,I,os,b,u,ok,d⟩:=f
 exact d.mono λc o e=>I.base.there c o e (by rw [j];exact λz=>by cases z)
theorem zy.under (f:zy X pins σ H' s1 a cls .none):∃B a0,(B.StaysIn s1.heap/\B.get? a=none/\s1.heap.FunFrames B X.stack/\OnT s1.heap B a cls a0 .none) /\
  ∀h2 fl2,B.StaysIn h2->s1.heap.UpToSlots h2->OnT h2 B a cls a0 fl2->zy X pins σ H' { s1 with heap:=h2 } a cls fl2:=by
 have Z:=f.inv
 obtain ⟨s,H,I,os,b,u,ok,t⟩:=f
 obtain ⟨oe,vs,T,oT,ts,a0,h1,h2,S,h4,R,Q,h7,P,O,U⟩:=t.ob
 have fr:=Z.stack
 have fs:∀b∈frs X.stack,b≠a/\b≠T:=λb hb=>by
  obtain ⟨_,o,i,x⟩:=fr.mem hb
  refine ⟨λz=>?_,λz=>?_⟩
  ·rw [z,h1] at i;cases i;exact x _ S
  ·rw [z,P] at i;cases i;exact x _ O
 have L:∀env∈X.stack,∀c,env.frame=some c->c∈a::T::frs X.stack:=λenv he c l=>aC _ (aC _ (List.mem_filterMap.mpr ⟨env,he,l⟩))
 have j:∀{c o},s1.heap.get? c=some o->c≠a->c≠T->c∉frs X.stack->(hideAll s1.heap (a::T::frs X.stack)).get? c=some o:=λe n1 n2 n3 =>
  hideAll_get _ e (by simp only [fm,not_or];exact ⟨n1,n2,n3⟩)
 refine ⟨hideAll s1.heap (a::T::frs X.stack),a0,⟨λb o q=>of_hideAll _ q,hideAll_none _ (.head _),tj fr L,oe,vs,T,oT,ts,h1,h2,S,h4,hideAll_none _ (.tail _ (.head _)),h7,P,O,U⟩,λhp fl2 st A tr=>?_⟩
 have lo:∀{c o},s.heap.get? c=some o->c≠a/\c≠T:=λ{c o} e=>⟨λz=>(by rw [z,t.na] at e;cases e),λz=>(by rw [z,R] at e;cases e)⟩
 have k:∀{c o},s1.heap.get? c=some o->c∈frs X.stack->∀vs,o.data≠.fields vs:=λe l=>by
  obtain ⟨_,o',i,x⟩:=fr.mem l
  rw [e] at i;cases i;exact x
 refine ⟨s,H,I,os,b,⟨λc o e n K h=>?_,λc o e n g h=>?_,λc o e n h=>u.free c o e n h,λc o e h=>?_,u.tups,u.frzs,u.tbls⟩,λc o l=>?_,?_⟩
 ·exact st _ _ (j (u.keep c o e n K h) (lo e).1 (lo e).2 K)
 ·obtain ⟨sl,m⟩:=u.slot c o e n g h
  obtain ⟨p,v⟩:=A c _ m (k m g)
  exact ⟨p,v⟩
 ·obtain ⟨o1,m⟩:=u.there c o e h
  by_cases g:c∈frs X.stack
  ·obtain ⟨p,v⟩:=A c _ m (k m g)
   exact ⟨_,v⟩
  ·exact ⟨o1,st _ _ (j m (lo e).1 (lo e).2 g)⟩
 ·refine (ok c o l).stay (λc' o' M e=>?_) (λ_ e=>e) λ_ _ e=>e
  have r:H' c'≠none:=by
   rcases M with z | z
   ·rw [z,l];exact λy=>by cases y
   ·rw [z];exact λy=>by cases y
  exact st _ _ (j e (λz=>r (by rw [z];exact t.ha)) (λz=>r (by rw [z];exact Q)) λz=>r (Z.stkFree _ z))
 ·obtain ⟨G,D,d,J,E,g1,g2,g3,g4,g5,Y,C,V,g9⟩:=tr
  have key:d=T\/s1.heap.get? d=none:=by
   cases q:s1.heap.get? d with
   | none=>exact .inr rfl
   | some o =>
    refine .inl ?_
    by_cases N:d=T
    ·exact N
    ·by_cases g:d∈frs X.stack
     ·obtain ⟨p,v⟩:=A d _ q (k q g)
      rw [v] at C
      cases C
      exact absurd V (k q g _)
     ·have:=j q Y N g
      rw [g5] at this
      cases this
  refine ⟨t.na,t.ha,G,D,d,J,E,a0,g1,g2,g3,g4,?_,?_,Y,C,V,g9⟩
  ·rcases key with z | z
   ·rw [z];exact R
   ·cases q:s.heap.get? d with
    | none=>rfl
    | some o =>
     obtain ⟨o',w⟩:=u.there d o q (by simp)
     rw [z] at w
     cases w
  ·rcases key with z | z
   ·rw [z];exact Q
   ·cases q:H' d with
    | none=>rfl
    | some o =>
     obtain ⟨o',w⟩:=gL (ok d o q)
     rw [z] at w
     cases w
theorem zy.leave {Q:Unit->Shared->Prop}(f:zy X pins σ H' s1 a cls .none) (st:X.stack=X.env::X.outer) (j:X.env.frame=some X.env.locals)
  (k:∀h2,zy X pins σ H' { s1 with heap:=h2 } a cls .none->Q () { s1 with heap:=h2 }):ay ↥2 X.A (om X.env (.ref a)) Q E s1:=by
 obtain ⟨B,a0,b,c⟩:=f.under
 have fr:X.A.frames=some (X.env::X.outer):=by rw [<- st];exact f.inv.ok.frames
 rw [st] at b
 obtain ⟨m,l,i,h⟩:=b
 exact U2 fr i j h m l λh2 g n e d=>k h2 (c h2 .none g d e)
theorem XY {Q:Unit->Shared->Prop}(I:Inv X pins σ H s) (G:oa s.heap h1 a cls vs) (st:X.stack=X.env::X.outer) (U:X.env.frame=some X.env.locals)
  (k:∀h2,zy X pins σ H { s with heap:=h2 } a cls .none->Q () { s with heap:=h2 }):ay ↥2 X.A (om X.env (.ref a)) Q E { s with heap:=h1 }:=by
 have fr:X.A.frames=some (X.env::X.outer):=by rw [<- st];exact I.ok.frames
 have j:=I.stack
 have x:∀env∈X.stack,∀c,env.frame=some c->c∈frs X.stack:=λenv S c d=>List.mem_filterMap.mpr ⟨env,S,d⟩
 have i:=tj j x
 have m:∀{c o},s.heap.get? c=some o->c∈frs X.stack->∀vs,o.data≠.fields vs:=λe d=>by
  obtain ⟨_,o',C,l⟩:=j.mem d
  rw [e] at C;cases C;exact l
 rw [st] at i
 refine Zo (s:={ s with heap:=h1 }) (B:=hideAll s.heap (frs (X.env::X.outer))) (h:=s.heap) fr U (λb o q=>of_hideAll _ q) i G λh2 t N b2 L b3 O=>?_
 rw [<- st] at L N
 obtain ⟨oe,ws,T,P,ts,g1,g2,g3,Z,K,Y,u,J,V⟩:=L
 have g:∀{c o},s.heap.get? c=some o->c∉frs X.stack->h2.get? c=some o:=λe n=>N _ _ (hideAll_get _ e n)
 have f:∀{c o},s.heap.get? c=some o->c∈frs X.stack->∃p,h2.get? c=some { o with slots:=p }:=λ{c o} e d=>O c o (G.keeps _ _ e) (m e d)
 have v:s.heap.get? T=none:=by
  cases q:s.heap.get? T with
  | none=>rfl
  | some o =>
   exfalso
   by_cases d:T∈frs X.stack
   ·obtain ⟨p,e⟩:=f q d
    rw [e] at u
    cases u
    exact m q d _ J
   ·rw [hideAll_get _ q d] at K
    cases K
 have l:∀{c},s.heap.get? c=none->H c=none:=λ{c} e=>by
  cases q:H c with
  | none=>rfl
  | some o =>
   obtain ⟨o',M⟩:=gL (I.hok c o q)
   rw [e] at M
   cases M
 refine k h2 ⟨s,H,I,rfl,I.bare,⟨λc o e n R r=>g e R,λc o e n U r=>f e U,λc o e n r=>n,λc o e r=>?_,λ_ _ e=>e,λ_ _ _ e=>e,λc ps e=>⟨#[],by rw [e];simp⟩⟩,λc o d=>?_,G.new,l G.new,oe,ws,T,P,ts,.ref t,g1,g2,g3,Z,v,l v,Y,u,J,V⟩
 ·by_cases d:c∈frs X.stack
  ·obtain ⟨p,e2⟩:=f e d
   exact ⟨_,e2⟩
  ·exact ⟨o,g e d⟩
 ·refine (I.hok c o d).stay (λc' o' D e=>?_) (λ_ e=>e) λ_ _ e=>e
  refine g e λz=>?_
  have:=I.stkFree _ z
  rcases D with y | y
  ·rw [y,d] at this;cases this
  ·rw [y] at this;cases this
end
noncomputable def Acc (X:Cx) (J:aj->St->Hp->Prop):Prop:=∀(pins:List (Addr×Obj)) (σ:St) (H':Hp) (s1:Shared) (a:Addr) (cls:aj),zy X pins σ H' s1 a cls .none->J cls σ H'->X.xe (.ref a) s1
noncomputable def GP (sp:Sp) (J:aj->St->Hp->Prop) (t:TA):TE:=λσ H Q=>t σ H λa H1=>sp a H1 Q λcls _ H'=>J cls σ H'
structure CalX (P:Program) (w:bD) (K:ah) (mg:Str->Option aj) (base:Heap) (k:Nat) (x:Str) (ps:List Str) (sp:Sp):Prop where
 ex:∃f fd,FnOk P w K mg base (CX1 P w) k f fd ps sp/\y8 K fd ps []/\mg x=some (.ref f)/\c3 K (.ref f)=true
theorem xD {X:Cx}{k:Nat}{e:Expr}{es:List Expr}{pos:Pos}(c:CalX X.prog X.w X.K X.mg X.base k x ps sp) (U:Room k X.A) (ac:Acc X J) (Y:Gl X x) (ha:PA X (e::es) t)
  (G: ↥24=false:=by decide) (he:aO (e::es) X.env=↥33::aO es X.env:=by rfl) (z: (↥67).any (·.1)=false:=by rfl) :
  PE X ↥65 (GP sp J t):=by
 obtain ⟨f,fd,F,y,n,v⟩:=c.ex
 intro pins s σ H Q I h
 refine cT (yV I Y n ?_ G)
 refine dH (h₀:=X.base) I.ok.mod.kin v (thn ↥59 λi s1 ⟨m,H1,g,r,q⟩=>⟨g.kIn,?_⟩) he z
 have o:i.length=ps.length:=by rw [<- r.length];exact F.len _ _ _ _ q
 have l:=y s1 i g.kIn (by rw [aJ];exact o)
 rw [aJ] at l
 refine i4 (dB (F.run X.A X.stack s1 H1 ⟨i,[]⟩ i m Q _ U g.env0 l r q) λr s' d=>?_)
 cases r with
 | error e =>
  obtain ⟨a,cls,H',rfl,os,b,u,ok,B,j⟩:=d
  exact ac pins σ H' s' a cls ⟨s1,H1,g,os,b,u,ok,B⟩ j
 | ok fl =>
  cases fl with
  | ret u=>exact g.after d
  | next=>exact bB d
  | brk=>exact bB d
  | cont=>exact bB d
theorem CalX.cal {w:bD}{K:ah}{mg:Str->Option aj}{base:Heap}{k:Nat}{x:Str}{sp:Sp}(c:CalX P w K mg base k x ps sp):Cal P w K mg base k x ps (λvs H Q _=>sp vs H Q E0):=by
 obtain ⟨f,fd,F,b,n,o⟩:=c.ex
 refine ⟨f,fd,⟨λvs H Q E h=>F.len vs H Q E0 h,λA outer s H d g vs Q E m p b i l=>dB (F.run A outer s H d g vs Q E0 m p b i l) λr s' q=>?_⟩,b,n,o⟩
 cases r with
 | error e =>
  obtain ⟨a,cls,H',_,_,_,_,_,_,j⟩:=q
  exact bB j
 | ok fl =>
  cases fl with
  | ret u=>exact q
  | next=>exact q
  | brk=>exact q
  | cont=>exact q
theorem qN {K:ah}{E:XK} :
  Acc (ug (CX1 P w) P w K mg base N z scope f G A outer s H E) λcls _ H'=>E cls none H':=by
 intro pins σ H' s1 a cls fl j
 refine zy.leave (X:=ug (CX1 P w) P w K mg base N z scope f G A outer s H E) fl rfl rfl λh2 b=>?_
 exact ⟨a,cls,H',rfl,b.inv.os,b.inv.bare,b.inv.base,b.inv.hok,b.fly rfl,j⟩
noncomputable def E8 (X:Cx) (J:aj->St->Hp->Prop):Prop:=∀(pins:List (Addr×Obj)) (σ:St) (H:Hp) (s:Shared) (h1:Heap) (a:Addr) (cls:aj) (b:List aj),Inv X pins σ H s->oa s.heap h1 a cls b->J cls σ H->X.xe (.ref a) { s with heap:=h1 }
theorem zH {K:ah}{E:XK} :
  E8 (ug (CX1 P w) P w K mg base N z scope f G A outer s H E) λcls _ H'=>E cls none H':=by
 intro pins σ H' s1 h1 a cls d I c j
 refine XY (X:=ug (CX1 P w) P w K mg base N z scope f G A outer s H E) I c rfl rfl λh2 b=>?_
 exact ⟨a,cls,H',rfl,b.inv.os,b.inv.bare,b.inv.base,b.inv.hok,b.fly rfl,j⟩
theorem WQ {K:ah}{j:String}(X:K.In h) (q:excIn K C z j=true) :
  ∃bm N nm q bs hdct sn sub ab col dd k0 k1 k2 k3 k5 mN,h.get? C=some (excClassObj nm q C N bs bm hdct sn sub ab col dd k0 k1 k2 k3 k5 j)/\h.Ns N mN/\mN "__init__" = none/\OwnTail h z bm:=by
 unfold excIn at q
 split at q
 ·rename_i dd p b i
  split at q
  ·rename_i t bm k0 k1 k2 k3 n k5 c es
   simp only [bw,beq_iff_eq,Bool.not_eq_true'] at q
   obtain ⟨⟨⟨⟨⟨rfl,rfl⟩,e⟩,o⟩,a⟩,d⟩:=q
   obtain ⟨nm,bs,r,g,f,k,sn,sub,ab,col,s⟩:=p
   dsimp only at c e a d
   subst c e
   have m:b = #[k0,k1,k2,k3,some (.builtin n),k5]:=by obtain ⟨l⟩:=b;simp only at es;rw [es]
   subst m
   exact ⟨bm,g,nm,f,bs,k,sn,sub,ab,col,dd,k0,k1,k2,k3,k5,_,X _ _ i,.of_isNs (isNs_of_in X a),nsMap_none_of_in X a d,tail_of_in X o⟩
  ·cases q
 ·cases q
theorem xV {X:Cx}{pos:Pos}{e:Expr}{es:List Expr}{t:TA}{C:Addr}{B z G:String}{J:aj->St->Hp->Prop}(FB:ExcBaseFacts B z G ae) (O:excIn X.K C ae z=true) (hm:X.mg x=some (.ref C)) (hc:X.calm=true) (am:E8 X J)
  (hg:Gl X x) (ha:PA X (e::es) t) (ac: ↥24=false:=by decide) (U:aO (e::es) X.env=↥33::aO es X.env:=by rfl) (Y:(cG cpos (aO es X.env)).any (·.1)=false:=by rfl) :
  PS X (.Raise (some (.Call (.Name x np) (e::es) [] cpos)) none pos) (λD σ H=>t σ H λvs H1=>vs.length<=sizeLine/\J (.ref C) σ H1):=by
 intro pins s σ H D I h
 obtain ⟨bm,N,nm,q,bs,hdct,sn,sub,ab,col,dd,k0,k1,k2,k3,k5,mN,k,i,c,T⟩:=WQ I.ok.mod.kin O
 have h':=ha cpos pins s σ H _ I h
 rw [U] at h'
 refine wpAny_Raise_call_subT (C:=C) (nm:=nm) (q:=q) (N:=N) (bs:=bs) (bm:=bm) (hdct:=hdct) (sn:=sn) (sub:=sub) (ab:=ab) (col:=col) (dd:=dd) (k0:=k0) (k1:=k1) (k2:=k2) (k3:=k3) (k5:=k5)
  FB (mN:=mN) (T.hasType FB.hasBase) (I.ok.hd hc) (by rw [U];show (false || (cG cpos (aO es X.env)).any (·.1))=false;rw [Y];rfl) c (yV I hg hm ⟨rfl,?_⟩ ac)
 rw [U]
 refine iU (thn h' λl d ⟨vs,H2,b,r,g,j⟩=>⟨rfl,by rw [<- r.length];exact g,b.bk _ _ k,i.keeps b.bk,T.keeps b.bk,λh1 a f=>am pins σ H2 d h1 a (.ref C) _ b f j⟩)
theorem Fun.okX {w:bD}{K:ah}{mg:Str->Option aj}{base:Heap}{x:Str}{st:Stmt}{N:List Str}{k:Nat}{sp:Sp}(F:Fun K x z st f fd) (S:FnScope N ps (j7 st)) (len:∀vs H Q E,sp vs H Q E->vs.length=ps.length)
  (G:∀(j:aj) (A:bF) (outer:List Env) (s:Shared) (H:Hp) (vs:List V) (Q:VK) (E:XK),Room k (A.deeper (iY z (j7 st) s.heap.objs.size f j))->sp vs H Q E ->
   ∃t,PSs (ug (CX1 P w) P w K mg base N z (j7 st) f j A outer s H E) (jS st) t/\t { nx:=λ_ H'=>Q .non H',rt:=Q } (start N vs) H):FnOk P w K mg base (CX1 P w) (k+1) f fd ps sp:=by
 obtain ⟨h,g,kV,doc,pm,l,j,i,e,rfl,c,b⟩:=F.ex
 exact VY c b S len λA outer s H vs Q E d a=>G j A outer s H vs Q E d a
theorem CalX.mk' {w:bD}{K:ah}{mg:Str->Option aj}{base:Heap}{k:Nat}{x:Str}{ps:List Str}{st:Stmt}{f:Addr}{oc:aj}{od U:Option Addr}{Y:Array (Option aj)}{kV doc pm j z:aj}
  (X:K.In h) (G:h.Ns mainGlobals mg) (a:aY K mainGlobals x=some (some (.ref f)))
  (l:K.lookup f=some ⟨oc,od,.func ↥35,Y⟩) (c:cQ K j x=true) (k':c3 K (.ref f)=true)
  (hb:∀(kV doc pm:aj) (U:Option Addr) (j z:aj) (us:List aj),us.length=ps.length->cU ↥35 ⟨us,[]⟩=pure (ps.zip us))
  (ok:∀{f:Addr} {fd:FuncData},Fun K x x st f fd->FnOk P w K mg base (CX1 P w) k f fd ps sp):CalX P w K mg base k x ps sp:=by
 have F:=vp (st:=st) l c k'
 exact ⟨f,_,ok F,F.binds hb,bo X G a,k'⟩
end L2
end
section
namespace L2
open PySem.W
noncomputable abbrev Cx.atP (X:Cx) (pn:List (Addr×Obj)):Cx:={ X with pn:=pn }
noncomputable abbrev Cx.tryX (X:Cx) (pn:List (Addr×Obj)) (J:aj->St->Hp->Prop):Cx:={ X with pn:=pn,xe:=λe s1=>∃a cls b H',e = .ref a/\zy (X.atP pn) [] b H' s1 a cls .none/\J cls b H' }
noncomputable abbrev Cx.hand (X:Cx) (a:Addr):Cx:={ X with A:=X.A.mark (some (.ref a)),calm:=false,xe:=λ_ _=>False }
section
variable {X:Cx}{pins pn:List (Addr×Obj)}{σ:St}{H:Hp}{s:Shared}{J:aj->St->Hp->Prop}
theorem okP (ok:X.Ok) (Y:Cx) (h:Y={ X with pn:=Y.pn,xe:=Y.xe }):Y.Ok:=by
 rw [h]
 exact ⟨ok.mod,ok.kind,ok.glob,ok.blt,ok.above,ok.inj,ok.has,ok.cab,ok.hd,ok.frames,ok.stk,ok.exf,ok.bs,ok.bsz,ok.noex,ok.exfs,ok.funs,ok.frf⟩
theorem Inv.toTry (I:Inv X pins σ H s):Inv (X.tryX (X.pn++pins) J) [] σ H s :=
 ⟨okP I.ok _ rfl,I.os,I.bare,I.base,I.loc,I.cell,I.free,I.freeC,λp a=>I.pin p (by rw [aJ] at a;exact a),I.hok,I.len⟩
theorem Inv.ofTry (I:Inv (X.tryX pn J) pins σ H s):Inv (X.atP pn) [] σ H s :=
 ⟨okP I.ok _ rfl,I.os,I.bare,I.base,I.loc,I.cell,I.free,I.freeC,λp a=>I.pin p (cC _ (by rw [aJ] at a;exact a)),I.hok,I.len⟩
theorem Inv.ofP (I:Inv (X.atP (X.pn++pins)) [] σ H s):Inv X pins σ H s :=
 ⟨okP I.ok _ rfl,I.os,I.bare,I.base,I.loc,I.cell,I.free,I.freeC,λp a=>I.pin p (by rw [aJ];exact a),I.hok,I.len⟩
theorem Inv.ofTryP (I:Inv (X.tryX (X.pn++pins) J) [] σ H s):Inv X pins σ H s:=Inv.ofP (Inv.ofTry I)
theorem Inv.toHand (a:Addr) (I:Inv X pins σ H s):Inv (X.hand a) pins σ H s :=
 ⟨⟨I.ok.mod,I.ok.kind,I.ok.glob,I.ok.blt,I.ok.above,I.ok.inj,I.ok.has,I.ok.cab,(λz=>(by cases z)),I.ok.frames,I.ok.stk,I.ok.exf,I.ok.bs,I.ok.bsz,I.ok.noex,I.ok.exfs,I.ok.funs,I.ok.frf⟩,I.os,I.bare,I.base,I.loc,I.cell,I.free,I.freeC,I.pin,I.hok,I.len⟩
theorem En {D:Ends}(g:∀{σ H},Inv Y j σ H s'->Inv X pins σ H s') (h:SP Y j D f s'):SP X pins D f s':=by
 cases f with
 | next=>obtain ⟨a,H',I,q⟩:=h;exact ⟨a,H',g I,q⟩
 | brk=>obtain ⟨a,H',I,q⟩:=h;exact ⟨a,H',g I,q⟩
 | cont=>obtain ⟨a,H',I,q⟩:=h;exact ⟨a,H',g I,q⟩
 | ret u=>obtain ⟨v,a,H',I,r,q⟩:=h;exact ⟨v,a,H',g I,r,q⟩
theorem ZO:Acc (X.tryX pn J) J:=by
 intro pins σ H' s1 a cls f j
 obtain ⟨s,H,I,os,b,u,ok,c⟩:=f
 exact ⟨a,cls,σ,H',rfl,⟨s,H,Inv.ofTry I,os,b,u,ok,c⟩,j⟩
end
end L2
end
section
namespace L2
open PySem.W
section
variable {s:Shared}{A:bF}{prog:Program}{w:bD}{E:aj->Shared->Prop}
end
section
variable {X:Cx}
end
end L2
end
section
namespace L2
open PySem.W
end L2
end
section
namespace L2
open PySem.W
section
variable {X:Cx}{o e:Expr}{es:List Expr}{to:TE}{t:TA}{name:Str}{apos cpos:Pos}{id:String}{r:V->List V->Hp->VK->Prop}
end
end L2
end
section
namespace L2
open PySem.W
noncomputable abbrev kz (ifs:List Expr) (env:Env):Sem Bool:=A3 ifs true λc r=>if r=true then do let ok <- isTrue c env (eval c env);pure (cj ok) else pure (cj r)
noncomputable abbrev xO (elt tg iter tg2 iter2:Expr) (ifs ifs2:List Expr) (scope:Scope) (pos:Pos):Expr:=.ListComp elt [⟨tg,iter,ifs,0⟩,⟨tg2,iter2,ifs2,0⟩] scope pos
theorem Yh (elt tg iter tg2 iter2:Expr) (ifs ifs2:List Expr) (scope:Scope) (pos:Pos) (it acc:aj) (env:Env) :
  pM ↥6 0 it acc env=(fB iter.pos >>= λ_=>eC it >>= λr=>match r with
   | none=>pure (.done .next)
   | some v=>d8 tg it v >>= λ_=>iM tg env v >>= λ_=>kz ifs env >>= λok =>
    (if ok=true then (eval iter2 env >>= λx=>fB iter2.pos >>= λ_=>cK iter2 env x >>= λx=>dR [x] (m7 x) >>= λj=>runOwn (.compStart ↥6 1 j acc env) env >>= λ_=>again (.compLoop ↥6 0 it acc env))
     else again (.compLoop ↥6 0 it acc env))):=by
 rfl
theorem VM (elt tg iter tg2 iter2:Expr) (ifs ifs2:List Expr) (scope:Scope) (pos:Pos) (it acc:aj) (env:Env) :
  pM ↥6 1 it acc env=(fB iter2.pos >>= λ_=>eC it >>= λr=>match r with
   | none=>pure (.done .next)
   | some v=>d8 tg2 it v >>= λ_=>iM tg2 env v >>= λ_=>kz ifs2 env >>= λok =>
    (if ok=true then ((eval elt env >>= λx=>call (.builtin "list.append") [acc,x] >>= λ_=>pure ()) >>= λ_=>again (.compLoop ↥6 1 it acc env))
     else again (.compLoop ↥6 1 it acc env))):=by
 rfl
section
variable {s:Shared}{A:bF}{prog:Program}{w:bD}{R:nI->Shared->Prop}{elt tg iter tg2 iter2:Expr}{ifs ifs2:List Expr}{scope:Scope}{pos:Pos}{it acc:aj}{env:Env}
theorem Vt (I:Nat->Shared->Prop)
  (j:∀n s,I n s->ay (aF prog w) A (eC it) (λr G=>match r with
   | none=>R (.ok .next) G
   | some v=>ay (aF prog w) A (d8 tg2 it v) (λ_ s₂=>ay (aF prog w) A (iM tg2 env v) (λ_ s₃=>ay (aF prog w) A (kz ifs2 env) (λok z =>
      if ok=true then ay (aF prog w) A (eval elt env) (λx Y=>ay (aF prog w) A (call (.builtin "list.append") [acc,x]) (λ_ U=>∃m,m<n/\I m U) (λ_ _=>False) Y) (λ_ _=>False) z
      else ∃m,m<n/\I m z) (λ_ _=>False) s₃) (λ_ _=>False) s₂) (λ_ _=>False) G) (λ_ _=>False) s)
  (n:Nat) (h:I n s):cX (aF prog w) A (.compLoop ↥6 1 it acc env) R s:=by
 refine pL rfl I (λn s g=>?_) n h
 show ay _ A ((pM ↥6 1 it acc env).onRaise (λx=>do lE x env;mV x)) _ _ s
 refine sf ?_;rw [VM]
 refine af (cP (af (ba (j n s g) (λr G b=>?_) λ_ _ h'=>h'.elim)))
 cases r with
 | none=>exact wpAny_pure b
 | some v =>
  refine af (ba b (λ_ s₂ f=>?_) λ_ _ h'=>h'.elim)
  refine af (ba f (λ_ s₃ e=>af (ba e (λok z a=>?_) λ_ _ h'=>h'.elim)) λ_ _ h'=>h'.elim)
  cases ok with
  | false=>exact wpAny_pure ⟨rfl,a⟩
  | true=>exact af (af (ba a (λx Y d=>af (ba d (λ_ U c=>wpAny_pure (wpAny_pure ⟨rfl,c⟩)) λ_ _ h'=>h'.elim)) λ_ _ h'=>h'.elim))
theorem YA {R:nI->Shared->Prop}(z:cX (aF prog w) A (.compLoop ↥6 1 it acc env) R s)
  (h:ay (aF prog w) A (m7 it) (λj s'=>cX (aF prog w) A (.compLoop ↥6 1 j acc env) R s') (λ_ _=>False) s) :
  cX (aF prog w) A (.compStart ↥6 1 it acc env) R s:=by
 refine codeAny_of_tree ?_
 show ay _ _ ((compStart ↥6 1 it acc env).onRaise (λx=>do lE x env;fB theWindowsPlace)) _ _ s
 refine wpAny_notedAt ?_;unfold compStart;show ay _ _ (ask >>= _) _ _ s
 refine af (wpAny_askSetting (wpAny_ite ?_))
 split
 ·first | exact af (wpAny_pure (wpAny_pure (ie rfl z))) | exact wpAny_pure (ie rfl z)
 ·first
   | exact af (eY (af (cP (af (ba h (λj s' h'=>wpAny_pure (ie rfl h')) λ_ _ x=>x.elim)))))
   | (refine af (eY ?_);show ay _ _ (fB iter2.pos >>= _) _ _ s;exact af (cP (af (ba h (λj s' h'=>wpAny_pure (ie rfl h')) λ_ _ x=>x.elim))))
theorem Yb (I:Nat->Shared->Prop) (ab:∀x,cK iter2 env x=pure x)
  (j:∀n s,I n s->ay (aF prog w) A (eC it) (λr G=>match r with
   | none=>R (.ok .next) G
   | some v=>ay (aF prog w) A (d8 tg it v) (λ_ s₂=>ay (aF prog w) A (iM tg env v) (λ_ s₃=>ay (aF prog w) A (kz ifs env) (λok z =>
      if ok=true then ay (aF prog w) A (eval iter2 env) (λx Y=>ay (aF prog w) A (m7 x) (λi2 U=>cX (aF prog w) A (.compStart ↥6 1 i2 acc env) (λr s'=>match r with | .ok _=>∃m,m<n/\I m s' | .error _=>False) U) (λ_ _=>False) Y) (λ_ _=>False) z
      else ∃m,m<n/\I m z) (λ_ _=>False) s₃) (λ_ _=>False) s₂) (λ_ _=>False) G) (λ_ _=>False) s)
  (n:Nat) (h:I n s):cX (aF prog w) A (.compLoop ↥6 0 it acc env) R s:=by
 refine pL rfl I (λn s k=>?_) n h
 show ay _ A ((pM ↥6 0 it acc env).onRaise (λx=>do lE x env;mV x)) _ _ s
 refine sf ?_;rw [Yh]
 refine af (cP (af (ba (j n s k) (λr G b=>?_) λ_ _ h'=>h'.elim)))
 cases r with
 | none=>exact wpAny_pure b
 | some v =>
  refine af (ba b (λ_ s₂ i=>?_) λ_ _ h'=>h'.elim)
  refine af (ba i (λ_ s₃ g=>af (ba g (λok z a=>?_) λ_ _ h'=>h'.elim)) λ_ _ h'=>h'.elim)
  cases ok with
  | false=>exact wpAny_pure ⟨rfl,a⟩
  | true =>
   refine af (ba a (λx Y d=>af (cP (af (lY (ab x) (af (bC (ba d (λi2 U c=>af (wpAny_runOwn ?_)) λ_ _ h'=>h'.elim))))))) λ_ _ h'=>h'.elim)
   rw [Around.mark_none]
   refine dB c λr s' q=>?_
   cases r with
   | ok f=>exact wpAny_pure ⟨rfl,q⟩
   | error e=>exact q.elim
end
noncomputable def kG (acc:Addr) (Y:TG) (G:TT) (te:TE) (z:It) (NX:St->Hp->Prop) (U:St) (H5:Hp):Prop :=
 ∃g:Nat->Nat->St->Hp->Prop,(∃m,g 0 m U H5)/\∀j m f c,g j m f c->(z.stop j c/\NX f c)\/(z.go j c/\∃a:St->Hp->Prop,(∀h b,a h b->∃k,k<m/\g (j+1) k h b) /\
  ∀y b,z.yld j c y b->Y y f b λd n=>G d n λi l=>if i=true then te d l λv e=>∃ys,e acc=some (.lst ys)/\ys.length<sizeLine/\a d (upd e acc ↥64) else a d l)
section
variable {X:Cx}{pos:Pos}
noncomputable def G3 (own:Nat) (caps:List Nat) (G:TI) (g:TG) (U:TT) (j:TI) (Y:TG) (z:TT) (te:TE):TE:=λσ H Q=>G σ H λJ H1=>∀acc,H1 acc=none ->
 ∃W:Nat->Nat->St->Hp->Prop,(∃m,W 0 m (vj own caps σ) (upd H1 acc (.lst [])))/\∀i m d H',W i m d H' ->
  (J.stop i H'/\Q (.ref acc) H') \/
  (J.go i H'/\∃b:St->Hp->Prop,(∀c H2,b c H2->∃e,e<m/\W (i+1) e c H2) /\
   ∀x H2,J.yld i H' x H2->g x d H2 λa l=>U a l λok f=>if ok=true then j a f λh k=>kG acc Y z te h b a k else b a f)
theorem YN {scope:Scope}{own:Nat}{G:List (Str×Addr)}{tg elt iter tg2 iter2:Expr}{ifs ifs2:List Expr}{g2:TG}{ti a8:TT}{a6:TI}{te:TE}{H:Hp}{s:Shared}{fp:List Addr}{it:Addr}
    {Q:VK} {RR:aj->Addr->nI->Shared->Prop} {E:aj->Shared->Prop}
  (hc:X.calm=true) (S:CompSc osc ON scope own N caps) (dd:X.env.scope=osc) (hN:X.N=ON) (dv:∀x,G.lookup x=if (x,bj)∈scope.names then X.env.cells.lookup x else none)
  (hg:∀G C s H ex,PG ↥61 tg g) (dn:∀G C s H ex,gC ↥61 ifs ti) (dr:∀G C s H ex,PI ↥61 tg2 iter2 a6) (dt:∀G C s H ex,PG ↥61 tg2 g2) (b3:∀G C s H ex,gC ↥61 ifs2 a8) (he:∀G C s H ex,PE ↥61 elt te) (dg:∀env x,cK iter2 env x=pure x)
  (I:Inv X pins σ H s) (T:Turn X.prog X.w X.K tg J fp it tn) (st:tn 0 s.heap) (hf:∀b∈fp,yN X pins H b)
  (hw:∀acc,H acc=none->∃W:Nat->Nat->St->Hp->Prop,↥142/\∀i m U H',W i m U H' ->
   (J.stop i H'/\Q (.ref acc) H')\/(J.go i H'/\∃NX:St->Hp->Prop,↥39 /\
    ∀x H2,J.yld i H' x H2->g x U H2 λY H3=>ti Y H3 λok H4=>if ok=true then a6 Y H4 λJ2 H5=>kG acc g2 a8 te J2 NX Y H5 else NX Y H4))
  (dF:∀(D C:Addr) (H':Hp) (s':Shared),Inv X pins σ H' s'->BlockAt X pins H' C->(∃m,s'.heap.Ns C m)->Q (.ref D) H'->RR (.ref D) C (.ok .next) s') :
  ay ↥2 X.A (pN []) (λacc s₃=>ay ↥2 X.A (nO scope X.env.globals G [] X.env.qual none .none (some X.env)) (λa1 s₄ =>
   cX ↥2 X.A (.compStart ↥6 0 (.ref it) acc { a1 with scope:=tX scope X.env }) (RR acc a1.locals) s₄) E s₃) E s:=by
 have bn:∀b∈fp,b<s.heap.objs.size:=λb a=>by
  obtain ⟨o,e,_⟩:=T.obj _ _ st b a
  exact av e
 refine bT (iV S.nocell (by intro y hy;simp at hy) (λh₁ R l=>?_) S.kind)
 dsimp only at R l ⊢
 generalize an:s.heap.push { cls:=.type "list",dict:=none,data:=.seq ([]:List aj).toArray }=H2 at R l ⊢
 have ap:H2.objs.size=s.heap.objs.size+1:=by rw [<- an,c7]
 have bm:∀b o,s.heap.get? b=some o->h₁.get? b=some o:=λb o e=>l.extBut b o (aD (by rw [ap];exact bU (av e))) (ai _ (an ▸ ai _ e))
 have eD:h₁.get? s.heap.objs.size=some { cls:=.type "list",data:=.seq #[] }:=l.extBut _ _ (aD ∅) (ai _ (an ▸ aB _ rfl))
 have ds:H s.heap.objs.size=none:=I.hok.fresh (au _)
 obtain ⟨W,⟨m0,w0⟩,b1⟩:=hw s.heap.objs.size ds
 have dk:h₁.Ns H2.objs.size λ_=>none:=R
 have I1:Inv ↥11 [] (vj own caps σ) ↥152 { s with heap:=h₁,toks:=s.toks+([]:List (Str×aj)).length } :=
  vN S dd hN dv I hf bn rfl ap bm eD dk _
 have bi:tn 0 h₁:=T.keep 0 _ _ st λb _ o e=>bm b o e
 have aL:∀{H':Hp},↥55->∀b∈fp,yN ↥11 [] H' b:=λ{H'} hn b a=>by
  have ok:=I1.ok
  exact ⟨hn b a,(ok.exf b a).1,ok.exfs b a,.inl a,(ok.exf b a).2,λp hp=>absurd (show p∈([]:List (Addr×Obj)) from hp) (by simp)⟩
 have b6:∀{U:St} {H':Hp} {s':Shared},Inv ↥11 [] U H' s'->Q ↥13 H'->RR ↥13 H2.objs.size (.ok .next) s':=λ{U H' s'} J1 q=>by
  have J2:Inv X pins σ H' s':=I.call' (ch:=fp) J1.os J1.base J1.hok J1.bare λb a=>⟨(hf b a).2.2.2.1,(hf b a).2.1,(hf b a).2.2.2.2.1,(hf b a).2.2.2.2.2⟩
  obtain ⟨m,hm,_⟩:=J1.loc
  refine dF _ _ H' s' J2 ⟨J1.free,cH (aT I.lt ∅),aK I.sz ∅,λx c e z=>?_,λp hp z=>?_⟩ ⟨m,hm⟩ q
  ·obtain ⟨v,y⟩:=I.cell x c e
   have h1:H2.objs.size<s.heap.objs.size:=z ▸ y.lt
   exact absurd h1 ∅
  ·have h1:H2.objs.size<s.heap.objs.size:=z ▸ av (I.pin p hp).1
   exact absurd h1 ∅
 have am:∀s₃:Shared,s₃={ s with heap:=h₁,toks:=s.toks+([]:List (Str×aj)).length } ->
   cX ↥2 X.A (.compLoop ↥6 0 (.ref it) ↥13 (pK scope G H2.objs.size X.env)) (RR ↥13 H2.objs.size) s₃:=by
  rintro s₃ rfl
  refine Yb (λn s'=>∃i U H',Inv ↥11 [] U H' s'/\tn i s'.heap/\ ↥55/\W i n U H') (dg _) ?_ m0
   ⟨0,_,_,I1,bi,λb a=>by rw [j8 (aD (bn b a))];exact (hf b a).1,w0⟩
  rintro n s3 ⟨i,Y,H3,I3,bd,bq,w3⟩
  rcases b1 i n Y H3 w3 with ⟨b2,qn⟩ | ⟨go,NX,dp,step⟩
  ·refine thn (T.done ↥11 rfl rfl rfl hc i [] s3 Y H3 _ I3 (aL bq) bd b2) λr s4 ⟨P,I4⟩=>?_
   subst P
   exact b6 I4 qn
  ·refine thn (T.item ↥11 rfl rfl rfl hc i [] s3 Y H3 _ I3 (aL bq) bd go) λr s4 ⟨u,P,h4⟩=>?_
   subst P
   refine thn h4 λ_ s5 ⟨x,H5,I5,r5,y5,ae,dD⟩=>?_
   have dT:=I5.pinned (aL dD) (T.obj _ _ ae)
   refine thn (hg G H2.objs.size s H fp _ s5 Y H5 x u _ dT r5 (step x H5 y5)) λ_ s6 ⟨σ6,H6,I6,q6⟩=>?_
   refine thn (dn G H2.objs.size s H fp _ s6 σ6 H6 _ I6 q6) λok s7 ⟨H7,I7,q7⟩=>?_
   have again:∀{s8:Shared} {σ8:St} {H8:Hp},Inv ↥11 ([]++zC fp s5.heap) σ8 H8 s8->NX σ8 H8->∃m,m<n/\∃i U H',Inv ↥11 [] U H' s8/\tn i s8.heap/\ ↥55/\W i m U H':=λ{s8 σ8 H8} I8 n8=>by
    obtain ⟨m',hm,w8⟩:=dp σ8 H8 n8
    refine ⟨m',hm,i+1,σ8,H8,I8.unpinned,T.keep _ _ _ ae λb a o e=>(I8.pin (b,o) ↥102).1,λb a=>?_,w8⟩
    obtain ⟨o,e,d⟩:=T.obj _ _ ae b a
    exact (I8.pin (b,o) ↥102).2.1
   cases ok with
   | false =>
    rw [if_neg ar] at q7 ⊢
    exact again I7 q7
   | true =>
    rw [if_pos rfl] at q7 ⊢
    refine thn (dr G H2.objs.size s H fp _ s7 σ6 H7 _ I7 q7) λv s8 h8=>thn h8 λec s9 h9=>?_
    obtain ⟨dc,B,a7,J2,H9,e,I9,T2,a9,f9,W2,⟨m2,w2⟩,a2⟩:=h9
    subst e
    have k:∀{H':Hp},(∀b∈B,H' b=none)->∀b∈B,yN ↥11 ([]++zC fp s5.heap) H' b:=λhn b a=>⟨hn b a,(f9 b a).2⟩
    have ac:cX ↥2 X.A (.compLoop ↥6 1 (.ref dc) ↥13 (pK scope G H2.objs.size X.env)) (λr s'=>match r with | .ok _=>∃m,m<n/\∃i U H',Inv ↥11 [] U H' s'/\tn i s'.heap/\ ↥55/\W i m U H' | .error _=>False) s9:=by
     refine Vt (λn2 s'=>∃j U H',Inv ↥11 ([]++zC fp s5.heap) U H' s'/\a7 j s'.heap/\(∀b∈B,H' b=none)/\W2 j n2 U H') ?_ m2 ⟨0,_,_,I9,a9,λb a=>(f9 b a).1,w2⟩
     rintro n2 bl ⟨j,Z,a0,bt,al,as,cm⟩
     rcases a2 j n2 Z a0 cm with ⟨a3,da⟩ | ⟨dy,br,b4,a4⟩
     ·refine thn (T2.done ↥11 rfl rfl rfl hc j _ bl Z a0 _ bt (k as) al a3) λr cv ⟨P,d2⟩=>?_
      subst P
      exact again d2 da
     ·refine thn (T2.item ↥11 rfl rfl rfl hc j _ bl Z a0 _ bt (k as) al dy) λr cv ⟨u2,P,dx⟩=>?_
      subst P
      refine thn dx λ_ bk ⟨x2,b0,d1,cL,ce,O,b5⟩=>?_
      have cb:=d1.pinned (k b5) (T2.obj _ _ O)
      refine thn (dt G H2.objs.size s H fp _ bk Z b0 x2 u2 _ cb cL (a4 x2 b0 ce)) λ_ ct ⟨V,ea,d0,c4⟩=>?_
      refine thn (b3 G H2.objs.size s H fp _ ct V ea _ d0 c4) λc9 cs ⟨d3,bs,ab⟩=>?_
      have L:∀{h:Shared} {t:St} {f:Hp},Inv ↥11 (([]++zC fp s5.heap)++zC B bk.heap) t f h->br t f->∃m,m<n2/\∃j U H',Inv ↥11 ([]++zC fp s5.heap) U H' h/\a7 j h.heap/\(∀b∈B,H' b=none)/\W2 j m U H':=λ{h t f} M db=>by
       obtain ⟨m',hm,ci⟩:=b4 t f db
       refine ⟨m',hm,j+1,t,f,M.unpinned,T2.keep _ _ _ O λb a o e=>(M.pin (b,o) ↥102).1,λb a=>?_,ci⟩
       obtain ⟨o,e,d⟩:=T2.obj _ _ O b a
       exact (M.pin (b,o) ↥102).2.1
      cases c9 with
      | false =>
       rw [if_neg ar] at ab ⊢
       exact L bs ab
      | true =>
       rw [if_pos rfl] at ab ⊢
       refine thn (he G H2.objs.size s H fp _ cs V d3 _ bs ab) λcr h ⟨a5,f,M,cy,ys,dK,cd,c2⟩=>?_
       refine thn (qq _ h V f ↥13 [a5] _ [cr] (λ_ bv=>br V bv) M rfl (.cons cy .nil) ⟨_,ys,a5,rfl,rfl,dK,cd,c2⟩) λ_ eb ⟨_,bv,dV,_,c1⟩=>?_
       exact L dV c1
    exact YA ac (T2.self _ 0 _ _ _ a9 ac)
 exact iu (am _ rfl) (T.self _ 0 _ _ _ bi (am _ rfl))
theorem Ub {own:Nat}(S:CompSc osc ON scope own N caps)
  (hc:X.calm=true) (z:X.env.scope=osc) (hN:X.N=ON) (hi:PI X tg iter wi)
  (hg:∀j C s H ex,PG ↥10 tg g) (ac:∀j C s H ex,gC ↥10 ifs ti) (ae:∀j C s H ex,PI ↥10 tg2 iter2 U) (al:∀j C s H ex,PG ↥10 tg2 g2) (G:∀j C s H ex,gC ↥10 ifs2 Y) (he:∀j C s H ex,PE ↥10 elt te)
  (hs:∀x,cK iter X.env x=pure x:=by intro _;rfl) (ab:∀env x,cK iter2 env x=pure x:=by intro _ _;rfl):PE X (.ListComp elt [⟨tg,iter,ifs,0⟩,⟨tg2,iter2,ifs2,0⟩] scope pos) (G3 own caps wi g ti U g2 Y te):=by
 intro pins s σ H Q I h
 obtain ⟨j,a,d⟩:=yQ (JZ S z I)
 rw [oG]
 refine dX (use:=none) rfl hs a S.kind S.loc ↥114
 obtain ⟨it,fp,p,J,H2,e,n,T,b,k,f⟩:=h2
 subst e
 refine YN (RR:=λacc C=>sW ↥2 X.A X.xe none ↥51 acc C) hc S z hN d hg ac ae al G he ab n T b k f λD C H' s' l B ⟨m,i⟩ q=>?_
 exact ⟨m,i,λh' c=>⟨.ref D,H',B.gone l c,rfl,q⟩⟩
end
end L2
end
section
namespace L2
open PySem.W
structure CalM (P:Program) (w:bD) (K:ah) (mg:Str->Option aj) (base:Heap) (k:Nat) (C:Addr) (m:Str) (ps:List Str) (sp:Sp):Prop where
 ex:∃f fd,FnOk P w K mg base CX0 k f fd ps sp/\y8 K fd ps []/\Meth K C m f
structure CalMX (P:Program) (w:bD) (K:ah) (mg:Str->Option aj) (base:Heap) (k:Nat) (C:Addr) (m:Str) (ps:List Str) (sp:Sp):Prop where
 ex:∃f fd,FnOk P w K mg base (CX1 P w) k f fd ps sp/\y8 K fd ps []/\Meth K C m f
section
variable {X:Cx}{k:Nat}{f C:Addr}{fd:FuncData}{ps:List Str}{sp:Sp}{x m:Str}{p pos apos:Pos}{e o:Expr}{es:List Expr}{ta:TE}{t:TA}{J:aj->St->Hp->Prop}
theorem E9 {pins:List (Addr×Obj)}{σ:St}{s:Shared}{Q:VK}{us:List aj}(F:FnOk X.prog X.w X.K X.mg X.base (CX1 X.prog X.w) k f fd ps sp) (z:Room k X.A) (G:y8 X.K fd ps []) (U:Acc X J)
  (I:Inv X pins σ H s) (r:jI vs us) (h:sp vs H Q λcls _ H'=>J cls σ H'):ay ↥2 X.A (call (.ref f) us) ↥51 X.xe s:=by
 have g:us.length=ps.length:=by rw [<- r.length];exact F.len _ _ _ _ h
 have d:=G s us I.kIn (by rw [aJ];exact g)
 rw [aJ] at d
 refine i4 (dB (F.run X.A X.stack s H ⟨us,[]⟩ us vs Q _ z I.env0 d r h) λr s' c=>?_)
 cases r with
 | error e =>
  obtain ⟨a,cls,H',rfl,os,b,u,ok,i,j⟩:=c
  exact U pins σ H' s' a cls ⟨s,H,I,os,b,u,ok,i⟩ j
 | ok fl =>
  cases fl with
  | ret u=>exact I.after c
  | next=>exact bB c
  | brk=>exact bB c
  | cont=>exact bB c
theorem pe_m (he:PE X o ta) (c:Cls X.K C) (cm:CalM X.prog X.w X.K X.mg X.base k C m ps sp) (Y:Room k X.A) (ha:PA X (e::es) t)
  (z:aO (e::es) X.env=↥33::aO es X.env:=by rfl) (G: (↥67).any (·.1)=false:=by rfl)
  (U:eval ↥53 X.env=(do let j <- eval o X.env;fB apos.atName;let (f,first) <- dR [j] (iN j m pl);mm pos f first (cG pos (aO (e::es) X.env)) ↥127):=by rfl) :
  PE X ↥53 (Y7 C m sp [] E0 ta t):=by
 obtain ⟨f,fd,F,b,a⟩:=cm.ex
 exact UI he c a F Y b .nil VW ha z G U
theorem WC (U:PE X o ta) (c:Cls X.K C) (Y:CalM X.prog X.w X.K X.mg X.base k C m ps sp) (G:Room k X.A)
  (z:eval ↥123 X.env=(do let j <- eval o X.env;fB apos.atName;let (f,first) <- dR [j] (iN j m pl);mm pos f first (cG pos (aO [] X.env)) ↥127):=by rfl) :
  PE X ↥123 (Y7 C m sp [] E0 ta vO):=by
 obtain ⟨f,fd,F,b,a⟩:=Y.ex
 exact VZ U c a F G b .nil VW z
inductive tMethXI (C:Addr) (m:Str) (sp:Sp) (J:aj->St->Hp->Prop) (t:TA) (σ:St) (Q:VK) (x:V) (H1:Hp):Prop
 | mk (a:_) (dx:_) (fs:_) (_:x = .ref a) (_:H1 a=some ↥126) (_:fs.lookup m=none) (_:t σ H1 λvs H2=>sp (x::vs) H2 Q λcls _ H'=>J cls σ H')
noncomputable def GQ (C:Addr) (m:Str) (sp:Sp) (J:aj->St->Hp->Prop) (ta:TE) (t:TA):TE:=λσ H Q=>ta σ H λx H1=>tMethXI C m sp J t σ Q x H1
theorem zU (he:PE X o ta) (c:Cls X.K C) (cm:CalMX X.prog X.w X.K X.mg X.base k C m ps sp) (Y:Room k X.A) (ac:Acc X J) (ha:PA X (e::es) t)
  (z:aO (e::es) X.env=↥33::aO es X.env:=by rfl) (G: (↥67).any (·.1)=false:=by rfl)
  (U:eval ↥53 X.env=(do let j <- eval o X.env;fB apos.atName;let (f,first) <- dR [j] (iN j m pl);mm pos f first (cG pos (aO (e::es) X.env)) ↥127):=by rfl) :
  PE X ↥53 (GQ C m sp J ta t):=by
 obtain ⟨f,fd,F,p,b⟩:=cm.ex
 intro pins s σ H Q I h
 refine ft (pl:=pl) (thn (he pins s σ H _ I h) λu s1 ⟨x,H1,g,i,a,dx,fs,ex,v,l,q⟩=>?_) U
 subst ex
 obtain rfl:u=aW a:=i
 refine yL g v c b l ?_
 refine dH (first:=[.ref a]) (h₀:=X.base) I.ok.mod.kin b.kp (thn (ha pos pins s1 σ H1 _ g q) λus y ⟨vs,H2,d,r,n⟩=>⟨d.kIn,?_⟩) z G
 exact E9 (us:=.ref a::us) (vs:=.ref a::vs) F Y p ac d (.cons rfl r) n
structure MakX (P:Program) (w:bD) (K:ah) (mg:Str->Option aj) (base:Heap) (k:Nat) (C:Addr) (x:Str) (ps:List Str) (sp:Sp):Prop where
 ex:∃f fd,FnOk P w K mg base (CX1 P w) k f fd ps sp/\y8 K fd ps []/\Mk K C f/\mg x=some (.ref C)
noncomputable def Gk (C:Addr) (sp:Sp) (J:aj->St->Hp->Prop) (t:TA):TE:=λσ H Q=>t σ H λa H1=>∀x dx,H1 x=none->H1 dx=none->dx≠x ->
 sp (.ref x::a) (upd (upd H1 dx (.own x)) x (.ins C dx [])) (λv H2=>v = .non/\Q (.ref x) H2) λcls _ H'=>J cls σ H'
theorem UX (c:MakX X.prog X.w X.K X.mg X.base k C x ps sp) (U:Room (k+1) X.A) (ac:Acc X J) (Y:Gl X x) (ha:PA X (e::es) t) (G: ↥24=false:=by decide) (he:aO (e::es) X.env=↥33::aO es X.env:=by rfl) (z: (↥67).any (·.1)=false:=by rfl) :
  PE X ↥65 (Gk C sp J t):=by
 obtain ⟨f,fd,F,N,M,E⟩:=c.ex
 intro pins y σ H0 Q m O
 refine cT (yV m Y E ?_ G)
 refine dH (h₀:=X.base) m.ok.mod.kin M.kp (thn (ha pos pins y σ H0 _ m O) λg s ⟨q,H,I,r,h⟩=>⟨I.kIn,?_⟩) he z
 have o:=h ↥16 s.heap.objs.size (I.hok.fresh (ib _)) (I.hok.fresh (au _)) (aD (dG _))
 have i:=Inv.made (C:=C) I
 have n:jI (V.ref ↥16::q) (aW ↥16::g):=.cons rfl r
 have L:(aW ↥16::g).length=ps.length:=by rw [<- n.length];exact F.len _ _ _ _ o
 have l:=N { s with heap:=_ } (aW ↥16::g) i.kIn (by rw [aJ];exact L)
 rw [aJ] at l
 refine i4 (U8 (f:=f) I.kIn M.makes M.init (beq_iff_eq.mp M.fn) (dB (F.run _ X.stack _ _ ⟨aW ↥16::g,[]⟩ (aW ↥16::g) _ _ _ (U.make C g []) (i.env0.make C g []) l n o) λr s' d=>?_))
 cases r with
 | error e =>
  obtain ⟨a,cls,H',rfl,os,b,u,ok,P,j⟩:=d
  exact ac pins σ H' s' a cls ⟨_,_,i,os,b,u,ok,P⟩ j
 | ok fl =>
  cases fl with
  | ret u =>
   obtain ⟨v,H',S,B,R,D⟩:=i.after d
   subst R
   exact ⟨B,⟨V.ref ↥16,H',S,rfl,D⟩⟩
  | next=>exact bB d
  | brk=>exact bB d
  | cont=>exact bB d
theorem xg {f:Str}(K:ah) (j:PE X e ta) (z:fS e f X.env (eval e X.env)=eval e X.env:=by rfl) (G:X.K=K:=by rfl):PE X (.Attribute e f pos) (EE K ta f):=by subst G;exact GK j z
theorem uW {f:Str}(K:ah) (G:PE X o ta) (j:PE X value tv) (z:lC value (some (.Attribute o f pos')) pos.line X.env=pure false:=by rfl) (U:X.K=K:=by rfl):PS X (.Assign [.Attribute o f pos'] value pos) (Ez K ta tv f):=by subst U;exact GD G j z
end
theorem WX {K:ah}{xs:List V}{U:TG}{G:TT}{te:TE}{Y:St->Hp->Prop}{σ:St}{H:Hp}(Pv:Nat->St->Hp->Prop) (h0:Pv 0 σ H) (hl:∀i σ H,i<=xs.length->Pv i σ H->SqT K H a xs)
  (hs:∀i x σ H,xs[i]? = some x->Pv i σ H->U x σ H λj H3=>G j H3 λok H4=>if ok=true then te j H4 λv H5=>∃ys,H5 acc=some (.lst ys)/\ys.length<sizeLine/\Pv (i+1) j (upd H5 acc ↥64) else Pv (i+1) j H4)
  (hd:∀σ H,Pv xs.length σ H->Y σ H):kG acc U G te (Itt K a) Y σ H:=by
 refine ⟨λi m σ H=>m=xs.length-i/\i<=xs.length/\Pv i σ H,⟨xs.length,by simp,aN _,h0⟩,λi m σ H z=>?_⟩
 obtain ⟨rfl,hi,p⟩:=z
 have q:=hl i σ H hi p
 by_cases b:i<xs.length
 ·refine .inr ⟨⟨xs,xs[i],q,by simp [b]⟩,Pv (i+1),λd H' c=>⟨xs.length-(i+1),∅,rfl,b,c⟩,λx H' y=>?_⟩
  obtain ⟨e,y⟩:=y
  subst e
  exact hs i x σ _ (y xs q) p
 ·obtain rfl:i=xs.length:=∅
  exact .inl ⟨⟨xs,q,au _⟩,hd σ H p⟩
theorem V7 {K:ah}{acc:Addr}{xs:List V}{g g2:TG}{ti Y:TT}{U:TI}{te:TE}{R:Hp->Prop}{σ:St}{H:Hp}(Pv:Nat->St->Hp->Prop) (h0:Pv 0 σ H) (hl:∀i σ H,i<=xs.length->Pv i σ H->SqT K H a xs)
  (hs:∀i x σ H,xs[i]? = some x->Pv i σ H->g x σ H λj H3=>ti j H3 λok G=>if ok=true then U j G λJ2 H5=>kG acc g2 Y te J2 (Pv (i+1)) j H5 else Pv (i+1) j G)
  (hd:∀σ H,Pv xs.length σ H->R H) :
  ∃W:Nat->Nat->St->Hp->Prop,↥76/\∀i m σ' H',W i m σ' H' ->
   ((Itt K a).stop i H'/\R H')\/((Itt K a).go i H'/\∃NX:St->Hp->Prop,↥39 /\
    ∀x H2,(Itt K a).yld i H' x H2->g x σ' H2 λj H3=>ti j H3 λok G=>if ok=true then U j G λJ2 H5=>kG acc g2 Y te J2 NX j H5 else NX j G):=by
 refine ⟨λi m σ H=>m=xs.length-i/\i<=xs.length/\Pv i σ H,⟨xs.length,by simp,aN _,h0⟩,λi m σ H z=>?_⟩
 obtain ⟨rfl,hi,p⟩:=z
 have q:=hl i σ H hi p
 by_cases b:i<xs.length
 ·refine .inr ⟨⟨xs,xs[i],q,by simp [b]⟩,Pv (i+1),λσ' H' c=>⟨xs.length-(i+1),∅,rfl,b,c⟩,λx H' y=>?_⟩
  obtain ⟨e,y⟩:=y
  subst e
  exact hs i x σ _ (y xs q) p
 ·obtain rfl:i=xs.length:=∅
  exact .inl ⟨⟨xs,q,au _⟩,hd σ H p⟩
theorem Qq :Acc X λ_ _ _=>False:=λ_ _ _ _ _ _ _ z=>z.elim
end L2
end
section
namespace L2
open PySem.W
inductive gN (K:ah) (n:Str) (s:Stmt):Prop
 | mk {f:Addr} {oc kV dc pm cd ct:aj} {od an:Option Addr} {sl:Array (Option aj)} (a:nsIn K mainGlobals n=some (some (.ref f))) (l:K.lookup f=some ⟨oc,od,.func (fnOf n n (qg s) (jS s) (j7 s) .none kV dc pm an cd ct),sl⟩) (c:codeIn K cd n=true) (k:keepIn K (.ref f)=true)
inductive gM (K:ah) (C:Addr) (m q:Str) (s:Stmt):Prop
 | mk {f:Addr} {oc kV dc pm cd ct:aj} {od an:Option Addr} {sl:Array (Option aj)} (a:findIn K (.ref C) m=some (some (.ref f))) (i:isFn K (.ref f)=true) (l:K.lookup f=some ⟨oc,od,.func (fnOf m q (qg s) (jS s) (j7 s) .none kV dc pm an cd ct),sl⟩) (c:codeIn K cd q=true) (k:keepIn K (.ref f)=true)
structure gE (K:ah) (n:Str) (C:Addr):Prop where
 e:nsIn K mainGlobals n=some (some (.ref C))
 x:excIn K C [.type "ValueError",.type "Exception",.type "BaseException",.type "object"] "ValueError.__new__" = true
 m:exmOne K (.ref C) (.ref C)=some true
noncomputable abbrev gB (x q:Str) (st:Stmt) (ps:List Str):Prop:=∀(kV doc pm:aj) (d:Option Addr) (b c:aj) (a:List aj),a.length=ps.length->cU (fnOf x q (qg st) (jS st) (j7 st) .none kV doc pm d b c) ⟨a,[]⟩=pure (ps.zip a)
inductive Zt (P:Program) (w:bD) (K:ah) (mg:Str->Option aj) (base:Heap):Prop
 | mk {h:Heap} (X:K.In h) (G:h.Ns mainGlobals mg)
section
variable {P:Program}{w:bD}{K:ah}{mg:Str->Option aj}{base:Heap}{k:Nat}{x q:Str}{ps:List Str}{sp:Sp}{st:Stmt}{C:Addr}
theorem gN.cal (a:gN K x st) (z:Zt P w K mg base) (j:gB x x st ps)
  (ok:∀{f:Addr} {fd:FuncData},Fun K x x st f fd->FnOk P w K mg base CX0 k f fd ps sp):Cal P w K mg base k x ps sp:=by
 obtain ⟨a,l,c,b⟩:=a
 obtain ⟨X,G⟩:=z
 exact Cal.mk' X G a l c b j ok
theorem gN.calX (a:gN K x st) (z:Zt P w K mg base) (j:gB x x st ps)
  (ok:∀{f:Addr} {fd:FuncData},Fun K x x st f fd->FnOk P w K mg base (CX1 P w) k f fd ps sp):CalX P w K mg base k x ps sp:=by
 obtain ⟨a,l,c,b⟩:=a
 obtain ⟨X,G⟩:=z
 exact CalX.mk' X G a l c b j ok
theorem gM.cal (a:gM K C x q st) (z:Zt P w K mg base) (j:gB x q st ps)
  (ok:∀{f:Addr} {fd:FuncData},Fun K x q st f fd->FnOk P w K mg base CX0 k f fd ps sp):CalM P w K mg base k C x ps sp:=by
 obtain ⟨a,i,l,c,b⟩:=a
 have F:=vp (st:=st) l c b
 exact ⟨_,_,ok F,F.binds j,⟨a,i,b⟩⟩
theorem gM.calX (a:gM K C x q st) (z:Zt P w K mg base) (j:gB x q st ps)
  (ok:∀{f:Addr} {fd:FuncData},Fun K x q st f fd->FnOk P w K mg base (CX1 P w) k f fd ps sp):CalMX P w K mg base k C x ps sp:=by
 obtain ⟨a,i,l,c,b⟩:=a
 have F:=vp (st:=st) l c b
 exact ⟨_,_,ok F,F.binds j,⟨a,i,b⟩⟩
theorem gM.mak (a:gM K C "__init__" q st) (z:Zt P w K mg base) (m:makesIn K C=true) (j:keepIn K (.ref C)=true) (n:nsIn K mainGlobals y=some (some (.ref C))) (U:gB "__init__" q st ps)
  (ok:∀{f:Addr} {fd:FuncData},Fun K "__init__" q st f fd->FnOk P w K mg base (CX1 P w) k f fd ps sp):MakX P w K mg base k C y ps sp:=by
 obtain ⟨a,i,l,c,b⟩:=a
 obtain ⟨X,G⟩:=z
 have F:=vp (st:=st) l c b
 exact ⟨_,_,ok F,F.binds U,⟨m,a,i,j⟩,mg_of X G n⟩
end
theorem bnd1 {ps:List Str}{us:List aj}(j:us.length=1) (h:∀a,cU fd ⟨[a],[]⟩=pure (ps.zip [a])):cU fd ⟨us,[]⟩=pure (ps.zip us):=match us,j with | [a],_=>h a
theorem bnd2 {ps:List Str}{us:List aj}(j:us.length=2) (h:∀a b,cU fd ⟨[a,b],[]⟩=pure (ps.zip [a,b])):cU fd ⟨us,[]⟩=pure (ps.zip us):=match us,j with | [a,b],_=>h a b
theorem bnd3 {ps:List Str}{us:List aj}(j:us.length=3) (h:∀a b c,cU fd ⟨[a,b,c],[]⟩=pure (ps.zip [a,b,c])):cU fd ⟨us,[]⟩=pure (ps.zip us):=match us,j with | [a,b,c],_=>h a b c
theorem bnd4 {ps:List Str}{us:List aj}(j:us.length=4) (h:∀a b c d,cU fd ⟨[a,b,c,d],[]⟩=pure (ps.zip [a,b,c,d])):cU fd ⟨us,[]⟩=pure (ps.zip us):=match us,j with | [a,b,c,d],_=>h a b c d
theorem bnd5 {ps:List Str}{us:List aj}(j:us.length=5) (h:∀a b c d e,cU fd ⟨[a,b,c,d,e],[]⟩=pure (ps.zip [a,b,c,d,e])):cU fd ⟨us,[]⟩=pure (ps.zip us):=match us,j with | [a,b,c,d,e],_=>h a b c d e
theorem bnd6 {ps:List Str}{us:List aj}(j:us.length=6) (h:∀a b c d e f,cU fd ⟨[a,b,c,d,e,f],[]⟩=pure (ps.zip [a,b,c,d,e,f])):cU fd ⟨us,[]⟩=pure (ps.zip us):=match us,j with | [a,b,c,d,e,f],_=>h a b c d e f
end L2
end
section
namespace L2
open PySem.W
theorem Je:entryFor table "proto.unchain" = some fC.«proto.unchain»:=entryFor_of_fast (by kernel_rfl)
noncomputable def Q3 (A:bF) (h:Heap):Prop:=∃e oe ws,A.handled=some (.ref e)/\h.get? e=some oe/\oe.data = .fields ws/\ws[2]? = some .none
theorem Q3.keep {A:bF}{h':Heap}(x:Q3 A h) (k:∀b o ws,h.get? b=some o->o.data = .fields ws->ws[2]? = some .none->∃o' j,h'.get? b=some o'/\o'.data = .fields j/\j[2]? = some .none):Q3 A h':=by
 obtain ⟨e,oe,ws,a,b,c,d⟩:=x
 obtain ⟨o',j,i,g,f⟩:=k e oe ws b c d
 exact ⟨e,o',j,a,i,g,f⟩
section
variable {prog:Program}{w:bD}{A:bF}{E:aj->Shared->Prop}{s:Shared}
theorem Zv {α:Type}{e:Addr}{oe:Obj}{vs:Array aj}{Q:α->Shared->Prop}(G:Q3 A s.heap) (j:s.heap.get? e=some oe) (gd:oe.data = .fields vs) (z:2<vs.size) (new:∀x,A.handled=some (.ref x)->x≠e)
  (k:∀x,E (.ref e) { s with heap:=s.heap.update e (fq (·.setIfInBounds 2 x)) }):ay (aF prog w) A (raiseNew (.ref e):Sem α) Q E s:=by
 obtain ⟨x,ox,ws,a,b,c,d⟩:=G
 have ne:=new x a
 unfold raiseNew
 refine af (tO ?_)
 rw [a]
 dsimp only
 rw [if_pos (by simpa using ne)]
 refine af (bC (wpAny_runValue (dP Je ?_)))
 show ay _ _ (mZ (.ref x) 2 >>= _) _ _ s
 refine af (bO b c d ?_)
 rw [if_pos (by rfl)]
 refine wpAny_pure ?_
 show ay _ _ (updateField e 2 (.ref x) >>= _) _ _ s
 unfold updateField
 refine af (af (wpAny_load j ?_))
 rw [gd]
 dsimp only
 rw [if_pos z]
 exact wpAny_update j (wpAny_throw (k _))
theorem JT {α:Type}{it:Addr}{j:Obj}{u0 Y y:aj}{Q:Option aj->Shared->Prop}(G:Q3 A s.heap) (U:s.heap.get? it=some j) (gd:j.data = .fields #[u0,Y]) (k:∀g,iW it s.heap g->Q none { s with heap:=g }) :
  ay (aF prog w) A (setField (.ref it) 0 y >>= λ_=>Ac (.type "StopIteration") [] >>= λe=>(raiseNew e:Sem α)) (λ_ _=>False) (λe s1=>∃a,e = .ref a/\s1.TypeIs (.ref a) "StopIteration" /\ Q none s1) s:=by
 refine af (fK U gd (by simp) (af ?_))
 simp only [Ac,newTuple]
 refine af (bT ?_ (by size_fits))
 refine af (m:=lM _ _) (lY (a:=b8) (by first | rfl | (simp only [lM];rfl)) ?_)
 refine bT ?_ (by size_fits)
 generalize l:(s.heap.update it (fq (·.setIfInBounds 0 y))).push _=u
 have kp:∀{b o},b≠it->s.heap.get? b=some o->u.get? b=some o:=λ{b o} n q=>by
  rw [<- l]
  refine ai _ ?_
  rw [bE _ _ n.symm]
  exact q
 have c:∀{b o ws},s.heap.get? b=some o->o.data = .fields ws->ws[2]? = some .none->b≠it:=λ{b o ws} q d f z=>by
  rw [z,U] at q
  cases q
  rw [gd] at d
  cases d
  cases f
 refine Zv (oe:=_) ?_ (aB _ rfl) rfl (by first | (simp;done) | (simp;omega)) (λx h=>?_) λx=>?_
 ·exact G.keep λb o ws q d f=>⟨o,ws,ai _ (kp (c q d f) q),d,f⟩
 ·obtain ⟨e,oe,ws,p,i,r,t⟩:=G
  rw [p] at h
  cases h
  exact aD (av (kp (c i r t) i))
 ·refine ⟨_,rfl,⟨_,cO _ (aB _ rfl) rfl,rfl⟩,k _ λb o n q=>?_⟩
  rw [bE _ _ (cH (av (kp n q)))]
  exact ai _ (kp n q)
theorem ZN {i:Nat}{Q:Option aj->Shared->Prop}(Y:Q3 A s.heap) (j:s.heap.IsListIter it l i) (U:s.heap.IsList l items) (G:items[i]? = none)
  (k:∀g,iW it s.heap g->Q none { s with heap:=g }):ay (aF prog w) A (eC (.ref it)) Q E s:=by
 obtain ⟨n,c,o,d⟩:=id j
 obtain ⟨ol,h,_,nl,dl⟩:=U
 unfold eC
 refine af (fj ?_)
 refine cA (name:=ao "__next__") j.typeIs pe ?_
 refine cW pe j.typeIs entry_listiter_next ?_ (args_listiter_next _)
 show ay _ A.in1 (mZ (.ref it) 0 >>= _) _ _ s
 refine af (bO c d (x:=.ref l) rfl ?_)
 show ay _ A.in1 (if (aW l == b8)=true then _ else _) _ _ s
 rw [if_neg (by exact ar)]
 show ay _ A.in1 (mZ (.ref it) 1 >>= _) _ _ s
 refine af (bO c d (x:=.int i 0) rfl ?_)
 show ay _ A.in1 (mw (.ref l) >>= _) _ _ s
 refine af (cn h dl ?_)
 simp only [b7,G]
 refine af (eY ?_)
 refine ba (JT (A:=A.in1) (Q:=Q) Y c d k) (λ_ _ z=>z.elim) λe s1 ⟨a,m,f,q⟩=>?_
 subst m
 exact af (mx (T:="StopIteration") (b:=true) f o9 (wpAny_pure q))
theorem Yv {i:Nat}{Q:Option aj->Shared->Prop}(Y:Q3 A s.heap) (j:IsTupIter s.heap it l i) (U:tR s.heap l items) (G:items[i]? = none)
  (k:∀g,iW it s.heap g->Q none { s with heap:=g }):ay (aF prog w) A (eC (.ref it)) Q E s:=by
 obtain ⟨n,c,o,d⟩:=id j
 obtain ⟨ol,h,_,nl,dl⟩:=U
 unfold eC
 refine af (fj ?_)
 refine cA (name:=ao "__next__") j.typeIs oB ?_
 refine cW oB j.typeIs entry_tupleiter_next ?_ (args_tupleiter_next _)
 show ay _ A.in1 (mZ (.ref it) 0 >>= _) _ _ s
 refine af (bO c d (x:=.ref l) rfl ?_)
 show ay _ A.in1 (if (aW l == b8)=true then _ else _) _ _ s
 rw [if_neg (by exact ar)]
 show ay _ A.in1 (mZ (.ref it) 1 >>= _) _ _ s
 refine af (bO c d (x:=.int i 0) rfl ?_)
 show ay _ A.in1 (mw (.ref l) >>= _) _ _ s
 refine af (cn h dl ?_)
 simp only [b7,G]
 refine af (eY ?_)
 refine ba (JT (A:=A.in1) (Q:=Q) Y c d k) (λ_ _ z=>z.elim) λe s1 ⟨a,m,f,q⟩=>?_
 subst m
 exact af (mx (T:="StopIteration") (b:=true) f o9 (wpAny_pure q))
theorem Yp {U}{pos:Pos}(hh:Q3 A s.heap) (z:tR s.heap t items) (Y:(cY j env).length=items.size) (G:(cY j env).findIdx? (·.1)=none)
  (k:∀g,iW s.heap.objs.size s.heap g->ay (aF prog w) A (tH ((cY j env).map (·.2)) items.toList) Q E { s with heap:=g }):ay (aF prog w) A (iM (.Tuple j U pos) env (.ref t)) Q E s:=by
 have lt:t≠s.heap.objs.size:=by
  obtain ⟨o,e,_⟩:=z
  exact aD (av e)
 rw [assign_Tuple]
 refine af (cP ?_)
 unfold unpack
 rw [Y,G]
 refine af (bC ?_)
 unfold unpackItems
 refine af ?_
 unfold notIterableAtAll
 refine af (sx z.typeIs slot_tuple_iter.lookup ↥46)
 simp only [c5,if_false]
 refine af (bC (iter_tuple z ?_))
 refine af (bC (draw_tuple lt items.size 0 _ _ ⟨_,aB _ rfl,rfl,rfl⟩ (z.push _) ∅ λh c a=>?_))
 rw [show List.take items.size (List.drop 0 items.toList)=items.toList by rw [og];exact aZ (by simp)]
 rw [if_neg (by simp)]
 have kp:∀{b o},b≠s.heap.objs.size->s.heap.get? b=some o->h.get? b=some o:=λ{b o} n q=>a.extBut b o n (ai _ q)
 refine af (bC (Yv (hh.keep λb o ws q d l=>⟨o,ws,kp (aD (av q)) q,d,l⟩) c ((z.push _).extBut a.extBut lt) (by simp) λf i=>?_))
 simp only [Option.isSome_none,c5,if_false]
 exact wpAny_pure (k f λb o n q=>i b o n (kp n q))
end
structure Hu (X:Cx):Prop where
 ex:∃e oe ws,X.A.handled=some (.ref e)/\X.s₀.heap.get? e=some oe/\X.H₀ e=none/\e∉X.fs/\e∉X.ex/\oe.data = .fields ws/\ws[2]? = some .none
theorem Hu.now {X:Cx}(h:Hu X) (I:Inv X pins σ H s):Q3 X.A s.heap:=by
 obtain ⟨e,oe,ws,a,b,c,d,f,g,k⟩:=h.ex
 exact ⟨e,oe,ws,a,I.base.keep e oe b c d f,g,k⟩
theorem Hu.block {X:Cx}{U:List (Str×Addr)}{N:List Str}{fp:List Addr}(h:Hu X) (I:Inv X pins σ H s) (G:∀b∈fp,yN X pins H b):Hu (X.block scope U C N s H fp):=by
 obtain ⟨e,oe,ws,a,b,c,d,f,g,k⟩:=h.ex
 have now:=I.base.keep e oe b c d f
 refine ⟨e,oe,ws,a,now,I.base.free e oe b c f,λz=>?_,λz=>?_,g,k⟩
 ·rcases List.mem_cons.mp (I.stkSub e z) with y | y
  ·obtain ⟨m,⟨o,es,l,i,j,_⟩,_⟩:=I.loc
   rw [<- y,now] at i
   cases i
   rw [g] at j
   cases j
  ·exact d y
 ·rcases (G e z).2.2.2.1 with y | y
  ·exact f y
  ·exact absurd (av b) (Nat.not_lt.mpr y)
structure TurnH (P:Program) (w:bD) (K:ah) (tg:Expr) (J:It) (fp:List Addr) (it:Addr) (tn:Nat->Heap->Prop):Prop where
 mem:it∈fp
 obj:∀i h,tn i h->∀b∈fp,∃o,h.get? b=some o/\∀v,o.data≠.cell v
 keep:∀i h h',tn i h->(∀b∈fp,∀o,h.get? b=some o->h'.get? b=some o)->tn i h'
 item:∀(X:Cx),X.prog=P->X.w=w->X.K=K->Hu X->∀(i:Nat) (pins:List (Addr×Obj)) (s:Shared) (σ:St) (H:Hp) (E:aj->Shared->Prop),Inv X pins σ H s->(∀b∈fp,yN X pins H b)->tn i s.heap->J.go i H ->
  ay (aF P w) X.A (eC (.ref it)) (λr s1=>∃u,r=some u /\
   ay (aF P w) X.A (d8 tg (.ref it) u) (λ_ s2=>∃x H',Inv X pins σ H' s2/\jH x u/\J.yld i H x H'/\tn (i+1) s2.heap/\∀b∈fp,H' b=none) E s1) E s
 done:∀(X:Cx),X.prog=P->X.w=w->X.K=K->Hu X->∀(i:Nat) (pins:List (Addr×Obj)) (s:Shared) (σ:St) (H:Hp) (E:aj->Shared->Prop),Inv X pins σ H s->(∀b∈fp,yN X pins H b)->tn i s.heap->J.stop i H ->
  ay (aF P w) X.A (eC (.ref it)) (λr s1=>r=none/\Inv X pins σ H s1) E s
 self:∀(A:bF) (i:Nat) (s:Shared) (Q:aj->Shared->Prop) (E:aj->Shared->Prop),tn i s.heap->Q (.ref it) s->ay (aF P w) A (m7 (.ref it)) Q E s
noncomputable def PIEH (X:Cx) (pins:List (Addr×Obj)) (σ:St) (tg:Expr) (R:It->Hp->Prop) (z:aj) (j:Shared):Prop :=
 ∃(it:Addr) (fp:List Addr) (a:Nat->Heap->Prop) (J:It) (H':Hp),z = .ref it/\Inv X pins σ H' j/\TurnH X.prog X.w X.K tg J fp it a/\a 0 j.heap/\(∀b∈fp,yN X pins H' b)/\R J H'
noncomputable def PIH (X:Cx) (tg iter:Expr) (j:TI):Prop :=
 ∀(pins:List (Addr×Obj)) (s:Shared) (σ:St) (H:Hp) (R:It->Hp->Prop),Inv X pins σ H s->j σ H R ->
  ay ↥2 X.A (eval iter X.env) (λv s1=>ay ↥2 X.A (m7 v) (PIEH X pins σ tg R) X.xe s1) X.xe s
theorem ZI {K:ah}(a it:Addr):TurnH P w K tg (Itl K a) [it] it (λi h=>h.IsListIter it a i) where
 mem:=by simp
 obj:=λi h st b hb=>by
  have e:b=it:=by simpa using hb
  subst e
  obtain ⟨o,e,c,d⟩:=st
  exact ⟨o,e,λv z=>by rw [d] at z;cases z⟩
 keep:=λi h h' st k=>st.at λo e=>k it (by simp) o e
 item:=by
  intro X hP hw hK hc i pins s σ H E I hf st hg
  subst hP hw hK
  obtain ⟨xs,x,hq,hx⟩:=hg
  obtain ⟨its,rv,p,hz⟩:=I.list hq
  obtain ⟨u,hu,ru⟩:=rv.get hx
  obtain ⟨f0,f1,f2,f3,f4,f5⟩:=hf it (by simp)
  refine ij st p.isList (x:=u) (by simpa using hu) λh' st' sb=>?_
  have I1:Inv X pins σ H { s with heap:=h' }:=I.turned (t':=s.toks) (λb o hb e=>(sb.2 b hb).trans e) f0 f1 f3 f4 f5
  obtain ⟨o,e,c,d⟩:=id st'
  exact ⟨u,rfl,JH (s:={ s with heap:=h' }) e c d ⋯ ⟨x,H,I1,ru,⟨rfl,λys hy=>by rw [I.list_inj hy hq];exact hx⟩,st',λb hb=>(hf b hb).1⟩⟩
 done:=by
  intro X hP hw hK hc i pins s σ H E I hf st hg
  subst hP hw hK
  obtain ⟨xs,hq,hx⟩:=hg
  obtain ⟨its,rv,p,hz⟩:=I.list hq
  obtain ⟨f0,f1,f2,f3,f4,f5⟩:=hf it (by simp)
  have hl:=rv.length
  exact ZN (hc.now I) st p.isList ↥81 λh' eb=>⟨rfl,I.turned (t':=s.toks) ↥101 f0 f1 f3 f4 f5⟩
 self:=λ_ _ _ _ _ st h=>nu st h
section
variable {X:Cx}{tg:Expr}{pos:Pos}
theorem VN (j:PE X l tl):PIH X tg l (Y5 X.K tl):=by
 intro pins s σ H R I h
 refine thn ↥116 λv s1 ⟨x,H1,c,d,f⟩=>?_
 obtain ⟨a,e,⟨xs,g⟩,q⟩:=f
 subst e
 cases d
 obtain ⟨k,m,p,n⟩:=c.list g
 refine cZ p.isList ?_
 refine ⟨s1.heap.objs.size,[s1.heap.objs.size],_,_,H1,rfl,c.kept (t':=s1.toks) λb o e=>ai _ e,ZI a _,⟨_,aB _ rfl,rfl,rfl⟩,λb i=>?_,q⟩
 have e:b=s1.heap.objs.size:=by simpa using i
 subst e
 exact c.fpOk (au _) (c.hok.fresh (au _))
theorem UP {k:Nat}{n:Nat}(K:ah) (z:Hu X) (h:PGs X es t)
  (G:(cY es X.env).length=n:=by rfl) (j:(cY es X.env).findIdx? (·.1)=none:=by rfl) (U:X.K=K:=by rfl):PG X (.Tuple es k pos) (gTup K n t):=by
 subst U
 intro pins s σ H v u Q I r c
 obtain ⟨a,xs,m,i,l,c⟩:=c
 subst m
 cases r
 obtain ⟨q,d,g,w⟩:=I.tuple i
 refine Yp (z.now I) g (by simp [G,<- l,d.length]) j λh' f=>?_
 have p:Inv X pins σ H { s with heap:=h' }:=I.kept (t':=s.toks) λb o e=>f b o (aD (av e)) e
 exact h pins _ σ H xs _ Q p (by simpa using d) c
theorem YE {scope:Scope}{own:Nat}{j:List (Str×Addr)}{tg elt iter:Expr}{ti:TT}{te:TE}{H:Hp}{s:Shared}{fp:List Addr}
    {Q:VK} {RR:aj->Addr->nI->Shared->Prop} 
  (hu:Hu X) (S:CompSc osc ON scope own N caps) (a1:X.env.scope=osc) (hN:X.N=ON) (a3:∀x,j.lookup x=if (x,bj)∈scope.names then X.env.cells.lookup x else none)
  (hg:∀j C s H ex,Hu ↥10->PG ↥10 tg g) (a2:∀j C s H ex,Hu ↥10->gC ↥10 ifs ti) (he:∀j C s H ex,Hu ↥10->PE ↥10 elt te)
  (I:Inv X pins σ H s) (T:TurnH X.prog X.w X.K tg J fp it tn) (st:tn 0 s.heap) (Y:∀b∈fp,yN X pins H b)
  (hw:∀acc,H acc=none->∃W:Nat->Nat->St->Hp->Prop,↥142/\∀i m G H',W i m G H' ->
   (J.stop i H'/\Q (.ref acc) H')\/(J.go i H'/\∃NX:St->Hp->Prop,↥39 /\
    ∀x H2,J.yld i H' x H2->g x G H2 λU H3=>ti U H3 λok H4=>if ok=true then te U H4 λv H5=>∃ys,H5 acc=some (.lst ys)/\ys.length<sizeLine/\NX U (upd H5 acc ↥64) else NX U H4))
  (a7:∀(D C:Addr) (H':Hp) (s':Shared),Inv X pins σ H' s'->BlockAt X pins H' C->(∃m,s'.heap.Ns C m)->Q (.ref D) H'->RR (.ref D) C (.ok .next) s') :
  ay ↥2 X.A (pN []) (λacc s₃=>ay ↥2 X.A (nO scope X.env.globals j [] X.env.qual none .none (some X.env)) (λab s₄ =>
   cX ↥2 X.A (.compStart ↥22 0 (.ref it) acc { ab with scope:=tX scope X.env }) (RR acc ab.locals) s₄) E s₃) E s:=by
 have am:∀b∈fp,b<s.heap.objs.size:=λb a=>by
  obtain ⟨o,e,_⟩:=T.obj _ _ st b a
  exact av e
 refine bT (iV S.nocell (by intro y hy;simp at hy) (λh₁ k f=>?_) S.kind)
 dsimp only at k f ⊢
 generalize P:s.heap.push { cls:=.type "list",dict:=none,data:=.seq ([]:List aj).toArray }=H2 at k f ⊢
 have R:H2.objs.size=s.heap.objs.size+1:=by rw [<- P,c7]
 have al:∀b o,s.heap.get? b=some o->h₁.get? b=some o:=λb o e=>f.extBut b o (aD (by rw [R];exact bU (av e))) (ai _ (P ▸ ai _ e))
 have eD:h₁.get? s.heap.objs.size=some { cls:=.type "list",data:=.seq #[] }:=f.extBut _ _ (aD ∅) (ai _ (P ▸ aB _ rfl))
 have a5:H s.heap.objs.size=none:=I.hok.fresh (au _)
 obtain ⟨W,⟨m0,w0⟩,ap⟩:=hw s.heap.objs.size a5
 have a0:h₁.Ns H2.objs.size λ_=>none:=k
 have I1:Inv ↥9 [] (vj own caps σ) ↥152 { s with heap:=h₁,toks:=s.toks+([]:List (Str×aj)).length } :=
  vN S a1 hN a3 I Y am rfl R al eD a0 _
 have h:Hu ↥9:=hu.block I Y
 have ae:tn 0 h₁:=T.keep 0 _ _ st λb _ o e=>al b o e
 have V:∀{H':Hp},↥55->∀b∈fp,yN ↥9 [] H' b:=λ{H'} hn b a=>by
  have ok:=I1.ok
  exact ⟨hn b a,(ok.exf b a).1,ok.exfs b a,.inl a,(ok.exf b a).2,λp hp=>absurd (show p∈([]:List (Addr×Obj)) from hp) (by simp)⟩
 have aL:∀{G:St} {H':Hp} {s':Shared},Inv ↥9 [] G H' s'->Q ↥13 H'->RR ↥13 H2.objs.size (.ok .next) s':=λ{G H' s'} B q=>by
  have J2:Inv X pins σ H' s':=I.call' (ch:=fp) B.os B.base B.hok B.bare λb a=>⟨(Y b a).2.2.2.1,(Y b a).2.1,(Y b a).2.2.2.2.1,(Y b a).2.2.2.2.2⟩
  obtain ⟨m,hm,_⟩:=B.loc
  refine a7 _ _ H' s' J2 ⟨B.free,cH (aT I.lt ∅),aK I.sz ∅,λx c e z=>?_,λp hp z=>?_⟩ ⟨m,hm⟩ q
  ·obtain ⟨v,y⟩:=I.cell x c e
   have h1:H2.objs.size<s.heap.objs.size:=z ▸ y.lt
   exact absurd h1 ∅
  ·have h1:H2.objs.size<s.heap.objs.size:=z ▸ av (I.pin p hp).1
   exact absurd h1 ∅
 have O:∀s₃:Shared,s₃={ s with heap:=h₁,toks:=s.toks+([]:List (Str×aj)).length } ->
   cX ↥2 X.A (.compLoop ↥22 0 (.ref it) ↥13 (pK scope j H2.objs.size X.env)) (RR ↥13 H2.objs.size) s₃:=by
  rintro s₃ rfl
  refine wW (λn s'=>∃i G H',Inv ↥9 [] G H' s'/\tn i s'.heap/\ ↥55/\W i n G H') ?_ m0
   ⟨0,_,_,I1,ae,λb a=>by rw [j8 (aD (am b a))];exact (Y b a).1,w0⟩
  rintro n s3 ⟨i,U,H3,I3,ac,an,w3⟩
  rcases ap i n U H3 w3 with ⟨as,qn⟩ | ⟨go,NX,a4,step⟩
  ·refine thn (T.done ↥9 rfl rfl rfl h i [] s3 U H3 _ I3 (V an) ac as) λr s4 ⟨hr,I4⟩=>?_
   subst hr
   exact aL I4 qn
  ·refine thn (T.item ↥9 rfl rfl rfl h i [] s3 U H3 _ I3 (V an) ac go) λr s4 ⟨u,hr,h4⟩=>?_
   subst hr
   refine thn h4 λ_ s5 ⟨x,H5,I5,r5,y5,M,a6⟩=>?_
   have a8:=I5.pinned (V a6) (T.obj _ _ M)
   refine thn (hg j H2.objs.size s H fp h _ s5 U H5 x u _ a8 r5 (step x H5 y5)) λ_ s6 ⟨σ6,H6,I6,q6⟩=>?_
   refine thn (a2 j H2.objs.size s H fp h _ s6 σ6 H6 _ I6 q6) λok s7 ⟨H7,I7,q7⟩=>?_
   have again:∀{t:Shared} {L:St} {l:Hp},Inv ↥9 ([]++zC fp s5.heap) L l t->NX L l->∃m,m<n/\∃i G H',Inv ↥9 [] G H' t/\tn i t.heap/\ ↥55/\W i m G H':=λ{t L l} Z n8=>by
    obtain ⟨m',hm,w8⟩:=a4 L l n8
    refine ⟨m',hm,i+1,L,l,Z.unpinned,T.keep _ _ _ M λb a o e=>(Z.pin (b,o) ↥102).1,λb a=>?_,w8⟩
    obtain ⟨o,e,d⟩:=T.obj _ _ M b a
    exact (Z.pin (b,o) ↥102).2.1
   cases ok with
   | false =>
    rw [if_neg ar] at q7 ⊢
    exact again I7 q7
   | true =>
    rw [if_pos rfl] at q7 ⊢
    refine thn (he j H2.objs.size s H fp h _ s7 σ6 H7 _ I7 q7) λv t ⟨y,l,Z,r8,ys,e8,z8,q8⟩=>?_
    refine thn (qq _ t σ6 l ↥13 [y] _ [v] (λ_ H9=>NX σ6 H9) Z rfl (.cons r8 .nil) ⟨_,ys,y,rfl,rfl,e8,z8,q8⟩) λ_ s9 ⟨_,H9,I9,_,q9⟩=>?_
    exact again I9 q9
 exact iu (O _ rfl) (T.self _ 0 _ _ _ ae (O _ rfl))
theorem VQ {own:Nat}{tg:Expr}(S:CompSc osc ON scope own N caps)
  (hu:Hu X) (z:X.env.scope=osc) (hN:X.N=ON) (hi:PIH X tg iter U)
  (hg:∀j C s H ex,Hu ↥10->PG ↥10 tg g) (G:∀j C s H ex,Hu ↥10->gC ↥10 ifs Y) (he:∀j C s H ex,Hu ↥10->PE ↥10 elt te)
  (hs:∀x,cK iter X.env x=pure x:=by intro _;rfl):PE X ↥22 (VH own caps U g Y te):=by
 intro pins s σ H Q I h
 obtain ⟨j,a,d⟩:=yQ (JZ S z I)
 rw [oG]
 refine dX (use:=none) rfl hs a S.kind S.loc ↥114
 obtain ⟨it,fp,p,J,H2,e,n,T,b,k,f⟩:=h2
 subst e
 refine YE (RR:=λacc C=>sW ↥2 X.A X.xe none ↥51 acc C) hu S z hN d hg G he n T b k f λD C H' s' l B ⟨m,i⟩ q=>?_
 exact ⟨m,i,λh' c=>⟨.ref D,H',B.gone l c,rfl,q⟩⟩
end
end L2
end
section
namespace L2
open PySem PySem.Spec PySem.W PyProof.Rows PySem.Calls
section
variable {prog:Program}{w:bD}{A:bF}{E:aj->Shared->Prop}{s:Shared}{K:ah}{x D:Addr}{ox:Obj}{odo:Option Obj}
theorem Wo {Q:Option aj->Shared->Prop}(X:K.In s.heap) (I:sP s.heap x ox D odo) (z:findIn K (.ref D) "__getattribute__" = some (some (.builtin "BaseException.__getattribute__"))) (j:findIn K (.ref D) "__getattr__" = some none)
  (U:findObj K D odo "__class__" = some (.bind ↥128 ↥77)) (G:mroIn K D (.type "object")=some true) (Y:subIn K (.ref D) (.type "BaseException")=some true)
  (k:Q (some (.ref D)) { s with toks:=s.toks+1 }):ay (aF prog w) A (tm (.ref x) "__class__") Q E s:=by
 obtain ⟨c,g,d,t,os⟩:=s
 have a:=I.type (M:=aF prog w)
 have n:=looks_findIn (M:=aF prog w) X z
 have L2:=looks_findIn (M:=aF prog w) X j
 have m:=looks_find (M:=aF prog w) X I U
 have l:=looks_subIn (M:=aF prog w) X Y
 have i:Looks (aF prog w) c (isInstance (.ref x) (.type "BaseException")) true:=a.andThen l
 unfold tm getAttrBy? getAttrBy
 refine af (wpAny_mkText (af (fj (bC (af (a.at (af (n.at ?_))))))))
 have e:(onTheHeap (aW D) && iS "BaseException.__getattribute__" == iS "object.__getattribute__")=false:=by
  rw [show (iS "BaseException.__getattribute__" == iS "object.__getattribute__")=false by decide +kernel,sU]
 dsimp only
 rw [if_neg (by rw [e];exact ar)]
 unfold getAttrByItsOwn
 refine af ?_
 show ay _ _ (oQ (.ref D) "__getattr__") _ _ _
 refine L2.at ?_
 refine af (fj (bC ?_))
 show ay _ _ (tu _ _ _) _ _ _
 unfold tu
 refine af ?_
 rw [F.excAttr_ValueError.ga.bind (.ref x)]
 refine wpAny_pure ?_
 refine i4 (codeAny_call_builtin F.excAttr_ValueError.ga.plain F.entry_bexc_ga ?_)
 have f:builtinKind "BaseException.__getattribute__" = some .slot:=by decide +kernel
 have b:splitId "BaseException.__getattribute__" = some ("BaseException","__getattribute__"):=by decide +kernel
 have h:=F.args_bexc_ga (.ref x) (.str "__class__" t)
 show ay (aF prog w) A.in1 (rM "BaseException.__getattribute__" ⟨[.ref x,.str "__class__" t],[]⟩) _ _ _
 simp only [rM,f,b]
 refine af (i.at ?_)
 rw [if_neg ⋯]
 refine lY h ?_
 unfold fC.«object.__getattribute__»
 refine af ↥46
 refine af ↥46
 refine af (a.at ?_)
 refine af (m.at ?_)
 show ay _ _ (dR [.builtin "object.__class__"] (call ↥128 [.builtin "object.__class__",.ref x,.ref D]) >>= ret) _ _ _
 refine af (bC (i4 (class_get (s:=⟨c,g,d,t+1,os⟩) (ox:=ox) (od:=odo) X I G ?_)))
 refine wpAny_pure ?_
 exact handed_on rfl (wpAny_pure k)
structure ExK (K:ah) (D:Addr):Prop where
 cl:(clsIn K D).isSome=true
 ga:findIn K (.ref D) "__getattribute__" = some (some (.builtin "BaseException.__getattribute__"))
 gt:findIn K (.ref D) "__getattr__" = some none
 ha:findIn K (.ref D) "__class__" = some (some ↥77)
 hn:specialIn K ↥77 "__get__" = some (some ↥128)
 tk:takesIn K ↥77=some true
 mo:mroIn K D (.type "object")=some true
 be:subIn K (.ref D) (.type "BaseException")=some true
theorem ExK.kit (e:ExK K D):KitX K (.ref x) (.ref D) (λh=>∃o,h.get? x=some o/\o.cls = .ref D/\o.dict=none/\notCls o=true) where
 ty:=λM h _ ⟨o,g,c,_⟩=>c ▸ (A8 g).andThen .now
 it:=λM h X _=>by
  have cl:=e.cl
  unfold clsIn at cl
  split at cl
  ·rename_i c' d' cd' sl' ho
   intro A' Q' E' s' k q
   unfold isType loadHead
   exact af (sQ (k _ _ (X _ _ ho)) (wpAny_pure q))
  ·cases cl
 ne:=λh tp dd its n sl X htp=>by
  have cl:=e.cl
  refine Bool.eq_false_iff.mpr λq=>?_
  obtain rfl:D=tp:=Value.ref.inj (beq_iff_eq.mp q)
  unfold clsIn at cl
  split at cl
  ·rename_i c' d' cd' sl' ho
   cases (X _ _ ho).symm.trans htp
  ·cases cl
 ca:=λX ⟨o,g,c,dn,no⟩ k=>by
  refine Wo (ox:=o) (odo:=none) X ⟨g,c,no,by rw [dn];trivial⟩ e.ga e.gt ?_ e.mo e.be k
  obtain ⟨cd,hc⟩:=Option.isSome_iff_exists.mp e.cl
  unfold findObj
  rw [hc,rO,e.ha,rO]
  simp [e.hn,e.tk]
end
end L2
end
section
namespace L2
open PySem PySem.Spec PySem.W PyProof.Rows PySem.Calls
noncomputable def Q9 (oe:Obj) (cls:aj):Prop:=oe.cls=cls/\oe.dict=none/\∃ws,oe.data = .fields ws/\ws[2]? = some .none
theorem Q9.noCell (h:Q9 oe cls):∀v,oe.data≠.cell v:=λv z=>by
 obtain ⟨_,_,ws,d,_⟩:=h
 rw [d] at z
 cases z
theorem Q9.noCls (h:Q9 oe cls):notCls oe=true:=by
 obtain ⟨_,_,ws,d,_⟩:=h
 unfold notCls
 rw [d]
noncomputable abbrev Cx.handE (X:Cx) (a:Addr) (oe:Obj) (pn:List (Addr×Obj)):Cx:={ X with A:=X.A.mark (some (.ref a)),calm:=false,pn:=pn++[(a,oe)],xe:=λ_ _=>False }
section
variable {X:Cx}{pins:List (Addr×Obj)}{σ:St}{H:Hp}{s:Shared}{a:Addr}{oe:Obj}{cls:aj}
theorem Inv.toHandE (I:Inv X pins σ H s) (ga:s.heap.get? a=some oe) (Y:H a=none) (j:a≠X.env.locals) (G:a∉X.fs) (U:∀v,oe.data≠.cell v):Inv (X.handE a oe (X.pn++pins)) [] σ H s :=
 ⟨⟨I.ok.mod,I.ok.kind,I.ok.glob,I.ok.blt,I.ok.above,I.ok.inj,I.ok.has,I.ok.cab,(λz=>(by cases z)),I.ok.frames,I.ok.stk,I.ok.exf,I.ok.bs,I.ok.bsz,I.ok.noex,I.ok.exfs,I.ok.funs,I.ok.frf⟩,I.os,I.bare,I.base,I.loc,I.cell,I.free,I.freeC,λp b=>by
  rw [aJ] at b
  rcases List.mem_append.mp b with z | z
  ·exact I.pin p z
  ·obtain rfl:p=(a,oe):=by simpa using z
   exact ⟨ga,Y,j,G,U⟩,I.hok,I.len⟩
theorem Inv.ofHandE (j:X.calm=true->X.A.handled=none) (I:Inv (X.handE a oe (X.pn++pins)) [] σ H s):Inv X pins σ H s :=
 ⟨⟨I.ok.mod,I.ok.kind,I.ok.glob,I.ok.blt,I.ok.above,I.ok.inj,I.ok.has,I.ok.cab,j,I.ok.frames,I.ok.stk,I.ok.exf,I.ok.bs,I.ok.bsz,I.ok.noex,I.ok.exfs,I.ok.funs,I.ok.frf⟩,I.os,I.bare,I.base,I.loc,I.cell,I.free,I.freeC,
  λp b=>I.pin p (cC _ (cC _ b)),I.hok,I.len⟩
theorem ko {i:Nat}{pos:Pos}{Q:Unit->Shared->Prop}(I:Inv X pins σ H s) (Y:X.N.Nodup) (hi:X.N[i]? = some n) (U:X.env.scope.names.lookup n=some .local)
  (h:∀s',Inv X pins (σ.set i none) H s'->Q () s'):ay M A (do bindName X.env n .none;unbindBehindTheSuite X.env n pos) Q E s:=by
 obtain ⟨m,B,S⟩:=id I.loc
 have P:(X.env.scope.kind == .class || (X.env.scope.kind == .module && X.env.locals != X.env.globals))=false:=by rw [I.ok.kind];rfl
 have C:i<σ.length:=by rw [I.len];exact (List.getElem?_eq_some_iff.mp hi).1
 refine wpAny_nameGoes_keeps U B P λg v x l=>?_
 obtain ⟨oL,_,_,Z,_⟩:=id B
 have lo:∀{b o},X.s₀.heap.get? b=some o->g.get? b=s.heap.get? b:=λ{b o} e=>l.2 b (aD (aT (av e) I.ok.above))
 refine h _ ⟨I.ok,I.os,I.bare,⟨λb o e n u f=>(lo e).trans (I.base.keep b o e n u f),λb o e n u f=>?_,I.base.free,λb o e f=>?_,I.base.tups,I.base.frzs,I.base.tbls⟩,⟨_,x,λj y D a r V=>?_⟩,λy c e=>?_,I.free,I.freeC,λp R=>?_,λb L e=>?_,by simpa using I.len⟩
 ·obtain ⟨J,a⟩:=I.base.slot b o e n u f
  exact ⟨J,(lo e).trans a⟩
 ·obtain ⟨o',a⟩:=I.base.there b o e f
  exact ⟨o',(lo e).trans a⟩
 ·by_cases t:j=i
  ·subst t
   rw [ig C] at r
   cases r
  ·rw [iT (cF t)] at r
   obtain ⟨G,K,q⟩:=S j y D a r V
   refine ⟨G,K,?_⟩
   rcases q with ⟨k,e⟩ | ⟨k,c,e,z⟩
   ·have ny:y≠n:=λz=>t (gq Y a (z ▸ hi))
    exact .inl ⟨k,by show (if y=n then v else m y)=_;rw [if_neg ny];exact e⟩
   ·exact .inr ⟨k,c,e,z.sameBut l (I.cne y c e)⟩
 ·obtain ⟨w,z⟩:=I.cell y c e
  exact ⟨w,z.sameBut l (I.cne y c e)⟩
 ·obtain ⟨e,n,ne,O,d⟩:=I.pin p R
  exact ⟨(l.2 p.1 ne).trans e,n,ne,O,d⟩
 ·refine (I.hok b L e).stay (λc w T q=>(l.2 c ?_).trans q) (λ_ q=>q) λ_ _ q=>q
  rintro rfl
  rcases T with z | z
  ·rw [<- z,I.free] at e;cases e
  ·rw [I.free] at z;cases z
end
noncomputable def Ends.un (D:Ends) (i:Nat):Ends:={ nx:=λσ H=>D.nx (σ.set i none) H,rt:=D.rt,bk:=λσ H=>D.bk (σ.set i none) H,ct:=λσ H=>D.ct (σ.set i none) H }
noncomputable def GA (K:ah) (C:Addr) (i:Nat) (tb:(aj->St->Hp->Prop)->TS) (th:Addr->Obj->TS):TS:=λD σ H =>
 tb (λcls b H'=>exmOne K cls (.ref C)=some true/\∀a oe,Q9 oe cls->H' a=none->th a oe (D.un i) (b.set i (some (.ref a))) H') D σ H
theorem VC {X:Cx}{G:List Stmt}{b₀:Stmt}{pos:Pos}{i:Nat}{tb:(aj->St->Hp->Prop)->TS}{th:Addr->Obj->TS}(K:ah) (st:X.stack=X.env::X.outer) (hf:X.env.frame=some X.env.locals) (hm:X.mg x=some (.ref C)) (hg:Gl X x)
  (Y:X.N.Nodup) (hi:X.N[i]? = some n) (U:X.env.scope.names.lookup n=some .local)
  (hb:∀(pn:List (Addr×Obj)) (J:aj->St->Hp->Prop),PSs (X.tryX pn J) body (tb J)) (hs:∀(a:Addr) (oe:Obj) (pn:List (Addr×Obj)),PSs (X.handE a oe pn) (b₀::G) (th a oe)) (ae: ↥24=false:=by decide) (hK:X.K=K:=by rfl) :
  PS X (.Try body [.ExceptHandler (some (.Name x np)) (some n) (b₀::G) al] [] [] pos) (GA K C i tb th):=by
 subst hK
 intro pins s σ H D I h
 refine wpAny_Try_except (ba (hb (X.pn++pins) _ [] s σ H D I.toTry h) (λf s1 q=>?_) λe s1 q=>?_)
 ·have y:SP X pins D f s1:=En (λI=>Inv.ofTryP I) q
  cases f with
  | next=>exact fY y
  | brk=>exact y
  | cont=>exact y
  | ret u=>exact y
 ·obtain ⟨a,cls,t,H',rfl,fl,hx,ht⟩:=q
  have f:zy X pins t H' s1 a cls .none:=by
   obtain ⟨s,H,I,os,b,u,ok,fy⟩:=fl
   exact ⟨s,H,Inv.ofP I,os,b,u,ok,fy⟩
  obtain ⟨B,a0,r,up⟩:=f.under
  have fr:X.A.frames=some (X.env::X.outer):=by rw [<- st];exact I.ok.frames
  rw [st] at r
  refine Y2 fr r.2.2.1 hf r.2.2.2 r.1 r.2.1 λh2 n1 n2 n3 ab=>?_
  refine yO (s:={ s1 with heap:=h2 }) n1 n2 n3 λh3 m1 m2 P m4=>?_
  have E:s1.heap.UpToSlots h3:=ab.trans λb o e n=>⟨o.slots,m4 b o e n⟩
  have f3:zy X pins t H' { s1 with heap:=h3 } a cls .none:=up h3 .none m1 E P
  have I3:=f3.inv.toHand a
  refine wpAny_handleBy_cons (codeAny_handlers_test ?_) ↥41
  refine yV (X:=X.hand a) I3 hg hm ?_ ae
  obtain ⟨oe,_,_,_,_,he,hc,_⟩:=id P
  have lt:Looks ↥2 h3 (sS (.ref a)) cls:=hc.1 ▸ (A8 he).andThen .now
  refine exm_one (M:=aF X.prog X.w) I3.kIn lt hx _ _ _ _ (λ_ _ e=>e) ?_
  refine codeAny_handlers_suite_as ?_
  refine yO (s:={ s1 with heap:=h3 }) m1 m2 P λQ k1 k2 k3 k4=>?_
  have f4:zy X pins t H' { s1 with heap:=Q } a cls .none:=up Q .none k1 (E.trans λb o e n=>⟨o.slots,k4 b o e n⟩) k3
  have I4:=f4.inv
  obtain ⟨c,vs,T,oT,ts,Z,S,R,_⟩:=id k3
  have eo:Q9 c cls:=⟨S.1,S.2.2,vs,R,S.2.1.2⟩
  have ha:H' a=none:=by
   obtain ⟨_,_,_,_,_,_,_,fy⟩:=f4
   exact fy.ha
  have hl:a≠X.env.locals:=λz=>by
   obtain ⟨m,⟨o,es,ep,p,hd,_⟩,_⟩:=I4.loc
   rw [<- z,Z] at p
   cases p
   rw [R] at hd
   cases hd
  have ac:a∉X.fs:=λz=>by
   have z':a∈frs X.stack:=by
    rw [st]
    unfold frs
    rw [fQ,hf]
    exact aC _ z
   obtain ⟨_,o,p,hn⟩:=I4.stack.mem z'
   rw [Z] at p
   cases p
   exact hn _ R
  have I5:Inv (X.handE a c (X.pn++pins)) [] t H' { s1 with heap:=Q }:=I4.toHandE Z ha hl ac eo.noCell
  refine kT (X:=X.handE a c (X.pn++pins)) (v:=V.ref a) I5 Y hi (.inl U) rfl (λs6 I6=>?_) (.inr U)
  refine ba (hs a c (X.pn++pins) [] s6 _ H' (D.un i) I6 (ht a c eo ha)) (λg s7 q=>?_) λ_ _ z=>bB z
  cases g with
  | next=>obtain ⟨L,l,k,d⟩:=q;exact ko (Inv.ofHandE I.ok.hd k) Y hi U λO j=>⟨_,l,j,d⟩
  | brk=>obtain ⟨L,l,k,d⟩:=q;exact ko (Inv.ofHandE I.ok.hd k) Y hi U λO j=>⟨_,l,j,d⟩
  | cont=>obtain ⟨L,l,k,d⟩:=q;exact ko (Inv.ofHandE I.ok.hd k) Y hi U λO j=>⟨_,l,j,d⟩
  | ret u=>obtain ⟨v,L,l,k,r7,d⟩:=q;exact ko (Inv.ofHandE I.ok.hd k) Y hi U λO j=>⟨v,_,l,j,r7,d⟩
noncomputable def cxH (P:Program) (w:bD) (K:ah) (mg:Str->Option aj) (base:Heap) (N:List Str) (j:Str) (scope:Scope) (f:Addr) (z:aj) (A:bF) (outer:List Env) (s:Shared) (H:Hp):Cx :=
 { ug (λ_ _ _ _ _ _=>False) P w K mg base N j scope f z A outer s H (λ_ _ _=>False) with calm:=false }
structure AtE (A:bF) (outer:List Env) (s:Shared) (H:Hp) (a:Addr) (oe:Obj) (cls:aj):Prop where
 hd:A.handled=some (.ref a)
 at_:s.heap.get? a=some oe
 ex:Q9 oe cls
 free:H a=none
 out:a∉frs outer
noncomputable def FnH (P:Program) (w:bD) (K:ah) (mg:Str->Option aj) (base:Heap) (k:Nat) (f:Addr) (fd:FuncData) (ps:List Str) (sp:Addr->aj->List V->Hp->VK->Prop):Prop :=
 ∀(A:bF) (outer:List Env) (s:Shared) (H:Hp) (b:Args) (d:List aj) (c:List V) (Q:VK) (a:Addr) (oe:Obj) (cls:aj),A.depth+3*k+5<recursionLimit->A.units+16*k+200<cLine->AtE A outer s H a oe cls ->
  Env0 P w K mg base A outer s H->pI s fd b (ps.zip d)->jI c d->c.length=ps.length->sp a cls c H Q->cX (aF P w) A (.call (.ref f) b) (CR (λ_ _ _ _ _ _=>False) outer P w H s Q (λ_ _ _=>False)) s
theorem ZF {P:Program}{w:bD}{K:ah}{mg:Str->Option aj}{base:Heap}{N ps:List Str}{G:Str}{scope:Scope}{f:Addr}{U:aj}{A:bF}{outer:List Env}{s s1:Shared}{H:Hp}{us:List aj}{vs:List V}(S:FnScope N ps scope) (j:Env0 P w K mg base A outer s H) (Y:vs.length=ps.length) (r:jI vs us)
  (x:InCallC s s.heap.objs.size (rX (iY G scope s.heap.objs.size f U).kindOf (ps.zip us) λ_=>none) (mn ↥16 scope.names []) (rZ (iY G scope s.heap.objs.size f U).kindOf (ps.zip us) λ_=>none) s1) :
  Inv (cxH P w K mg base N G scope f U A outer s H) [] (start N vs) H s1:=by
 have I:=wG (CX:=λ_ _ _ _ _ _=>False) (A:={ A with handled:=none }) (E:=λ_ _ _=>False) (P:=P) (w:=w) S rfl ⟨j.frames,j.mod,j.bs,j.bsz,j.funs,j.frf,j.hok,j.bare⟩ Y r x
 exact ⟨⟨I.ok.mod,I.ok.kind,I.ok.glob,I.ok.blt,I.ok.above,I.ok.inj,I.ok.has,I.ok.cab,(λz=>(by cases z)),nK j.frames,I.ok.stk,I.ok.exf,I.ok.bs,I.ok.bsz,I.ok.noex,I.ok.exfs,I.ok.funs,I.ok.frf⟩,I.os,I.bare,I.base,I.loc,I.cell,I.free,I.freeC,I.pin,I.hok,I.len⟩
theorem GN {K:ah}(e:AtE A outer s H a oe cls):Hu (cxH P w K mg base N j scope f G A outer s H):=by
 obtain ⟨_,_,ws,d,b⟩:=e.ex
 exact ⟨a,oe,ws,e.hd,e.at_,e.free,e.out,(λz=>by cases z),d,b⟩
theorem Fun.okH {w:bD}{K:ah}{mg:Str->Option aj}{base:Heap}{x:Str}{st:Stmt}{N:List Str}{k:Nat}{sp:Addr->aj->List V->Hp->VK->Prop}(F:Fun K x z st f fd) (S:FnScope N ps (j7 st))
  (G:∀(j:aj) (A:bF) (outer:List Env) (s:Shared) (H:Hp) (vs:List V) (Q:VK) (a:Addr) (oe:Obj) (cls:aj),AtE A outer s H a oe cls->sp a cls vs H Q ->
   ∃t,PSs ↥156 (jS st) t/\t { nx:=λ_ H'=>Q .non H',rt:=Q } (start N vs) H):FnH P w K mg base (k+1) f fd ps sp:=by
 obtain ⟨oc,od,kV,doc,pm,an,j,ct,Z,rfl,E,B⟩:=F.ex
 intro A outer s H X D vs Q a oe cls dp un Y d U r R p
 have C:K.In s.heap:=d.mod.kin.keeps λb o e=>(d.bs b o e).1
 have m:s.heap.NoLimit:=d.mod.nolimit.keeps λb o e=>(d.bs b o e).1
 have h:∀y∈ps.zip D,(j7 st).names.lookup y.1=some .local\/((j7 st).names.lookup y.1=some .cell/\((mn ↥16 (j7 st).names []).lookup y.1).isSome=true):=λ⟨n,v⟩ L=>by
  rcases S.par n (fZ L).1 with q | q
  ·exact .inl q
  ·exact .inr ⟨q,eX _ _ _ (.inl q)⟩
 refine nv ∅ (C _ _ E) rfl S.co S.gen rfl (oP C B) (U _ _ _ _ ?_)
 refine fF S.kind h λenv T s1 x=>?_
 subst T
 refine ⟨m.keeps x.toInCall.keep,codeAny_func ?_⟩
 obtain ⟨t,M,O⟩:=G j A outer s H vs Q a oe cls Y p
 have I:Inv ↥156 [] (start N vs) H s1:=ZF S d R r x
 refine ba (M [] s1 (start N vs) H _ I O) (λfl s' c=>?_) λe s' c=>c
 have i:∀{g:St} {H':Hp} {v:V} {u:aj},Inv ↥156 [] g H' s'->jH v u->Q v H'->CE outer P w H s Q u s':=λ{g H' v u} J l q =>
  ⟨v,H',J.os,J.bare,J.base,J.hok,l,q⟩
 cases fl with
 | ret u=>obtain ⟨v,g,H',J,l,q⟩:=c;exact i J l q
 | next=>obtain ⟨g,H',J,q⟩:=c;exact i (v:=V.non) (u:=b8) J rfl q
 | brk=>obtain ⟨_,_,_,q⟩:=c;exact bB q
 | cont=>obtain ⟨_,_,_,q⟩:=c;exact bB q
structure CalH (P:Program) (w:bD) (K:ah) (mg:Str->Option aj) (base:Heap) (k:Nat) (x:Str) (ps:List Str) (sp:Addr->aj->List V->Hp->VK->Prop):Prop where
 ex:∃f fd,FnH P w K mg base k f fd ps sp/\y8 K fd ps []/\mg x=some (.ref f)/\c3 K (.ref f)=true
theorem CalH.mk' {w:bD}{K:ah}{mg:Str->Option aj}{base:Heap}{k:Nat}{x:Str}{ps:List Str}{st:Stmt}{f:Addr}{oc:aj}{od U:Option Addr}{Y:Array (Option aj)}{kV doc pm j z:aj}
  (X:K.In h) (G:h.Ns mainGlobals mg) (a:aY K mainGlobals x=some (some (.ref f)))
  (l:K.lookup f=some ⟨oc,od,.func ↥35,Y⟩) (c:cQ K j x=true) (k':c3 K (.ref f)=true)
  (hb:∀(kV doc pm:aj) (U:Option Addr) (j z:aj) (us:List aj),us.length=ps.length->cU ↥35 ⟨us,[]⟩=pure (ps.zip us))
  (ok:∀{f:Addr} {fd:FuncData},Fun K x x st f fd->FnH P w K mg base k f fd ps sp):CalH P w K mg base k x ps sp:=by
 have F:=vp (st:=st) l c k'
 exact ⟨f,_,ok F,F.binds hb,bo X G a,k'⟩
noncomputable def Gn (a:Addr) (oe:Obj) (n:Nat) (sp:Addr->aj->List V->Hp->VK->Prop) (t:TA):TE:=λσ H Q=>t σ H λb H1=>b.length=n/\∃cls,Q9 oe cls/\sp a cls b H1 Q
theorem UQ {X:Cx}{k:Nat}{e:Expr}{es:List Expr}{pos:Pos}{oe:Obj}(c:CalH X.prog X.w X.K X.mg X.base k x ps sp) (dp:X.A.depth+3*k+5<recursionLimit) (un:X.A.units+16*k+200<cLine)
  (hd:X.A.handled=some (.ref a)) (U:(a,oe)∈X.pn) (Y:Gl X x) (ha:PA X (e::es) t)
  (G: ↥24=false:=by decide) (he:aO (e::es) X.env=↥33::aO es X.env:=by rfl) (j: (↥67).any (·.1)=false:=by rfl) :
  PE X ↥65 (Gn a oe ps.length sp t):=by
 obtain ⟨f,fd,F,y,m,v⟩:=c.ex
 intro pins s σ H Q I h
 refine cT (yV I Y m ?_ G)
 refine dH (h₀:=X.base) I.ok.mod.kin v (thn ↥59 λg s1 ⟨l,H1,b,r,n,cls,J,q⟩=>⟨b.kIn,?_⟩) he j
 have o:g.length=ps.length:=by rw [<- r.length];exact n
 have i:=y s1 g b.kIn (by rw [aJ];exact o)
 rw [aJ] at i
 obtain ⟨E,D,C,B,M⟩:=b.pin (a,oe) (cC _ U)
 have L:AtE X.A X.stack s1 H1 a oe cls:=⟨hd,E,J,D,λz=>(List.mem_cons.mp (b.stkSub a z)).elim C B⟩
 refine i4 (dB (F X.A X.stack s1 H1 ⟨g,[]⟩ g l Q a oe cls dp un L b.env0 i r n q) λr s' d=>?_)
 cases r with
 | error e=>exact bB d
 | ok fl =>
  cases fl with
  | ret u=>exact b.after d
  | next=>exact bB d
  | brk=>exact bB d
  | cont=>exact bB d
theorem Vi {X:Cx}{a D:Addr}(K:ah) (ek:ExK K D) (ga:X.s₀.heap.get? a=some oe) (ha:X.H₀ a=none) (Y:a∉X.fs) (U:a∉X.ex) (j:Q9 oe (.ref D)) (hK:X.K=K:=by rfl) :
  xh X (.builtin "isinstance") (λxs H Q=>∃c G b,xs=[.ref a,c]/\(∀u,jH c u->u=G)/\bf K (.ref D) G=some b/\Q (.bl b) H):=by
 subst hK
 intro pins s σ H l m Q I r h
 obtain ⟨c,G,b,rfl,i,k,q⟩:=h
 cases r with
 | cons g f =>
  cases f with
  | cons e d =>
   cases d
   cases (show _=aW a from g)
   cases i _ e
   exact cg (ExK.kit (x:=a) ek) I.kIn ⟨oe,I.base.keep a oe ga ha Y U,j.1,j.2.1,j.noCls⟩ k ↥92 λtk=>⟨.bl b,H,I.tok _,rfl,q⟩
end L2
end
section
namespace L2
open PySem.W
theorem gN.calH {w:bD}{K:ah}{mg:Str->Option aj}{base:Heap}{k:Nat}{x:Str}{st:Stmt}(a:gN K x st) (z:Zt P w K mg base) (j:gB x x st ps)
  (ok:∀{f:Addr} {fd:FuncData},Fun K x x st f fd->FnH P w K mg base k f fd ps sp):CalH P w K mg base k x ps sp:=by
 obtain ⟨a,l,c,b⟩:=a
 obtain ⟨X,G⟩:=z
 exact CalH.mk' X G a l c b j ok
end L2
end
section
namespace L2
open PySem.W
end L2
end
section
namespace L2
end L2
namespace L2
section
variable (P:Program) (w:bD)
end
section
variable {P:Program}{w:bD}{H H':Hp}{h h':Heap}{a:Addr}{o:HO}
end
section
variable {P:Program}{w:bD}{H:Hp}{h h':Heap}{x e:Addr}{o':HO}
end
section
variable {fs fs' ex ex':List Addr}{H H1 H2:Hp}{h h1 h2 h':Heap}{a x e:Addr}{o:HO}
end
end L2
namespace L2
section
variable {X:Cx}{pins:List (Addr×Obj)}{σ:List (Option V)}{H H':Hp}{s:Shared}{h':Heap}
end
end L2
namespace L2
section
variable {X:Cx}
variable {a b:Expr}{ta tb:TE}{pos:Pos}
variable {tA tB':TT}{vn:List Expr}
end
end L2
namespace L2
section
variable {X:Cx}{pins:List (Addr×Obj)}{σ:St}{H:Hp}{s:Shared}{a:Addr}{xs ys:List V}
end
section
variable {X:Cx}{pins:List (Addr×Obj)}{σ:St}{H:Hp}{s:Shared}{E:aj->Shared->Prop}
end
section
variable {X:Cx}{st:Stmt}{vn:List Stmt}{t u:TS}{e:Expr}{te:TE}{pos:Pos}
end
section
variable {X:Cx}{pos:Pos}
end
section
variable {X:Cx}{pos:Pos}
end
end L2
namespace L2
section
variable {X:Cx}{tg:Expr}
end
end L2
namespace L2
section
variable {X:Cx}{a b c:Expr}{ta tb tc:TE}{pos:Pos}
end
section
variable {X:Cx}{a b c:Expr}{ta tb tc:TE}{pos:Pos}
end
end L2
namespace L2
section
variable {prog:Program}{w:bD}{A:bF}{E:aj->Shared->Prop}{s:Shared}{K:ah}{x dx C f:Addr}{mA:Str->Option aj}{name:Str}{v:aj}
end
section
variable {P:Program}{w:bD}{H H':Hp}{h h':Heap}{a C dx:Addr}{fs fs':List (Str×V)}
end
section
variable {X:Cx}{pins:List (Addr×Obj)}{σ:St}{H:Hp}{s:Shared}{a C dx:Addr}{fs:List (Str×V)}{f:Str}{v:V}{A:bF}{E:aj->Shared->Prop}
end
section
variable {X:Cx}{o e value:Expr}{f:Str}{pos pos' tpos:Pos}{ta tv:TE}
end
section
variable {X:Cx}{pins:List (Addr×Obj)}{σ:St}{H:Hp}{s:Shared}{A:bF}{E:aj->Shared->Prop}{Q:aj->Shared->Prop}{c:aj}{b:Bool}
end
end L2
namespace L2
section
variable {X:Cx}{e:Expr}{es:List Expr}{te:TE}{t:TA}{pos:Pos}
end
section
variable {X:Cx}{pins:List (Addr×Obj)}{σ:St}{H:Hp}{s s':Shared}
end
section
variable {X:Cx}{CX:CXT}{k:Nat}{f C:Addr}{fd:FuncData}{ps:List Str}{sp:Sp}{dvs:List V}{ds:List aj}{E:XK}{x m:Str}{p pos apos:Pos}{e o:Expr}{es:List Expr}{ta:TE}{t:TA}
end
section
variable {X:Cx}{CX:CXT}{k:Nat}{f C:Addr}{fd:FuncData}{ps ks:List Str}{sp:Sp}{E:XK}{x m:Str}{p pos apos kpos:Pos}{e o:Expr}{es:List Expr}{kws:List mF}{te ta:TE}{t tk:TA}{nm:Option Str}
variable {g:List aj->List aj->List aj}{gV:List V->List V->List V}
end
end L2
namespace L2
section
variable {X:Cx}{x:Str}{p pos:Pos}{e:Expr}{es:List Expr}{t:TA}{id T:String}{r:List V->Hp->VK->Prop}
end
end L2
namespace L2
section
variable {κ:Type} [DecidableEq κ]
noncomputable def qG (kvs:List (κ×V)) (k:κ):Option V:=(kvs.find? λa=>decide (a.1=k)).map (·.2)
noncomputable def xk (kvs:List (κ×V)) (k:κ) (v:V):List (κ×V) :=
 if (kvs.any λa=>decide (a.1=k))=true then kvs.map (λa=>if a.1=k then (a.1,v) else a) else kvs++[(k,v)]
theorem vE {k:κ}:qG ([]:List (κ×V)) k=none:=rfl
theorem zM {p:κ×V}{r:List (κ×V)}{k:κ}(e:p.1=k):qG (p::r) k=some p.2:=by simp [qG,ff,e]
theorem zK {p:κ×V}{r:List (κ×V)}{k:κ}(e:¬p.1=k):qG (p::r) k=qG r k:=by simp [qG,ff,e]
theorem kC (k:κ):∀kvs:List (κ×V),(kvs.any λj=>decide (j.1=k))=(qG kvs k).isSome
 | []=>rfl
 | p::r=>by
  rw [fU]
  by_cases e:p.1=k
  ·simp only [zM e,decide_eq_true e,Bool.true_or,Option.isSome_some]
  ·rw [zK e,decide_eq_false e,Bool.false_or];exact kC k r
theorem JO (k j:κ) (y:V):∀kvs:List (κ×V),qG kvs k=none->qG (kvs++[(k,y)]) j=if j=k then some y else qG kvs j
 | [],_=>by
  by_cases e:k=j
  ·rw [if_pos e.symm];exact zM (p:=(k,y)) e
  ·rw [if_neg (λz=>e z.symm)];exact zK (p:=(k,y)) e
 | p::r,a=>by
  rw [List.cons_append]
  have b:¬p.1=k:=λz=>by rw [zM z] at a;cases a
  rw [zK b] at a
  have c:=JO k j y r a
  by_cases e:p.1=j
  ·rw [zM e,zM e,if_neg (λz=>b (e.trans z))]
  ·rw [zK e,zK e,c]
theorem vG (kvs:List (κ×V)) (k:κ) (v:V):(xk kvs k v).length<=kvs.length+1:=by
 unfold xk
 split
 ·rw [ag];omega
 ·rw [aw,b9,sy];omega
theorem yE {k:κ}(v:V) (h:qG kvs k=none):xk kvs k v=kvs++[(k,v)]:=by
 unfold xk
 rw [kC,h]
 exact if_neg ⋯
theorem vo.isSome_eq (r:vo o u):o.isSome=u.isSome:=by
 cases o with
 | none=>cases u with
  | none=>rfl
  | some _=>exact (show False from r).elim
 | some _=>cases u with
  | none=>exact (show False from r).elim
  | some _=>rfl
theorem vo.getD (r:vo o u) (rd:jH d d'):jH (o.getD d) (u.getD d'):=by
 cases o with
 | none=>cases u with
  | none=>exact rd
  | some _=>exact (show False from r).elim
 | some _=>cases u with
  | none=>exact (show False from r).elim
  | some _=>exact r
theorem KV.val {kvs:List (κ×V)}(r:KV kvs vs) (k:κ):vo (qG kvs k) (oq vs k):=by
 unfold KV at r
 induction r with
 | nil=>exact du
 | @cons p q ps qs h t c =>
  obtain ⟨h1,h2⟩:=h
  by_cases e:p.1=k
  ·have a:q.1=k:=h1.symm.trans e
   have b:oq (q::qs) k=some q.2:=by simp [oq,ff,a]
   rw [zM e,b];exact h2
  ·have a:¬q.1=k:=λz=>e (h1.trans z)
   have b:oq (q::qs) k=oq qs k:=by simp [oq,ff,a]
   rw [zK e,b];exact c
theorem KV.any {kvs:List (κ×V)}{vs:List (κ×aj)}(r:KV kvs vs) (k:κ):(kvs.any λj=>decide (j.1=k))=vs.any λj=>decide (j.1=k):=by
 unfold KV at r
 induction r with
 | nil=>rfl
 | cons h t a=>rw [fU,fU,a,h.1]
theorem KV.repl {kvs:List (κ×V)}(r:KV kvs vs) (k:κ) (G:jH y u) :
  KV (kvs.map λj=>if j.1=k then (j.1,y) else j) (vs.map λj=>if j.1=k then (j.1,u) else j):=by
 unfold KV at r ⊢
 induction r with
 | nil=>exact .nil
 | @cons p q ps qs h t a =>
  rw [aU,aU]
  refine .cons ?_ a
  obtain ⟨h1,h2⟩:=h
  by_cases e:p.1=k
  ·rw [if_pos e,if_pos (h1.symm.trans e)];exact ⟨h1,G⟩
  ·rw [if_neg e,if_neg (λz=>e (h1.trans z))];exact ⟨h1,h2⟩
theorem KV.put {kvs:List (κ×V)}(r:KV kvs vs) (k:κ) (j:jH y u):KV (xk kvs k y) (tY vs k u):=by
 unfold xk tY
 rw [r.any k]
 by_cases e:(vs.any λa=>decide (a.1=k))=true
 ·rw [if_pos e,if_pos e];exact r.repl k j
 ·rw [if_neg e,if_neg e];exact cN r ⟨rfl,j⟩
theorem KV.length {kvs:List (κ×V)}(r:KV kvs vs):kvs.length=vs.length:=aV r
end
theorem gJ {k:Key}(r:jH (kV k) u):(jP P w).is k u=true:=by
 cases k with
 | inl i=>obtain ⟨t,e⟩:=(show ∃t,u=fh i t from r);subst e;exact QR P w i t
 | inr x=>obtain ⟨t,e⟩:=(show ∃t,u=oj x t from r);subst e;exact Xg P w x t
theorem Jw :∀{ks:List Key}{us:List aj},jI (ks.map kV) us->ItemsAre (jP P w) ks us
 | [],_,r=>by rw [mL] at r;cases r;exact .nil
 | k::ks,_,r=>by
  rw [aU] at r
  cases r with
  | cons h t=>exact .cons (gJ h) (Jw t)
noncomputable abbrev KT (H:Hp):List (List Key×V)->List ↥151->Prop:=cz λp q=>p.1=q.1/\H q.2.1=some (.tup (p.1.map kV))/\jH p.2 q.2.2
theorem KT.val {kvs:List (List Key×V)}{xs:List ↥151}(r:KT H kvs xs) (k:List Key):vo (qG kvs k) ((sj xs k).map (·.2)):=by
 induction r with
 | nil=>exact du
 | @cons p q ps qs h t c =>
  obtain ⟨h1,_,h2⟩:=h
  by_cases e:p.1=k
  ·have a:q.1=k:=h1.symm.trans e
   have b:sj (q::qs) k=some q.2:=by simp [sj,ff,a]
   rw [zM e,b];exact h2
  ·have a:¬q.1=k:=λz=>e (h1.trans z)
   have b:sj (q::qs) k=sj qs k:=by simp [sj,ff,a]
   rw [zK e,b];exact c
theorem KT.repl {kvs:List (List Key×V)}{xs:List ↥151}(r:KT H kvs xs) (k:List Key) (G:jH y u) :
  KT H (kvs.map λj=>if j.1=k then (j.1,y) else j) (xs.map (putAt k u)):=by
 induction r with
 | nil=>exact .nil
 | @cons p q ps qs h t a =>
  rw [aU,aU]
  refine .cons ?_ a
  obtain ⟨h1,h2,b⟩:=h
  unfold putAt
  by_cases e:p.1=k
  ·rw [if_pos e,if_pos (h1.symm.trans e)];exact ⟨h1,h2,G⟩
  ·rw [if_neg e,if_neg (λz=>e (h1.trans z))];exact ⟨h1,h2,b⟩
theorem KT.put {kvs:List (List Key×V)}{xs:List ↥151}(r:KT H kvs xs) (k:List Key) {b:Addr}(z:H b=some (.tup (k.map kV))) (j:jH y u) :
  KT H (xk kvs k y) (storedH xs k b u):=by
 have e:(kvs.any λa=>decide (a.1=k))=(sj xs k).isSome:=by
  rw [kC,(r.val k).isSome_eq,pX]
 unfold xk storedH
 rw [e]
 by_cases q:(sj xs k).isSome=true
 ·rw [if_pos q,if_pos q];exact r.repl k j
 ·rw [if_neg q,if_neg q];exact cN r ⟨rfl,z,j⟩
theorem KT.keeps {H':Hp}{kvs:List (List Key×V)}{xs:List ↥151}(r:KT H kvs xs) (j:∀b ys,H b=some (.tup ys)->H' b=some (.tup ys)):KT H' kvs xs :=
 Paired.mapP r λ_ _ z=>⟨z.1,j _ _ z.2.1,z.2.2⟩
section
variable {P:Program}{w:bD}{H:Hp}{h:Heap}{a:Addr}
theorem Wz (ok:HOk P w H h) (e:Rd H a u):qB P w H h a u:=e.ok ok
theorem wR (ok:HOk P w H h) (e:Rd H a (.dK kvs)):kvs.length<=sizeLine/\(a == eV)=false/\∃vs,KV kvs vs/\h.DictOf (jP P w) a vs :=
 show qB P w H h a (.dK kvs) from Wz ok e
theorem U4 (ok:HOk P w H h) (e:H a=some (.dK kvs)):kvs.length<=sizeLine/\(a == eV)=false/\∃vs,KV kvs vs/\h.DictOf (jP P w) a vs:=wR ok (.inl e)
theorem kR {ks:List Key}(ok:HOk P w H h) (e:H a=some (.tup (ks.map kV))):(mf (jP P w)).is h ks a:=by
 obtain ⟨_,b,r,o,h1,h2,n,c⟩:=(show qB P w H h a (.tup (ks.map kV)) from ok a _ e)
 exact ⟨o,b.toArray,n,h1,h2,c,by simpa using Jw r⟩
theorem JC (ok:HOk P w H h) (e:Rd H a (.dT kvs)):kvs.length<=sizeLine/\(a == eV)=false /\
  ∃xs,KT H kvs xs/\h.DictOfH (mf (jP P w)) a xs:=by
 obtain ⟨z,y,xs,r,o,es,i,h1,h2,g,f,d⟩:=(show qB P w H h a (.dT kvs) from Wz ok e)
 refine ⟨z,y,xs,r,o,es,i,h1,h2,g,f,λx hx=>?_,d⟩
 have all:∀{l:List (List Key×V)} {m:List ↥151},KT H l m->∀x∈m,(mf (jP P w)).is h x.1 x.2.1:=by
  intro l m q
  induction q with
  | nil=>intro x hx;exact nomatch hx
  | @cons p q ps qs b t c =>
   intro x hx
   rcases List.mem_cons.mp hx with e | hx
   ·subst e
    exact kR ok (by rw [<- b.1];exact b.2.1)
   ·exact c x hx
 exact all r x hx
theorem Ew (ok:HOk P w H h) (e:H a=some (.dT kvs)):kvs.length<=sizeLine/\(a == eV)=false /\
  ∃xs,KT H kvs xs/\h.DictOfH (mf (jP P w)) a xs:=JC ok (.inl e)
end
noncomputable def qM (H:Hp) (a:Addr) (y:V) (r:Option V):Prop :=
 (∃kvs k,Rd H a (.dK kvs)/\y=kV k/\r=qG kvs k)\/∃kvs k b,Rd H a (.dT kvs)/\y = .ref b/\H b=some (.tup (k.map kV))/\r=qG kvs k
noncomputable def kE (H:Hp) (a:Addr) (y v:V) (H':Hp):Prop :=
 (∃kvs k,H a=some (.dK kvs)/\y=kV k/\kvs.length<sizeLine/\H'=upd H a (.dK (xk kvs k v))) \/
 ∃kvs k b,H a=some (.dT kvs)/\y = .ref b/\H b=some (.tup (k.map kV))/\kvs.length<sizeLine/\H'=upd H a (.dT (xk kvs k v))
theorem qM.k {H:Hp}{kvs:List (Key×V)}{k:Key}(e:H a=some (.dK kvs)):qM H a (kV k) (qG kvs k):=.inl ⟨kvs,k,.inl e,rfl,rfl⟩
theorem kE.k {H:Hp}{kvs:List (Key×V)}{k:Key}(e:H a=some (.dK kvs)) (j:kvs.length<sizeLine):kE H a (kV k) v (upd H a (.dK (xk kvs k v))):=.inl ⟨kvs,k,e,rfl,j,rfl⟩
section
variable {X:Cx}{pins:List (Addr×Obj)}{σ:St}{H:Hp}{s:Shared}{a:Addr}{y v:V}{u r:aj}{o:Option V}{A:bF}{E:aj->Shared->Prop}
theorem Inv.big (I:Inv X pins σ H s):eV<s.heap.objs.size:=by
 have h:mainGlobals<s.heap.objs.size:=(I.mod.glob.keeps I.bk).lt
 exact Nat.lt_trans ⋯ h
theorem Yw {Q:aj->Shared->Prop}(U:A.units+1<cLine) (I:Inv X pins σ H s) (g:qM H a y (some v)) (G:jH y u) (h:∀j s',Inv X pins σ H s'->jH v j->Q j s') :
  ay ↥2 A (lV (.ref a) u) Q E s:=by
 rcases g with ⟨kvs,k,e,i,l⟩ | ⟨kvs,k,b,e,i,x,l⟩
 ·subst i
  obtain ⟨z,t,q,d,m⟩:=wR I.hok e
  obtain ⟨j,f,c⟩:=vo.some_of (v:=v) (o:=oq q k) (by rw [l];exact d.val k)
  exact wpAny_getItem_of (gJ G) m.mapOf f (h j _ (I.tok _) c)
 ·subst i
  cases (show u=aW b from G)
  obtain ⟨z,t,xs,d,m⟩:=JC I.hok e
  obtain ⟨j,f,c⟩:=vo.some_of (v:=v) (o:=(sj xs k).map (·.2)) (by rw [l];exact d.val k)
  obtain ⟨p,r,n⟩:=Option.map_eq_some_iff.mp f
  refine wpAny_getItem_heap (i5 U) (kR I.hok x) m r ?_
  rw [n]
  exact h j _ (I.tok _) c
theorem d_in {Q:aj->Shared->Prop}(G:A.units+1<cLine) (I:Inv X pins σ H s) (g:qM H a y o) (j:jH y u) (h:∀s',Inv X pins σ H s'->Q (.bool o.isSome) s') :
  ay ↥2 A (cq .In u (.ref a)) Q E s:=by
 rcases g with ⟨kvs,k,e,f,l⟩ | ⟨kvs,k,b,e,f,m,l⟩
 ·subst f
  obtain ⟨z,d,n,c,i⟩:=wR I.hok e
  refine wpAny_in_of (gJ j) d i.mapOf ?_
  rw [<- (c.val k).isSome_eq,<- l]
  exact h _ (I.tok _)
 ·subst f
  cases (show u=aW b from j)
  obtain ⟨z,d,xs,c,i⟩:=JC I.hok e
  refine wpAny_in_heap (i5 G) (kR I.hok m) d i ?_
  have q:=(c.val k).isSome_eq
  rw [pX] at q
  rw [<- q,<- l]
  exact h _ (I.tok _)
theorem JU {t':Nat}(I:Inv X pins σ H s) (G:Mut (H a)) (U:eW a s.heap h') (Y:∃q,h'.get? a=some q) (new:qB X.prog X.w (upd H a j) h' a j) :
  Inv X pins σ (upd H a j) { s with heap:=h',toks:=t' } :=
 I.write (x:=a) (e:=a) G (.inl rfl) (λb q c z=>(U.2 b c).trans z) Y new
theorem XZ {h':Heap}{kvs:List (Key×V)}(z:kvs.length<=sizeLine) (G:(a == eV)=false) (j:KV kvs vs) (dd:h'.DictOf (jP P w) a vs) :
  qB P w H' h' a (.dK kvs):=⟨z,G,vs,j,dd⟩
theorem Vb {Q:Unit->Shared->Prop}(Y:A.units+1<cLine) (I:Inv X pins σ H s) (g:kE H a y v H') (G:jH y u) (U:jH v r) (h:∀s',Inv X pins σ H' s'->Q () s') :
  ay ↥2 A (tV (.ref a) u r) Q E s:=by
 rcases g with ⟨kvs,k,e,p,l,t⟩ | ⟨kvs,k,b,e,p,C,l,t⟩
 ·subst p t
  obtain ⟨z,o,D,d,x⟩:=U4 I.hok e
  have j:D.length<=sizeLine:=by rw [<- d.length];exact z
  have n:(xk kvs k v).length<=sizeLine:=by have:=vG kvs k v;omega
  refine wpAny_setItem_pairs (hsz:=j) (gJ G) x λh' f m=>h _ ?_
  have J:∃q,h'.get? a=some q:=let ⟨q,_,_,i,_⟩:=f;⟨q,i⟩
  exact JU I (by rw [e];exact du) m J (XZ n o (d.put k U) f)
 ·subst p t
  cases (show u=aW b from G)
  obtain ⟨z,o,xs,d,x⟩:=Ew I.hok e
  have j:xs.length<=sizeLine:=by rw [<- aV d];exact z
  have n:(xk kvs k v).length<=sizeLine:=by have:=vG kvs k v;omega
  refine wpAny_setItem_heap (hsz:=j) (i5 Y) (kR I.hok C) x λh' f m=>h _ ?_
  obtain ⟨q,es,N,i,h2,M,L,_,K⟩:=f
  refine JU I (by rw [e];exact du) m ⟨q,i⟩ ⟨n,o,_,(d.put k C U).keeps λc ys B=>?_,q,es,N,i,h2,M,L,K⟩
  rw [j8 (jp B e ↥92)]
  exact B
end
section
variable {X:Cx}{pins:List (Addr×Obj)}{σ:St}{H:Hp}{s:Shared}{a:Addr}{kvs:List (Key×V)}{k:Key}{u:aj}{A:bF}{E:aj->Shared->Prop}
end
noncomputable def Eg (i:Expr):Prop:=∀a b,nN i false a b=operate [a,b] (lV a b)
theorem Us {prog:Program}{w:bD}{A:bF}{E:aj->Shared->Prop}{s:Shared}{env:Env}{value j:Expr}{pos:Pos}{T id:String}{Q:aj->Shared->Prop}
  (U:oQ (.type T) "__getitem__" = pure (some (.builtin id))) (G:Eg j)
  (h:ay (aF prog w) A (eval value env) (λo z=>ay (aF prog w) A (eval j env) (λi s₂=>s₂.TypeIs o T/\ay (aF prog w) A (lV o i) Q E s₂) E z) E s) :
  ay (aF prog w) A (eval (.Subscript value j pos) env) Q E s:=by
 refine mG (ba h (λo z f=>ba f (λi s₂ b=>?_) λ_ _ x=>x) λ_ _ x=>x)
 obtain ⟨d,b⟩:=b
 unfold iQ
 refine af ?_
 rw [getitemInPython_of_ne d.not_modules]
 refine af (sx d U ?_)
 have a:ay (aF prog w) A (nN j false o i) (λr c=>ay (aF prog w) A (letTemporaryGo value o r >>= λ_=>pure r) Q E c) E s₂:=by
  rw [G o i]
  exact wpAny_operating (ba b (λr c e=>af (wpAny_letTemporaryGo (wpAny_pure e))) λ_ _ x=>x)
 first
  | exact wpAny_pure (af a)
  | exact af (wpAny_pure (af a))
  | exact af a
theorem Xj (I:Inv X pins σ H s) (g:qM H a y o):s.TypeIs (.ref a) "dict":=by
 rcases g with ⟨kvs,k,e,_,_⟩ | ⟨kvs,k,b,e,_,_,_⟩
 ·obtain ⟨_,_,d,_,c⟩:=wR I.hok e
  exact c.typeIs
 ·obtain ⟨_,_,xs,_,c⟩:=JC I.hok e
  exact c.typeIs
inductive tDGetI (Q:VK) (x:V) (y:V) (H2:Hp):Prop
 | mk (a:_) (v:_) (_:x = .ref a) (_:qM H2 a y (some v)) (_:Q v H2)
noncomputable def ZU (td ty:TE):TE:=λσ H Q=>td σ H λx H1=>ty σ H1 λy H2=>tDGetI Q x y H2
inductive tDInI (Q:VK) (y:V) (x:V) (H2:Hp):Prop
 | mk (a:_) (o:_) (_:x = .ref a) (_:qM H2 a y o) (_:Q (.bl o.isSome) H2)
noncomputable def tDIn (ty td:TE):TE:=λσ H Q=>ty σ H λy H1=>td σ H1 λx H2=>tDInI Q y x H2
inductive sDPutI (D:Ends) (σ:St) (v:V) (x:V) (y:V) (H3:Hp):Prop
 | mk (a:_) (H4:_) (_:x = .ref a) (_:kE H3 a y v H4) (_:D.nx σ H4)
noncomputable def EA (td ty tv:TE):TS:=λD σ H=>tv σ H λv H1=>td σ H1 λx H2=>ty σ H2 λy a=>sDPutI D σ v x y a
section
variable {X:Cx}{o i e value:Expr}{pos pos' tpos:Pos}{td ty tv:TE}
theorem jy (z:X.A.units+1<cLine) (U:PE X o td) (hi:PE X i ty) (G:Eg i):PE X (.Subscript o i pos) (ZU td ty):=by
 intro pins s σ H Q I h
 refine Us PySem.F.slot_dict_getitem.lookup G (thn (U pins s σ H _ I h) λu s1 ⟨x,H1,l,e,j⟩=>thn (hi pins s1 σ H1 _ l j) λq p ⟨y,H2,c,d,a,v,ex,g,f⟩=>?_)
 subst ex
 obtain rfl:u=aW a:=e
 exact ⟨Xj c g,Yw z c g d λm n k b=>⟨v,H2,k,b,f⟩⟩
theorem WO (j:X.A.units+1<cLine) (hi:PE X i ty) (z:PE X o td):PC X .In i o (tDIn ty td):=by
 intro pins s σ H Q I h
 refine thn (hi pins s σ H _ I h) λq s1 ⟨y,H1,m,b,e⟩=>thn (z pins s1 σ H1 _ m e) λu p ⟨x,H2,l,c,a,f,ex,g,d⟩=>?_
 subst ex
 obtain rfl:u=aW a:=c
 exact d_in j l g b λn k=>⟨.bl f.isSome,H2,k,rfl,d⟩
theorem yJ (G:X.A.units+1<cLine) (Y:PE X o td) (hi:PE X i ty) (z:PE X value tv) (U:lC value (some (.Subscript o i pos')) pos.line X.env=pure false) :
  PS X (.Assign [.Subscript o i pos'] value pos) (EA td ty tv):=by
 intro pins s σ H D I h
 refine wpAny_Assign_Subscript (thn ↥115 λr s1 ⟨v,H1,p,e,k⟩=>thn (Y pins s1 σ H1 _ p k) λu b ⟨x,H2,n,d,j⟩=>thn (hi pins b σ H2 _ n j) λB w ⟨y,C,m,c,a,q,ex,g,f⟩=>?_) U
 subst ex
 obtain rfl:u=aW a:=d
 exact Vb G m g c e λt l=>⟨σ,q,l,f⟩
end
theorem XS (h:Heap) (j:eV<h.objs.size):qB P w H (h.push { cls:=.type "dict",data:=.dict #[] }) h.objs.size (.dK []) :=
 ⟨aN _,beq_eq_false_iff_ne.mpr (cF (aD j)),[],.nil,sD h⟩
noncomputable def Gm:TE:=λ_ H Q=>∀p,H p=none->Q (.ref p) (upd H p (.dK []))
section
variable {X:Cx}{pos:Pos}
theorem yu:PE X (.Dict [] [] pos) Gm:=λpins s σ H Q I h =>
 wpAny_Dict_empty ⟨.ref s.heap.objs.size,_,I.laid (a:=s.heap.objs.size) (o:=.dK []) (t':=s.toks) (λ_ _ q=>ai _ q) (au _) (XS s.heap I.big),rfl,h _ (I.hok.fresh (au _))⟩
end
noncomputable def Zi:List (TE×TE)->St->Hp->(List (V×V)->Hp->Prop)->Prop
 | [],_,H,Q=>Q [] H
 | (tk,tv)::r,σ,H,Q=>tk σ H λx H1=>tv σ H1 λy H2=>Zi r σ H2 λps a=>Q ((x,y)::ps) a
noncomputable abbrev VV:List (V×V)->List (aj×aj)->Prop:=cz λp q=>jH p.1 q.1/\jH p.2 q.2
noncomputable def PPs (X:Cx) (pos:Pos) (z:List (Option Expr)) (j:List Expr) (G:List (TE×TE)):Prop :=
 ∀(pins:List (Addr×Obj)) (s:Shared) (σ:St) (H:Hp) (Q:List (V×V)->Hp->Prop),Inv X pins σ H s->Zi G σ H Q ->
  ay ↥2 X.A (evalPairs (pairTrees z j X.env pos)) (λa s'=>∃ps H',Inv X pins σ H' s'/\VV ps a/\Q ps H') X.xe s
theorem Wp {pos:Pos}:PPs X pos [] [] []:=λpins s σ H Q I h=>pairTrees_nil_walk ⟨[],H,I,.nil,h⟩
theorem gY {pos:Pos}{k:Expr}(U:PE X k tk) (z:PE X v tv) (G:PPs X pos ks vs j) :
  PPs X pos (some k::ks) (v::vs) ((tk,tv)::j):=λpins s σ H Q I h =>
 pairTrees_cons_walk (thn (U pins s σ H _ I h) λu s1 ⟨x,H1,m,d,g⟩=>thn (z pins s1 σ H1 _ m g) λo b ⟨y,H2,l,c,f⟩ =>
  thn (G pins b σ H2 _ l f) λws p ⟨ps,n,i,a,e⟩=>⟨(x,y)::ps,n,i,.cons ⟨d,c⟩ a,e⟩)
noncomputable def xA (kvs j:List (Key×V)):List (Key×V):=j.foldl (λacc a=>xk acc a.1 a.2) kvs
theorem KV.merge:∀{j:List (Key×V)}{rs:List (Key×aj)}{kvs:List (Key×V)}{vs:List (Key×aj)},KV j rs->KV kvs vs->KV (xA kvs j) (merged vs rs):=by
 intro j rs kvs vs r
 unfold KV at r
 induction r generalizing kvs vs with
 | nil=>intro q;exact q
 | @cons p q ps qs h t b =>
  intro a
  have e:KV (xk kvs p.1 p.2) (tY vs q.1 q.2):=by
   have:=a.put p.1 h.2
   rw [<- h.1];exact this
  exact b e
theorem yt:∀(j kvs:List (Key×V)),(xA kvs j).length<=kvs.length+j.length
 | [],kvs=>by show kvs.length<=kvs.length+0;omega
 | p::r,kvs=>by
  have h1:=yt r (xk kvs p.1 p.2)
  have h2:=vG kvs p.1 p.2
  show (xA (xk kvs p.1 p.2) r).length<=_
  rw [b9];omega
theorem kZ :∀{kvs:List (Key×V)}{ws:List (aj×aj)},VV (kvs.map λj=>(kV j.1,j.2)) ws->∃rs,Carries (jP P w) ws rs/\KV kvs rs
 | [],_,r=>by rw [mL] at r;cases r;exact ⟨[],du,.nil⟩
 | p::kvs,_,r=>by
  rw [aU] at r
  cases r with
  | @cons a b f bs h t =>
   obtain ⟨rs,c,q⟩:=kZ (P:=P) (w:=w) t
   obtain ⟨e,d⟩:=b
   exact ⟨(p.1,d)::rs,⟨gJ h.1,rfl,c⟩,.cons ⟨rfl,h.2⟩ q⟩
noncomputable def GX (j:List (TE×TE)):TE:=λσ H Q=>∀p,H p=none->Zi j σ (upd H p (.dK [])) λps H2=>H2 p=some (.dK [])/\∃kvs:List (Key×V),ps=kvs.map (λa=>(kV a.1,a.2))/\kvs.length<=15/\Q (.ref p) (upd H2 p (.dK (xA [] kvs)))
theorem UZ {pos:Pos}(h:PPs X pos j G Y) (U:j.all (·.isSome)=true) (hl:j.length=G.length) (h0:j≠[])
  (ab:j.length<=15):PE X (.Dict j G pos) (GX Y):=by
 intro pins s σ H Q I q
 have p:=I.hok.fresh (au s.heap.objs.size)
 have x:=I.laid (a:=s.heap.objs.size) (o:=.dK []) (h':=s.heap.push { cls:=.type "dict",data:=.dict #[] }) (t':=s.toks) (λ_ _ q=>ai _ q) (au _) (XS s.heap I.big)
 refine wpAny_Dict_walk (knd:=jP X.prog X.w) U hl h0 ab (thn (h pins _ σ _ _ x (q _ p)) λws A ⟨ps,H2,f,d,e,kvs,u,B,k⟩=>?_)
 subst u
 obtain ⟨rs,c,g⟩:=kZ (P:=X.prog) (w:=X.w) d
 obtain ⟨z,t,y,i,v⟩:=U4 f.hok e
 cases i
 refine ⟨rs,c,v,λh' b m=>⟨.ref s.heap.objs.size,_,?_,rfl,k⟩⟩
 have l:(xA [] kvs).length<=sizeLine:=by
  have h1:=yt kvs []
  rw [sy] at h1
  rw [bS];omega
 have r:∃q,h'.get? s.heap.objs.size=some q:=let ⟨q,_,_,n,_⟩:=b;⟨q,n⟩
 exact JU f (by rw [e];exact du) m r (XZ l t (g.merge .nil) b)
structure M2 (X:Cx) (o:Expr) (m:Str) (apos:Pos) (e f:Expr) (cpos:Pos):Prop where
 base:fS o m X.env (eval o X.env)=eval o X.env
 few:((cG cpos (aO [e,f] X.env)).all (λx=>!x.1) && (il cpos (dS [] X.env)).all (λx=>x.1.isSome)
  && decide (([e,f]:List Expr).length+([]:List mF).length+(if ([]:List mF).isEmpty then 0 else 1)<30))=true
 line:(apos.endLine == cpos.line)=true
 trees:cG cpos (aO [e,f] X.env)=[↥33,(false,eval f X.env)]
noncomputable def IsD (H:Hp) (a:Addr):Prop:=(∃kvs,Rd H a (.dK kvs))\/∃kvs,Rd H a (.dT kvs)
theorem Gy (I:Inv X pins σ H s) (d:IsD H a) :
  s.TypeIs (.ref a) "dict" /\ (∀b,aW a = .ref b->∃j,s.heap.get? b=some j/\j.dict=none)/\(a == eV)=false:=by
 rcases d with ⟨kvs,e⟩ | ⟨kvs,e⟩
 ·obtain ⟨_,f,g,_,c⟩:=wR I.hok e
  refine ⟨c.typeIs,λb q=>?_,f⟩
  cases q
  obtain ⟨j,_,_,h1,h2,_⟩:=c
  exact ⟨j,h1,h2.2.1⟩
 ·obtain ⟨_,f,xs,_,c⟩:=JC I.hok e
  refine ⟨c.typeIs,λb q=>?_,f⟩
  cases q
  obtain ⟨j,_,_,h1,h2,_⟩:=c
  exact ⟨j,h1,h2.2.1⟩
section
variable {X:Cx}{pins:List (Addr×Obj)}{σ:St}{H:Hp}{s:Shared}{a:Addr}{y d:V}{u r:aj}{o:Option V}{A:bF}{E:aj->Shared->Prop}
theorem Gw {Q:aj->Shared->Prop}(Y:A.units+1<cLine) (I:Inv X pins σ H s) (g:qM H a y o) (U:jH y u) (rd:jH d r) (h:∀G s',Inv X pins σ H s'->jH (o.getD d) G->Q G s') :
  ay ↥2 A (call (.builtin "dict.get") [.ref a,u,r]) Q E s:=by
 rcases g with ⟨kvs,k,e,j,l⟩ | ⟨kvs,k,b,e,j,m,l⟩
 ·subst j
  obtain ⟨z,i,n,c,f⟩:=wR I.hok e
  refine call_meetsIn iK f.typeIs mQ (my _ _ _) (meets_dict_get_default (jP X.prog X.w) a (gJ U) i r) ⟨_,f.mapOf,h _ _ (I.tok _) ?_⟩
  rw [l]
  exact (c.val k).getD rd
 ·subst j
  cases (show u=aW b from U)
  obtain ⟨z,i,xs,c,f⟩:=JC I.hok e
  refine call_meetsIn iK f.typeIs mQ (my _ _ _) (meetsH_dict_get_default (mf (jP X.prog X.w)) a b i r) ⟨i5 Y,k,xs,kR I.hok m,f,h _ _ (I.tok _) ?_⟩
  rw [l]
  exact (c.val k).getD rd
end
noncomputable def Gr (td ty tx:TE):TE:=λσ H Q=>td σ H λx H1=>∃a,x = .ref a/\IsD H1 a/\ty σ H1 λy H2=>tx σ H2 λz b=>∃o,qM b a y o/\Q (o.getD z) b
section
variable {X:Cx}{o e f:Expr}{apos cpos:Pos}{td ty tx:TE}
theorem gf (G:X.A.units+1<cLine) (U:PE X o td) (he:PE X e ty) (Y:PE X f tx) (m:M2 X o "get" apos e f cpos):PE X (.Call (.Attribute o "get" apos) [e,f] [] cpos) (Gr td ty tx):=by
 intro pins s σ H Q I h
 refine wpAny_Call_method m.base m.few m.line PySem.F.plainAttrs_dict iK PySem.F.type_dict_get (thn (U pins s σ H _ I h) λu s1 ⟨x,H1,c,p,a,ex,d,t⟩=>?_)
 subst ex
 obtain rfl:u=aW a:=p
 obtain ⟨j,i,_⟩:=Gy c d
 refine ⟨j,i,?_⟩
 rw [m.trees]
 refine mK rfl (iU (lI (thn (he pins s1 σ H1 _ c t) λL k ⟨y,H2,B,n,r⟩ =>
  lI (thn (Y pins k σ H2 _ B r) λM J ⟨z,C,w,l,K,g,q⟩=>pH ?_))))
 exact Gw G w g n l λD E v b=>⟨_,C,v,b,q⟩
end
section
variable {X:Cx}{pins:List (Addr×Obj)}{σ:St}{H:Hp}{s:Shared}{a:Addr}{kvs:List (Key×V)}{A:bF}{E:aj->Shared->Prop}
end
section
variable {X:Cx}{pins:List (Addr×Obj)}{σ:St}{H:Hp}{s:Shared}{a:Addr}{y:V}{u:aj}{A:bF}{E:aj->Shared->Prop}
end
end L2
namespace Att
open PySem PySem.W PySem.Calls PyProof.Rows
section
variable {prog:Program}{w:bD}{A:bF}{E:aj->Shared->Prop}{s:Shared}{K:Frag}
end
end Att
namespace L2
end L2
namespace L2
end L2
namespace L2
section
variable {P:Program}{w:bD}{K:ah}{mg:Str->Option aj}{base:Heap}
end
section
variable {X:Cx}
end
section
variable {κ:Type} [DecidableEq κ]
theorem kt:∀{l:List κ}{k:κ},l.Nodup->¬k∈l->(l++[k]).Nodup
 | [],k,_,_=>by simp
 | a::r,k,h,b=>by
  obtain ⟨h1,h2⟩:=List.nodup_cons.mp h
  show (a::(r++[k])).Nodup
  refine List.nodup_cons.mpr ⟨λm=>?_,kt h2 λm=>b (List.mem_cons.mpr (df m))⟩
  rcases List.mem_append.mp m with q | q
  ·exact h1 q
  ·exact b (List.mem_cons.mpr (aP (List.mem_singleton.mp q).symm))
end
end L2
end
section
namespace L2
open PySem.W
section
variable {prog:Program}{w:bD}{A:bF}{E:aj->Shared->Prop}{s:Shared}
theorem XQ {its:List aj}{κ:sX}{lt:Nat->Nat->Bool}{G:List Nat->Prop}{Q:aj->Shared->Prop}(ab:its.length<64)
  (hk:2<=its.length->∀h',↥25->∀Y:sX->Shared->Prop,Y κ { s with heap:=h' }->ay (aF prog w) A.in1.in1 (keyKind' its.toArray) Y (λ_ _=>False) { s with heap:=h' })
  (hc:∀h',↥25->∀i j,i<its.length->j<its.length->∀Y:Bool->Shared->Prop,Y (lt i j) { s with heap:=h' } ->
   ay (aF prog w) A.in1.in1 (keyLt' κ (its.getD i b8) (its.getD j b8)) Y (λ_ _=>False) { s with heap:=h' })
  (hs:2<=its.length->xy lt its.length (A5 its.length) λp=>qK its.length p/\G p.toList) (h1:its.length<2->G (aM its.length))
  (h:∀(U:List Nat) (h':Heap) (n:Nat),U.Perm (aM its.length)->G U->↥25 ->
   h'.get? (s.heap.objs.size)=some (bH "list" (U.map λi=>its.getD i b8).toArray n)->Q (.ref (s.heap.objs.size)) { s with heap:=h' }) :
  ay (aF prog w) A.in1 (pN its >>= λl=>dR [l] (call (.builtin "list.sort") [l] []) >>= λ_=>ret l) (λz s'=>∃v,z = .done (.ret v)/\Q v s') E s:=by
 refine af (fW ?_ (by rw [bS];omega))
 have f:(s.heap.push ↥27).get? (s.heap.objs.size)=some ↥27:=aB _ rfl
 have keep:∀b o,s.heap.get? b=some o->(s.heap.push ↥27).get? b=some o:=λb o q=>by
  exact ai _ q
 show ay _ _ _ _ _ { s with heap:=s.heap.push ↥27 }
 refine af (bC (cW nR ⟨_,f,rfl⟩ mW ?body (sZ _)))
 case body =>
  generalize ac:s.heap.push ↥27=k at f keep
  generalize T:s.heap.objs.size=a at f h
  have t:∀b o,s.heap.get? b=some o->b≠a:=λb o q=>by have:=av q;rw [<- T];exact aD this
  show ay (aF prog w) A.in1.in1 (fC.«list.sort» ⟨[.ref a],[]⟩) _ _ { s with heap:=k }
  rw [sr]
  have y:a<k.objs.size:=av f
  refine af (mO f rfl ?_)
  refine af (di f rfl ?_ (by rw [az,bS];omega) (aN _))
  obtain ⟨K,u⟩:∃K,(k.update a ↥48).get? a=some (bH "list" #[] K):=⟨_,fe f (λ_=>#[])⟩
  refine af (fG u rfl ?_)
  refine af (lK ?_ (by show its.length<=_;rw [bS];omega))
  refine af (fW ?_ (aN _))
  refine bC ?_
  have d:((↥12).push ↥124).get? a=some (bH "list" #[] K):=by
   rw [d4 _ _ _ (by rw [oW,eK];exact aD (bU y)),d4 _ _ _ (by rw [eK];exact aD y)]
   exact u
  have c:∀b o,s.heap.get? b=some o->((↥12).push ↥124).get? b=some o:=λb o q =>
   ai _ (ai _ ((cu _ _ _ _ (t b o q)).trans (keep b o q)))
  show ay (aF prog w) A.in1.in1 _ _ _ { s with heap:=(↥12).push ↥124 }
  generalize (↥12).push ↥124=g at d c
  dsimp only
  have z:∀(U:List Nat),U.Perm (aM its.length)->G U->∀r:Array aj,r=(U.map λi=>its.getD i b8).toArray ->
    ∃v,t6 (Flow.ret b8) = .done (.ret v)/\ay (aF prog w) A.in1 (do let _ <- pure v;ret (aW a)) (λz s'=>∃v,z = .done (.ret v)/\Q v s') E { s with heap:=g.update a (bb λ_=>r) }:=λU D R r L=>by
   refine ⟨_,rfl,af (wpAny_pure (wpAny_pure ⟨_,rfl,?_⟩))⟩
   subst L
   exact h U _ _ D R (λb o q=>(cu _ _ _ _ (t b o q)).trans (c b o q)) (fe d λ_=>_)
  by_cases h2:its.toArray.size<2
  ·rw [if_pos h2,if_pos h2]
   refine af ↥46
   rw [mX]
   refine af ↥46
   dsimp only
   refine af (fG d rfl ?_)
   rw [uI]
   refine af (di d rfl ?_ (aN _) (by rw [az,bS];omega))
   simp only [bne_self_eq_false,c5,if_false]
   rw [az] at h2
   exact wpAny_pure (z _ (nU _) (h1 h2) _ (by rw [uC]))
  ·rw [if_neg h2,if_neg h2]
   rw [az] at h2
   refine af (ba (hk ∅ g c (λB s'=>B=κ/\s'={ s with heap:=g }) ⟨rfl,rfl⟩) (λB s' q=>?_) λ_ _ x=>x.elim)
   obtain ⟨rfl,rfl⟩:=q
   refine af (ba (kat_run (ks:=its) (vs:=its) (κ:=B) (G:=λp s'=>(qK its.length p/\G p.toList)/\s'={ s with heap:=g }) (Q:=λm s'=>∃p:Array Nat,arrOf m=p.map (A6 (its.toArray.zip its.toArray))/\t7 m=none/\(qK its.length p/\G p.toList)/\s'={ s with heap:=g })
    rfl ∅ ab (λp m s' a1 a2 a3 Z=>⟨p,a2,a3,Z⟩) (xy.wp (I:=λs'=>s'={ s with heap:=g }) (λi j C s' hi P J X=>?_) (λp s' D J=>⟨D,J⟩) (hs ∅) rfl)) ?_ λ_ _ e=>e)
   ·subst J
    exact hc g c i j hi P C (X _ rfl)
   ·rintro ⟨⟨⟩,m⟩ s' ⟨p,M,S,⟨N,V⟩,rfl⟩
    dsimp only
    have H:=A7 (ks:=its) (vs:=its) rfl M
    have O:(pR (p.toList.map λi=>its.getD i b8)).size=its.length:=by rw [az,ag,d7,N.size]
    rw [H]
    refine af (fG d rfl ?_)
    refine af (di d rfl ?_ (aN _) (by rw [O,bS];omega))
    rw [S]
    simp only [bne_self_eq_false,c5,if_false]
    exact wpAny_pure (z p.toList (by have:=Array.perm_iff_toList_perm.mp N;simpa using this) V _ rfl)
theorem ZC {v:aj}{Q:aj->Shared->Prop}(j:ay (aF prog w) A.in1 (collect v) (λits s1=>ay (aF prog w) A.in1 (pN its >>= λl=>dR [l] (call (.builtin "list.sort") [l] []) >>= λ_=>ret l) (λz s'=>∃v,z = .done (.ret v)/\Q v s') E s1) E s) :
  ay (aF prog w) A (call (.builtin "sorted") [v]) Q E s:=by
 refine lR si pO pQ (args_sorted1 _) ?_
 unfold fC.«sorted»
 refine af (m:=sY "sorted" 1 1 _) ↥46
 exact af j
end
section
variable {X:Cx}
theorem Inv.laidN {h':Heap}{a:Addr}{t':Nat}(I:Inv X pins σ H s) (k:∀b u,s.heap.get? b=some u->h'.get? b=some u) (j:s.heap.get? a=none) (new:H a=none->qB X.prog X.w (upd H a o) h' a o):H a=none/\Inv X pins σ (upd H a o) { s with heap:=h',toks:=t' }:=by
 have d:H a=none:=by
  cases q:H a with
  | none=>rfl
  | some u =>
   obtain ⟨g,e⟩:=gL (I.hok a u q)
   rw [j] at e
   cases e
 have ne:∀{b u},s.heap.get? b=some u->b≠a:=λe z=>by rw [z,j] at e;cases e
 refine ⟨d,I.un ⟨λb u q _ _ _=>k b u q,λb u q _ _ _=>⟨u.slots,k b u q⟩,λb u q n _=>by rw [j8 (ne q)];exact n,λb u q _=>⟨u,k b u q⟩,λb xs q=>by rw [j8 (j1 q d)];exact q,λb u xs q=>by rw [j8 (j1 q d)];exact q,λb ps q=>⟨#[],by rw [j8 (j1 q d),q];simp⟩⟩ λb u e=>?_⟩
 by_cases f:b=a
 ·subst f;rw [j6] at e;cases e;exact new d
 ·rw [j8 f] at e
  exact (I.hok b u e).stay (λc v _ q=>k c v q) (λc q=>by rw [j8 (j1 q d)];exact q) λc xs q=>by rw [j8 (j1 q d)];exact q
theorem wf (K:ah) (an:X.calm=true) (hK:X.K=K:=by rfl):xh X (.builtin "sorted") (λxs H Q=>∃(p:Addr) (kvs:List (Key×V)) (ns:List Int),xs=[.ref p]/\H p=some (.dK kvs)/\kvs.map (·.1)=ns.map eR/\ns.length<64 /\
  ∀(l:Addr) H' (U:List Int),H l=none->H' l=some (.lst (U.map V.int))->jk H H'->U.Perm ns->U.Pairwise (· <= ·)->Q (.ref l) H'):=by
 subst hK
 intro pins s σ H xs us Q I r h
 obtain ⟨p,kvs,ns,rfl,ac,D,as,k⟩:=h
 obtain ⟨u,rfl,ru⟩:=zX r
 cases ru
 obtain ⟨hz,lo,A,P,dd⟩:=U4 I.hok ac
 obtain ⟨ep,ap⟩:=dd.dictAt
 have Z:A.length=ns.length:=by
  have f:kvs.length=A.length:=aV P
  have g:=congrArg nJ D
  rw [ag,ag] at g
  omega
 refine ZC (kdu_collect (kdl_dict (knd:=jP X.prog X.w) (kvs:=A) (ep:=ep) lo) (I.ok.hd an) ap (dA (jf ∅)) λh1 tk acc E y=>?_)
 have O:acc.toList.length=ns.length:=by rw [d7,y.1,Z]
 have item:∀i,i<acc.toList.length->∃t,acc.toList.getD i b8 = .int (ns.getD i 0) t:=λi hi=>by
  have N:i<acc.size:=by rw [d7] at hi;exact hi
  obtain ⟨key,x,hx,am⟩:=y.2 i acc[i] (lS N)
  have M:i<kvs.length:=by
   have f:kvs.length=A.length:=aV P
   omega
  obtain ⟨q,hq,f,_⟩:=Paired.get P (aa M)
  rw [hx] at hq
  cases hq
  have g:(kvs.map (·.1))[i]? = some key:=by rw [ax,aa M];exact congrArg some f
  have L:i<ns.length:=∅
  rw [D,ax,aa L] at g
  cases g
  obtain ⟨t,et⟩:=lT am
  refine ⟨t,?_⟩
  rw [ak,Array.getElem?_toList,lS N,et,ak,aa L]
  rfl
 generalize acc.toList=c at O item
 refine XQ (s:={ s with heap:=h1,toks:=tk }) (κ:=oneType') (lt:=ltK UG λi=>ns.getD i 0) (G:=λd=>(d.map λi=>ns.getD i 0).Pairwise UG.kle) ∅ (λh2 h' m Q' q=>?_) (λh' m i j hi Y Q' q=>?_) (λh2=>?_) (λh1=>?_) λd h' n B hg m hn=>?_
 ·refine kas_kind (T:=.type "int") h2 (λv S=>?_) rfl rfl q
  obtain ⟨i,hi,rfl⟩:=List.mem_iff_getElem.mp S
  obtain ⟨t,f⟩:=item i hi
  have e3:c[i] = .int (ns.getD i 0) t:=by rw [<- f];simp [hi]
  rw [e3]
  exact tM rfl
 ·obtain ⟨t,f⟩:=item i hi
  obtain ⟨u,g⟩:=item j Y
  rw [f,g]
  exact kat_lt_int q
 ·exact kM ∅ λp' hP hS=>⟨hP,hS.pairwise hP.size⟩
 ·have C:c.length=0\/c.length=1:=∅
  rcases C with z | z
  ·rw [z];exact ir
  ·rw [z];exact ic _ _
 ·have al:s.heap.get? h1.objs.size=none:=by
   cases q:s.heap.get? h1.objs.size with
   | none=>rfl
   | some u=>exact absurd (av (E _ _ q)) (cp _)
  have S:jI ↥143 (d.map λi=>c.getD i b8):=by
   have hb:∀i∈d,i<c.length:=λi hi=>by have:=B.mem_iff.mp hi;simpa using this
   clear B hg hn
   induction d with
   | nil=>exact .nil
   | cons i d ih =>
    obtain ⟨t,e⟩:=item i (hb i aE)
    exact .cons ⟨t,e⟩ (ih λj Y=>hb j (aC _ Y))
  have ae:((aM c.length).map λi=>ns.getD i 0)=ns:=by
   apply mr
   ·simp [O]
   ·intro i h1 h2
    simp [h2]
  have ab: (↥143).length<=sizeLine:=by
   rw [ag,ag,B.length_eq,bG]
   exact aK (by omega:c.length<=1000) ⋯
  obtain ⟨hf,J⟩:=Inv.laidN (o:=.lst ↥143) (t':=tk) I (λb o e=>m b o (E b o e)) al λ_=>⟨ab,_,n,S,hn⟩
  refine ⟨.ref _,upd H h1.objs.size (.lst ↥143),J,rfl,k _ _ _ hf j6 (jk.new hf) ?_ ?_⟩
  ·have:=B.map λi=>ns.getD i 0
   rw [ae] at this
   exact this
  ·exact List.Pairwise.imp (R:=UG.kle) (λ{a b} z=>Vl z) hg
end
end L2
end
section
namespace L2
open PySem.W
theorem Inv.freeze {X:Cx}{kvs:List (Key×V)}(I:Inv X pins σ H s) (e:H a=some (.dK kvs)) (j:s.heap.get? a=some o):Inv X pins σ (upd H a ↥96) s:=by
 refine I.un (t':=s.toks) ⟨λb u q _ _ _=>q,λb u q _ _ _=>⟨u.slots,q⟩,λb u q n _=>?_,λb u q _=>⟨u,q⟩,λb xs q=>?_,λb u xs q=>?_,λb ps q=>⟨#[],?_⟩⟩ λb u q=>?_
 ·rw [j8 (λz=>by rw [z,e] at n;cases n)];exact n
 ·rw [j8 (jp q e ↥41)];exact q
 ·rw [j8 (jp q e ↥41)];exact q
 ·rw [j8 (jp q e ↥41),q];simp
 ·by_cases d:b=a
  ·subst d
   rw [j6] at q
   cases q
   exact ⟨j,I.hok _ _ e⟩
  ·rw [j8 d] at q
   exact (I.hok b u q).stay (λc v _ q=>q) (λc q=>by rw [j8 (jp q e ↥41)];exact q) λc xs q=>by rw [j8 (jp q e ↥41)];exact q
noncomputable def Itd (a:Addr) (o:Obj) (kvs:List (Key×V)):It :=
 ⟨λi H=>H a=some ↥96/\i<kvs.length,λi H x H'=>H'=H/\∃q,kvs[i]? = some q/\x=kV q.1,λi H=>H a=some ↥96/\kvs.length<=i⟩
theorem relK {k:Key}(h:(jP P w).is k v=true):jH (kV k) v:=by
 cases k with
 | inl i=>exact lT h
 | inr x=>exact ow h
theorem Yn {K:ah}{a it:Addr}{vs:List (Key×aj)}{ep:Nat}(kv:KV kvs vs) (HD:∀h:Heap,h.get? a=some o->h.DictAt (jP P w) a vs ep):Turn P w K tg (Itd a o kvs) [it] it (λi h=>h.IsKeyIter it a i vs.length ep) where
 mem:=by simp
 obj:=λi h st b hb=>by
  have e:b=it:=by simpa using hb
  subst e
  obtain ⟨o,e,c,d⟩:=st
  exact ⟨o,e,λv z=>by rw [d] at z;cases z⟩
 keep:=λi h h' st k=>st.at λo e=>k it (by simp) o e
 item:=by
  intro X hP hw hK hc i pins s σ H E I hf st hg
  subst hP hw hK
  obtain ⟨hq,hi⟩:=hg
  have hat:=HD s.heap (I.hok _ _ hq).1
  have hl:kvs.length=vs.length:=aV kv
  obtain ⟨f0,f1,f2,f3,f4,f5⟩:=hf it (by simp)
  obtain ⟨⟨k,x⟩,hx,ek,_⟩:=Paired.get kv (aa hi)
  refine wpAny_pyNext_dict_item st hat hx λkey h' hkey st' sb=>?_
  have I1:Inv X pins σ H { s with heap:=h' }:=I.turned (t':=s.toks) (λb o hb e=>(sb.2 b hb).trans e) f0 f1 f3 f4 f5
  obtain ⟨ob,e,c,d⟩:=id st'
  exact ⟨key,rfl,JH (s:={ s with heap:=h' }) e c d ⋯ ⟨kV k,H,I1,relK hkey,⟨rfl,_,aa hi,by rw [show (kvs[i]'hi).1=k from ek]⟩,st',λb hb=>(hf b hb).1⟩⟩
 done:=by
  intro X hP hw hK hc i pins s σ H E I hf st hg
  subst hP hw hK
  obtain ⟨hq,hi⟩:=hg
  have hat:=HD s.heap (I.hok _ _ hq).1
  have hl:kvs.length=vs.length:=aV kv
  obtain ⟨f0,f1,f2,f3,f4,f5⟩:=hf it (by simp)
  exact wpAny_pyNext_dict_end (I.ok.hd hc) st hat ↥81 λh' eb=>⟨rfl,I.turned (t':=s.toks) ↥101 f0 f1 f3 f4 f5⟩
 self:=λ_ _ _ _ _ st h=>wpAny_pyIter_keyiter st h
noncomputable def iDic (td:TE):TI:=λσ H R=>td σ H λx H1=>∃a kvs,x = .ref a/\((H1 a=some (.dK kvs)/\∀o,R (Itd a o kvs) (upd H1 a ↥96))\/∃o,H1 a=some ↥96/\R (Itd a o kvs) H1)
theorem uO (G:PE X l td):PI X tg l (iDic td):=by
 intro pins s σ H R I h
 refine thn (G pins s σ H _ I h) λv s1 ⟨x,H1,k,y,a,kvs,e,q⟩=>?_
 subst e
 cases y
 have d:∀{H2:Hp} {o:Obj},Inv X pins σ H2 s1->H2 a=some ↥96->R (Itd a o kvs) H2->ay ↥2 X.A (m7 (.ref a)) (PIE X pins σ tg R) X.xe s1:=λ{H2 o} f t z=>by
  have r:=(f.hok _ _ t).1
  obtain ⟨B,lo,m,p,j⟩:=wR f.hok (.inr ⟨o,t⟩)
  obtain ⟨ep,n,es,h1,c⟩:=j.dictAt
  rw [r] at h1
  cases h1
  have u:∀h:Heap,h.get? a=some o->h.DictAt (jP X.prog X.w) a m ep:=λh e=>⟨o,es,e,c⟩
  refine wpAny_pyIter_dict lo (u _ r) ?_
  refine ⟨s1.heap.objs.size,[s1.heap.objs.size],_,_,H2,rfl,f.kept (t':=s1.toks) λb o e=>ai _ e,Yn p u,⟨_,aB _ rfl,rfl,rfl⟩,λb C=>?_,z⟩
  have e:b=s1.heap.objs.size:=by simpa using C
  subst e
  exact f.fpOk (au _) (f.hok.fresh (au _))
 rcases q with ⟨g,i⟩ | ⟨o,g,i⟩
 ·obtain ⟨B,lo,m,p,j⟩:=wR k.hok (.inl g)
  obtain ⟨ep,n,es,h1,c⟩:=j.dictAt
  exact d (k.freeze g h1) j6 (i n)
 ·exact d k g i
theorem Xy {kvs:List (Key×V)}{g:TG}{tb:TS}{D:Ends}{σ:St}{H:Hp}(Pv:Nat->St->Hp->Prop) (h0:Pv 0 σ H) (hl:∀i σ H,i<=kvs.length->Pv i σ H->H a=some ↥96)
  (Y:∀i q σ H,kvs[i]? = some q->Pv i σ H->g (kV q.1) σ H λj H2=>tb { D with nx:=Pv (i+1),ct:=Pv (i+1),bk:=D.nx } j H2) (hd:∀σ H,Pv kvs.length σ H->D.nx σ H) :
  ∃W:Nat->Nat->St->Hp->Prop,↥76/\∀i m σ H,W i m σ H ->
   ((Itd a o kvs).stop i H/\D.nx σ H)\/((Itd a o kvs).go i H/\∃N:St->Hp->Prop,(∀G H',N G H'->∃U,U<m/\W (i+1) U G H')/\∀x H',(Itd a o kvs).yld i H x H'->g x σ H' λj H2=>tb { D with nx:=N,ct:=N,bk:=D.nx } j H2):=by
 refine ⟨λi m σ H=>m=kvs.length-i/\i<=kvs.length/\Pv i σ H,⟨kvs.length,by simp,aN _,h0⟩,?_⟩
 rintro i m σ H ⟨rfl,hi,p⟩
 have q:=hl i σ H hi p
 by_cases b:i<kvs.length
 ·refine .inr ⟨⟨q,b⟩,Pv (i+1),λG H' c=>⟨kvs.length-(i+1),∅,rfl,b,c⟩,λx H' y=>?_⟩
  obtain ⟨e,z,d,ex⟩:=y
  subst e ex
  exact Y i z σ _ d p
 ·obtain rfl:i=kvs.length:=∅
  exact .inl ⟨⟨q,au _⟩,hd σ H p⟩
theorem wD {kvs:List (Key×V)}{g:TG}{ti:TT}{te:TE}{R:Hp->Prop}{σ:St}{H:Hp}(Pv:Nat->St->Hp->Prop) (h0:Pv 0 σ H) (hl:∀i σ H,i<=kvs.length->Pv i σ H->H a=some ↥96)
  (hs:∀i q σ H,kvs[i]? = some q->Pv i σ H->g (kV q.1) σ H λj H3=>ti j H3 λok U=>if ok=true then te j U λv G=>∃ys,G acc=some (.lst ys)/\ys.length<sizeLine/\Pv (i+1) j (upd G acc ↥64) else Pv (i+1) j U)
  (hd:∀σ H,Pv kvs.length σ H->R H) :
  ∃W:Nat->Nat->St->Hp->Prop,↥76/\∀i m Y H',W i m Y H' ->
   ((Itd a o kvs).stop i H'/\R H')\/((Itd a o kvs).go i H'/\∃NX:St->Hp->Prop,↥39 /\
    ∀x H2,(Itd a o kvs).yld i H' x H2->g x Y H2 λj H3=>ti j H3 λok U=>if ok=true then te j U λv G=>∃ys,G acc=some (.lst ys)/\ys.length<sizeLine/\NX j (upd G acc ↥64) else NX j U):=by
 refine ⟨λi m σ H=>m=kvs.length-i/\i<=kvs.length/\Pv i σ H,⟨kvs.length,by simp,aN _,h0⟩,?_⟩
 rintro i m σ H ⟨rfl,hi,p⟩
 have q:=hl i σ H hi p
 by_cases b:i<kvs.length
 ·refine .inr ⟨⟨q,b⟩,Pv (i+1),λY H' c=>⟨kvs.length-(i+1),∅,rfl,b,c⟩,λx H' y=>?_⟩
  obtain ⟨e,z,d,ex⟩:=y
  subst e ex
  exact hs i z σ _ d p
 ·obtain rfl:i=kvs.length:=∅
  exact .inl ⟨⟨q,au _⟩,hd σ H p⟩
end L2
end
section
namespace L2
open PySem.W
theorem V4 {K:ah}(it:Addr) (lo:Int) (n:Nat):Turn P w K tg (Itr lo n) [it] it (λi h=>IsLongIter h it (lo+(i:Nat)*1) ((n:Int)-(i:Nat)) 1) where
 mem:=by simp
 obj:=λi h st b hb=>by
  have e:b=it:=by simpa using hb
  subst e
  exact ⟨_,st,λv z=>by
   have z':i8 _=mi v:=z
   cases z'⟩
 keep:=λi h h' st k=>k it (by simp) _ st
 item:=by
  intro X hP hw hK hc i pins s σ H E I hf st hg
  subst hP hw hK
  obtain ⟨f0,f1,f2,f3,f4,f5⟩:=hf it (by simp)
  have W:=Walks.longrange (prog:=X.prog) (w:=X.w) (I.ok.hd hc) it lo 1 n
  refine W.item i s _ _ hg st λv h' tk hv st' kk=>?_
  obtain ⟨t,rfl⟩:=hv
  have I1:Inv X pins σ H { s with heap:=h',toks:=tk }:=I.turned (λb o hb e=>kk b o (by simpa using hb) e) f0 f1 f3 f4 f5
  refine ⟨_,rfl,JH (s:={ s with heap:=h',toks:=tk }) (n:="longrange_iterator") st' rfl rfl ⋯ ⟨.int (lo+i),H,I1,⟨t,?_⟩,⟨rfl,rfl⟩,st',λb hb=>(hf b hb).1⟩⟩
  rw [nH]
 done:=by
  intro X hP hw hK hc i pins s σ H E I hf st hg
  subst hP hw hK
  obtain ⟨f0,f1,f2,f3,f4,f5⟩:=hf it (by simp)
  exact wpAny_pyNext_long_end (I.ok.hd hc) st (by have:n<=i:=hg;omega) λh' eb=>⟨rfl,I.turned (t':=s.toks) ↥101 f0 f1 f3 f4 f5⟩
 self:=λ_ _ _ _ _ st h=>wpAny_pyIter_longiter st h
section
variable {X:Cx}{tg:Expr}
theorem Yy {R:It->Hp->Prop}{lo hi:Int}{tk:Nat}(I:Inv X pins σ H s)
  (q:R (Itr lo (hi-lo).toNat) H):ay ↥2 X.A (m7 ↥13) (PIE X pins σ tg R) E { s with heap:=s.heap.push { cls:=.type "range",data:=.fields #[.int lo t,.int hi u,.int 1 v] },toks:=tk }:=by
 have a:Inv X pins σ H { s with heap:=s.heap.push { cls:=.type "range",data:=.fields #[.int lo t,.int hi u,.int 1 v] },toks:=tk }:=I.kept λb o e=>ai _ e
 have f:lo+((0:Nat):Int)*1=lo:=by simp
 have d:(((hi-lo).toNat:Nat):Int)-((0:Nat):Int)=mj lo hi 1:=by rw [tI];split <;> omega
 have fp:∀b∈[(↥8).objs.size],_:=λb g=>by
  have e:b=(↥8).objs.size:=by simpa using g
  subst e
  exact a.fpOk (au _) (a.hok.fresh (au _))
 by_cases c:Builtin.Range.small lo hi 1=true
 ·refine oO (rW ..) c ?_
  refine ⟨(↥8).objs.size,[(↥8).objs.size],_,_,H,rfl,
   a.kept (t':=tk) λb o e=>ai _ e,J4 _ lo (hi-lo).toNat,?_,fp,q⟩
  show rV _ _ (lo+((0:Nat):Int)*1) ((((hi-lo).toNat:Nat):Int)-((0:Nat):Int)) 1
  rw [f,d]
  exact aB _ rfl
 ·refine wpAny_pyIter_longrange (rW ..) (by simpa using c) ?_
  refine ⟨(↥8).objs.size,[(↥8).objs.size],_,_,H,rfl,
   a.kept (t':=tk) λb o e=>ai _ e,V4 _ lo (hi-lo).toNat,?_,fp,q⟩
  show IsLongIter _ _ (lo+((0:Nat):Int)*1) ((((hi-lo).toNat:Nat):Int)-((0:Nat):Int)) 1
  rw [f,d]
  exact aB _ rfl
inductive iRngLI (R:It->Hp->Prop) (vs:List V) (H1:Hp):Prop
 | mk (i j:Int) (_:vs=[.int i,.int j]) (_:R (Itr i (j-i).toNat) H1)
noncomputable def E1 (ta:TA):TI:=λσ H R=>ta σ H λa H1=>iRngLI R a H1
theorem vX {a b:Expr}{p pos:Pos}(Y:Gl X "range") (U:X.mg "range" = none) (ha:PA X [a,b] ta) (G:aO [a,b] X.env=[(false,eval a X.env),(false,eval b X.env)]:=by rfl) (z:aO [b] X.env=[(false,eval b X.env)]:=by rfl) :
  PI X tg (.Call (.Name "range" p) [a,b] [] pos) (E1 ta):=by
 intro pins s σ H R I h
 refine Ad (ym I Y U sO (cx (thn ↥59 λm s1 ⟨l,H1,k,d,g⟩=>?_) (by rw [G,z]) (by rw [z];rfl)))
 obtain ⟨i,j,e,q⟩:=g
 subst e
 cases d with
 | cons r c =>
  cases c with
  | cons f c =>
   cases c
   obtain ⟨t,rfl⟩:=r
   obtain ⟨n,rfl⟩:=f
   exact call_range_2 (Yy k q)
end
end L2
end
section
namespace L2
open PySem.W
noncomputable def Fz (a:Addr) (kvs:List (Key×V)) (o:Obj) (H j:Hp):Prop:=j a=some ↥96/\(j=H\/(H a=some (.dK kvs)/\j=upd H a ↥96))
theorem Fz.at {kvs:List (Key×V)}(f:Fz a kvs o H j) (h:H c=some u) (n:c≠a):j c=some u:=by
 rcases f.2 with rfl | ⟨_,rfl⟩
 ·exact h
 ·rw [j8 n];exact h
theorem JN {g:TG}{tb:TS}{D:Ends}{σ:St}{H:Hp}(h:Rd H a (.dK kvs)) (Pv:Obj->Nat->St->Hp->Prop) (h0:∀o H4,Fz a kvs o H H4->Pv o 0 σ H4) (hl:∀o i σ H,i<=kvs.length->Pv o i σ H->H a=some ↥96)
  (hs:∀o i q σ H,kvs[i]? = some q->Pv o i σ H->g (kV q.1) σ H λG H2=>tb { D with nx:=Pv o (i+1),ct:=Pv o (i+1),bk:=D.nx } G H2) (hd:∀o σ H,Pv o kvs.length σ H->D.nx σ H) :
  ∃z j,V.ref a = .ref z/\((H z=some (.dK j)/\∀o,∃W:Nat->Nat->St->Hp->Prop,(∃m,W 0 m σ (upd H z (.frz o (.dK j))))/\∀i m σ H,W i m σ H ->
   ((Itd z o j).stop i H/\D.nx σ H)\/((Itd z o j).go i H/\∃N:St->Hp->Prop,(∀U H',N U H'->∃Y,Y<m/\W (i+1) Y U H')/\∀x H',(Itd z o j).yld i H x H'->g x σ H' λG H2=>tb { D with nx:=N,ct:=N,bk:=D.nx } G H2)) \/
   ∃o,H z=some (.frz o (.dK j))/\∃W:Nat->Nat->St->Hp->Prop,↥76/\∀i m σ H,W i m σ H ->
   ((Itd z o j).stop i H/\D.nx σ H)\/((Itd z o j).go i H/\∃N:St->Hp->Prop,(∀U H',N U H'->∃Y,Y<m/\W (i+1) Y U H')/\∀x H',(Itd z o j).yld i H x H'->g x σ H' λG H2=>tb { D with nx:=N,ct:=N,bk:=D.nx } G H2)):=by
 rcases h with h | ⟨o,h⟩
 ·exact ⟨a,kvs,rfl,.inl ⟨h,λo=>Xy (a:=a) (o:=o) (kvs:=kvs) (Pv o) (h0 o _ ⟨j6,.inr ⟨h,rfl⟩⟩) (hl o) (hs o) (hd o)⟩⟩
 ·exact ⟨a,kvs,rfl,.inr ⟨o,h,Xy (a:=a) (o:=o) (kvs:=kvs) (Pv o) (h0 o _ ⟨h,.inl rfl⟩) (hl o) (hs o) (hd o)⟩⟩
end L2
end
section
namespace L2
open PySem.W
section
variable {prog:Program}{w:bD}{A:bF}{E:aj->Shared->Prop}{s:Shared}
theorem Wa:oQ ↥146 "keys" = pure none:=by rw [typeLookup_type,builtinLookup_eq_fast];kernel_rfl
theorem YM {a:Addr}{o:Obj}{k:Nat}{Q:Option aj->Shared->Prop}(z:s.heap.get? a=some o) (U:o.cls = .type "list") (j:o.data = .seq xs k) (G:o.dict=none) (Y:A.handled=none)
  (h:∀h' tk,↥25->Q none { s with heap:=h',toks:=tk }):ay (aF prog w) A (tm (.ref a) "keys") Q E s:=by
 obtain ⟨c,p,q,m⟩:=o
 simp only at U j G
 subst U j G
 obtain ⟨n,g,d,tk,os⟩:=s
 have l:∀f,(⟨n,g,d,f,os⟩:Shared).TypeIs (.ref a) "list":=λ_=>⟨_,z,rfl⟩
 have B:=sub_AttributeError
 have y:=F.slot_list_getattribute.lookup
 have x:=F.slot_list_getattribute.bind (.ref a)
 have v:=am_list_getattr_none
 unfold tm getAttrBy? getAttrBy
 repeat (any_goals (first | assumption | exact l _ | ((with_reducible show ay _ _ (call (iS "list.__getattribute__") _ _) _ _ _);refine oR F.slot_list_getattribute (l _) am_entry_list_getattribute (F.args_list_getattribute_2 _ _) (meets_getattribute_miss_list a xs k m "keys" _ Wa ↥38 ⋯) ⟨z,Y,λh' f e i=>?_⟩) | wp_step))
 obtain ⟨t,r,u⟩:=i.there
 show ay _ _ (pf _ _ _ _ _ _ _) _ _ _
 unfold pf
 repeat (any_goals (first | assumption | wp_step))
 exact h h' f i.of.keeps
end
theorem wS:entryFor table "dict.update.loop" = some fC.«dict.update.loop»:=entryFor_of_tree (by kernel_rfl)
theorem y4:plainId "dict.update.loop" = true:=by decide +kernel
section
variable {prog:Program}{w:bD}{A:bF}{R:nI->Shared->Prop}{d it l:Addr}{items:Array aj}{qs:List (Key×aj×aj)}
noncomputable def Qt (d it:Addr) (items:Array aj) (qs:List (Key×aj×aj)) (h:Heap):Prop:=∀(i:Nat) (q:Key×aj×aj),qs[i]? = some q->∃b:Addr,items[i]? = some (.ref b)/\b≠d/\b≠it/\h.IsTuple b #[q.2.1,q.2.2]
theorem Qt.keep {h':Heap}(x:Qt d it items qs h) (k:∀b o,b≠d->b≠it->h.get? b=some o->h'.get? b=some o):Qt d it items qs h':=λi q c=>by
 obtain ⟨b,h1,h2,a,o,e,r⟩:=x i q c
 exact ⟨b,h1,h2,a,o,k b o h2 a e,r⟩
theorem Yk (hh:A.handled=none) (Y:l≠d) (U:l≠it) (G:d≠it) (hsz:qs.length<=sizeLine) (hk:∀q∈qs,(jP prog w).is q.1 q.2.1=true) (nd:(qs.map (·.1)).Nodup) (hn:items.size=qs.length) :
  ∀(n i:Nat) (s:Shared),qs.length-i=n->i<=qs.length->s.heap.IsListIter it l i->s.heap.IsList l items->Qt d it items qs s.heap->s.heap.DictOf (jP prog w) d ((qs.take i).map λq=>(q.1,q.2.2)) ->
   (∀h' tk,(∀b o,b≠d->b≠it->s.heap.get? b=some o->h'.get? b=some o)->h'.DictOf (jP prog w) d (qs.map λq=>(q.1,q.2.2))->R (.ok (.ret .none)) { s with heap:=h',toks:=tk }) ->
   cX (aF prog w) A (.builtin "dict.update.loop" ⟨[.ref d,.ref it,cw i,.none],[]⟩) R s:=by
 have L:A.in1.handled=none:=by simp [hh]
 intro n
 induction n with
 | zero =>
  intro i s e hi st p E t I
  obtain rfl:i=qs.length:=∅
  refine dP wS ?_
  rw [dj y4 _]
  show ay _ A.in1 (eC (.ref it) >>= _) _ _ s
  refine af (nk L st p ↥81 λh' V=>?_)
  show ay _ A.in1 (Builtin.Dict.addKeywords d [] >>= _) _ _ _
  rw [aX] at t
  exact af (wpAny_pure (wpAny_pure (I h' s.toks (λb o _ h2 h=>V b o h2 h) (t.extBut V G))))
 | succ n ih =>
  intro i s e hi st p E t I
  have B:i<qs.length:=∅
  obtain ⟨⟨k,D,v⟩,m⟩:∃q,qs[i]? = some q:=⟨_,aa B⟩
  obtain ⟨b,hb,bd,bi,Q⟩:=E i _ m
  refine dP wS ?_
  rw [dj y4 _]
  show ay _ A.in1 (eC (.ref it) >>= _) _ _ s
  refine af (ij st p hb λh1 J C=>?_)
  have H:h1.IsTuple b #[D,v]:=by
   obtain ⟨o,a,r⟩:=Q
   exact ⟨o,(C.2 b bi).trans a,r⟩
  show ay _ A.in1 (dR [aW b] _ >>= _) _ _ _
  obtain ⟨X,y,P,nb,M⟩:=H
  refine af (bC (af (lO ?_)))
  unfold Builtin.Dict.pairItems
  refine af (pS (T:="tuple") ⟨X,y,P⟩ ?_)
  rw [if_pos ⋯]
  refine af (cn y M ↥46)
  show ay _ A.in1 (dR [D,v] (dictSet d D v)) _ _ _
  have O:h1.DictOf (jP prog w) d ((qs.take i).map λq=>(q.1,q.2.2)):=t.sameBut C G
  refine bC (wpAny_dictSet_pairs (s:={ s with heap:=h1 }) (hk _ (aA m)) O (λh2 N K=>?_) (by rw [ag,aG];omega))
  refine wpAny_pure ⟨dY y4 _,?_⟩
  have keep:∀c o,c≠d->c≠it->s.heap.get? c=some o->h2.get? c=some o:=λc o g f h=>(K.2 c g).trans ((C.2 c f).trans h)
  refine ih (i+1) { s with heap:=h2,toks:=s.toks+1 } ∅ ∅ ?_ ?_ (E.keep keep) ?_ λh3 tk Z d3=>?_
  ·obtain ⟨o,a,r⟩:=J
   exact ⟨o,(K.2 it G.symm).trans a,r⟩
  ·obtain ⟨o,a,r⟩:=p
   exact ⟨o,keep l o Y U a,r⟩
  ·have e:tY ((qs.take i).map λq=>(q.1,q.2.2)) k v=(qs.take (i+1)).map λq=>(q.1,q.2.2):=by
    rw [tY,if_neg,aQ,m]
    ·simp
    ·intro z
     obtain ⟨x,hx,ex⟩:=List.any_eq_true.mp z
     obtain ⟨u,hu,rfl⟩:=List.mem_map.mp hx
     have ex:u.1=k:=of_decide_eq_true ex
     obtain ⟨j,hj,S⟩:=List.mem_iff_getElem.mp hu
     rw [aG] at hj
     rw [lZ] at S
     obtain ⟨_,eq⟩:=List.getElem?_eq_some_iff.mp m
     have h1:(qs.map (·.1))[j]'(by rw [ag];omega)=(qs.map (·.1))[i]'(by rw [ag];exact B):=by rw [eM,eM,S,eq,ex]
     exact absurd h1 (List.pairwise_iff_getElem.mp nd j i _ _ ∅)
   rw [<- e]
   exact N
  ·exact I h3 tk (λc o g f h=>Z c o g f (keep c o g f h)) d3
end
section
variable {prog:Program}{w:bD}{A:bF}{E:aj->Shared->Prop}{s:Shared}{l:Addr}{ol:Obj}{nl:Nat}{items:Array aj}{qs:List (Key×aj×aj)}
theorem Z1 {Q:aj->Shared->Prop}(U:A.handled=none) (j:s.heap.get? l=some ol) (G:ol.cls = .type "list") (z:ol.data = .seq items nl) (Y:ol.dict=none) (hsz:qs.length<=sizeLine) (hk:∀q∈qs,(jP prog w).is q.1 q.2.1=true) (nd:(qs.map (·.1)).Nodup) (hn:items.size=qs.length)
  (ht:∀(i:Nat) (q:Key×aj×aj),qs[i]? = some q->∃b:Addr,items[i]? = some (.ref b)/\s.heap.IsTuple b #[q.2.1,q.2.2])
  (h:∀h' tk,↥25->h'.DictOf (jP prog w) s.heap.objs.size (qs.map λq=>(q.1,q.2.2))->Q ↥13 { s with heap:=h',toks:=tk }) :
  ay (aF prog w) A (call (.type "dict") [.ref l]) Q E s:=by
 refine callType_codes (Q₁:=λobj n=>obj = .ref s.heap.objs.size/\n={ s with heap:=s.heap.push { cls:=.type "dict",data:=.dict #[] } }) F.kt_called_dict (F.kt_typeCall_dict_1 _) F.entry_dict_init (kt_code_dict_new _ ⟨rfl,rfl⟩) ?_
 rintro obj n ⟨rfl,rfl⟩
 have a:(s.heap.push { cls:=.type "dict",data:=.dict #[] }).DictOf (jP prog w) s.heap.objs.size []:=sD s.heap
 have kp:∀b o,s.heap.get? b=some o->(s.heap.push { cls:=.type "dict",data:=.dict #[] }).get? b=some o:=λb o q=>ai _ q
 refine ⟨a.typeIs,F.args_dict_init_2 _ _,?_⟩
 have lt:∀b o,s.heap.get? b=some o->b≠s.heap.objs.size:=λb o q=>aD (av q)
 unfold fC.«dict.__init__»
 refine af ?_
 unfold Builtin.Dict.selfAndRest
 refine af (wpAny_notOrdered_dict a.typeIs ?_)
 show ay _ _ (pure (s.heap.objs.size,[aW l])) _ _ _
 refine wpAny_pure ?_
 show ay _ _ (mz "dict.__init__" s.heap.objs.size (.ref l) [] .none) _ _ _
 unfold mz
 refine af (pS (T:="list") ⟨_,kp _ _ j,G⟩ ?_)
 rw [if_pos ⋯]
 generalize H:s.heap.push { cls:=.type "dict",data:=.dict #[] }=y at *
 refine af (YM (s:={ s with heap:=y }) (kp _ _ j) G z Y (by simp [U]) λh1 tk c=>?_)
 rw [if_pos (show (none:Option aj).isNone=true from rfl)]
 have k:h1.IsList l items:=⟨ol,c _ _ (kp _ _ j),G,nl,z⟩
 refine af (eY ?_)
 refine af (cZ (s:={ s with heap:=h1,toks:=tk }) k (wpAny_pure ⟨dY y4 _,?_⟩))
 obtain ⟨D,_,_,p,_⟩:=id a
 have e:∀b o,h1.get? b=some o->b≠h1.objs.size:=λb o q=>aD (av q)
 have g:∀b o,s.heap.get? b=some o->(h1.push { cls:=.type "list_iterator",data:=.fields #[.ref l,.int 0 0] }).get? b=some o:=λb o q=>ai _ (c _ _ (kp _ _ q))
 refine Yk (d:=s.heap.objs.size) (it:=h1.objs.size) (l:=l) (items:=items) (qs:=qs) (by simp [U]) (lt _ _ j) (e _ _ (c _ _ (kp _ _ j))) (e _ _ (c _ _ p)) hsz hk nd hn qs.length 0 _ ∅ (aN _) ⟨_,aB _ rfl,rfl,rfl⟩ (k.push _) (λi q v=>?_) ?_ λh' m u C=>?_
 ·obtain ⟨b,x,o,f,r⟩:=ht i q v
  exact ⟨b,x,lt _ _ f,e _ _ (c _ _ (kp _ _ f)),o,g _ _ f,r⟩
 ·obtain ⟨o,es,B,t,r⟩:=a
  exact ⟨o,es,B,ai _ (c _ _ t),r⟩
 ·exact ⟨rfl,h h' m (λb o q=>u b o (lt _ _ q) (e _ _ (c _ _ (kp _ _ q))) (g _ _ q)) C⟩
end
theorem wT {α β:Type}(P:Nat->α->β->Prop):∀(l:List α) (n:Nat),(∀(i:Nat) a,l[i]? = some a->∃b,P (n+i) a b)->∃bs:List β,bs.length=l.length/\∀(i:Nat) a b,l[i]? = some a->bs[i]? = some b->P (n+i) a b
 | [],n,_=>⟨[],rfl,λi a b h=>by simp at h⟩
 | x::r,n,h=>by
  obtain ⟨b,e⟩:=h 0 x rfl
  obtain ⟨bs,d,c⟩:=wT P r (n+1) λi a hi=>by
   have:=h (i+1) a (by simpa using hi)
   rwa [show n+1+i=n+(i+1) by omega]
  refine ⟨b::bs,by simp [d],λi a f h1 h2=>?_⟩
  cases i with
  | zero =>
   simp at h1 h2
   subst h1 h2
   exact e
  | succ i =>
   have:=c i a f (by simpa using h1) (by simpa using h2)
   rwa [show n+(i+1)=n+1+i by omega]
theorem JP {α β:Type}{F:α->β->Prop}:∀{l₁:List α}{j:List β},l₁.length=j.length->(∀(i:Nat) a b,l₁[i]? = some a->j[i]? = some b->F a b)->cz F l₁ j
 | [],[],_,_=>.nil
 | [],_::_,h,_=>by simp at h
 | _::_,[],h,_=>by simp at h
 | x::r,y::t,h,k=>.cons (k 0 x y rfl rfl) (JP (by simpa using h) λi a b h1 h2=>k (i+1) a b (by simpa using h1) (by simpa using h2))
theorem Z5 {X:Cx}(K:ah) (U:X.calm=true) (hK:X.K=K:=by rfl):xh X (.type "dict") (λxs H Q=>∃(p:Addr) (z:List V) (j:List (Int×Int)),xs=[.ref p]/\SqL K H p z/\cz (λv (m:Int×Int)=>∃b,v=V.ref b/\H b=some (.tup [.int m.1,.int m.2])) z j/\(j.map (·.1)).Nodup/\j.length<=1000 /\
  ∀(d:Addr) H',H d=none->H' d=some (.dK (j.map λm=>(.inl m.1,.int m.2)))->jk H H'->Q (.ref d) H'):=by
 subst hK
 intro pins s σ H xs us Q I r h
 obtain ⟨p,z,j,rfl,hq,N,nd,l,k⟩:=h
 obtain ⟨u,rfl,A⟩:=zX r
 cases A
 obtain ⟨t,J,⟨ol,nl,ho,hc,R,P⟩,hz⟩:=I.list hq
 have E:z.length=j.length:=aV N
 have ac:z.length=t.length:=J.length
 obtain ⟨qs,x,M⟩:=wT (λi (m:Int×Int) (q:Key×aj×aj)=>∃(b:Addr) (f c:Tok),q=(.inl m.1,.int m.1 f,.int m.2 c)/\t[i]? = some (.ref b)/\s.heap.IsTuple b #[.int m.1 f,.int m.2 c]) j 0 λi m hi=>by
  rw [mP]
  have B:i<z.length:=by rw [E];exact (List.getElem?_eq_some_iff.mp hi).1
  obtain ⟨m',g,b,eb,hb⟩:=Paired.get N (aa B)
  rw [hi] at g
  cases g
  obtain ⟨u,hu,A⟩:=J.get (aa B)
  rw [eb] at A
  cases (show u=aW b from A)
  obtain ⟨_,ab,T,o,h1,h2,n,G⟩:=(show qB X.prog X.w H s.heap b (.tup [.int m.1,.int m.2]) from I.hok b _ hb)
  cases T with
  | cons p1 Z =>
   cases Z with
   | cons p2 Y =>
    cases Y
    obtain ⟨f,rfl⟩:=p1
    obtain ⟨c,rfl⟩:=p2
    exact ⟨_,b,f,c,rfl,hu,o,h1,h2,n,G⟩
 have get:∀(i:Nat) (q:Key×aj×aj),qs[i]? = some q->∃(m:Int×Int) (b:Addr) (f c:Tok),j[i]? = some m/\q=(.inl m.1,.int m.1 f,.int m.2 c)/\t[i]? = some (.ref b)/\s.heap.IsTuple b #[.int m.1 f,.int m.2 c]:=λi q hi=>by
  have C:i<j.length:=by rw [<- x];exact (List.getElem?_eq_some_iff.mp hi).1
  obtain ⟨b,f,c,e,h1,h2⟩:=M i _ q (aa C) hi
  rw [mP] at h1
  exact ⟨_,b,f,c,aa C,e,h1,h2⟩
 have D:qs.map (·.1)=j.map λm=>(eR m.1:Key):=by
  refine iD λi=>?_
  rw [ax,ax]
  cases e:qs[i]? with
  | none =>
   rw [List.getElem?_eq_none_iff] at e
   rw [List.getElem?_eq_none_iff.mpr ∅]
   rfl
  | some q =>
   obtain ⟨m,b,f,c,h1,h2,_⟩:=get i q e
   rw [h1,h2]
   rfl
 have L:(qs.map (·.1)).Nodup:=by
  rw [D,show (j.map λm=>(eR m.1:Key))=(j.map (·.1)).map eR by rw [bW];rfl]
  exact List.Pairwise.map _ (λa b h e=>h (fD e)) nd
 have S:KV (j.map λm=>((.inl m.1,.int m.2):Key×V)) (qs.map λq=>(q.1,q.2.2)):=by
  refine JP (by rw [ag,ag,x]) λi a b h1 h2=>?_
  rw [ax] at h1 h2
  obtain ⟨q,y,rfl⟩:=Option.map_eq_some_iff.mp h2
  obtain ⟨m,_,f,c,g,e,_⟩:=get i q y
  rw [g] at h1
  cases h1
  subst e
  exact ⟨rfl,c,rfl⟩
 refine Z1 (qs:=qs) (I.ok.hd U) ho hc P R (by rw [x];exact aK l ⋯) (λq y=>?_) L ↥81 (λi q hi=>?_) λh' tk keep dd=>?_
 ·obtain ⟨i,hi,e⟩:=List.mem_iff_getElem.mp y
  obtain ⟨m,b,f,c,h1,h2,_⟩:=get i q (by rw [aa hi,e])
  subst h2
  exact gJ (k:=.inl m.1) ⟨f,rfl⟩
 ·obtain ⟨m,b,f,c,h1,h2,G,h4⟩:=get i q hi
  subst h2
  exact ⟨b,by simpa using G,h4⟩
 ·have O:=I.hok.fresh (au s.heap.objs.size)
  exact ⟨.ref _,upd H s.heap.objs.size (.dK (j.map λm=>((.inl m.1,.int m.2):Key×V))),I.laid (t':=tk) keep (au _) (XZ (by rw [ag];exact aK l ⋯) (beq_eq_false_iff_ne.mpr (cF (aD I.big))) S dd),rfl,k _ _ O j6 (jk.new O)⟩
end L2
end
section
namespace L2
open PySem.W
section
variable {X:Cx}
end
end L2
end
section
namespace L2
open PySem.W
section
variable {prog:Program}{w:bD}{A:bF}{R:nI->Shared->Prop}{I:Addr}{fp wr:List Addr}{n:Nat}{P:Nat->aj->Prop}{St:Nat->Heap->Prop}{kw:List (Str×aj)}
theorem km:(toString "max" ++ toString ".loop" : String) = "max.loop":=⋯
theorem Qa (W:Walks prog w A.in1 I fp wr n P St) (U:CmpOf prog w A.in1 .Gt P bt) {S:Addr}(ns:S∉fp) {d:aj}:∀(k j:Nat) (s:Shared) (G:aj) (c:Nat),n-(j+1)=k->j+1<=n->St (j+1) s.heap->P (ou bt j) G->s.heap.get? S=some { cls:=.type "list",dict:=none,data:=.seq #[G,G] c,slots:=#[] } ->
  (∀v h' tk,P (ou bt (n-1)) v->↥104->R (.ok (.ret v)) { s with heap:=h',toks:=tk })->cX (aF prog w) A (.builtin "max.loop" ⟨[.ref I,.none,.ref S],[("default",d)]⟩) R s
 | k,j,s,G,c,E,H,q,x,t,u=>by
  have y:S∉wr:=λh=>ns (W.sub _ h)
  refine dP rP (dj eN _ ▸ ?_)
  show ay _ A.in1 (mw (.ref S) >>= _) _ _ s
  refine af (cn t rfl (show ay _ A.in1 (Aa (eC (.ref I)) _ >>= _) _ _ s from af (lO ?_)))
  by_cases e:j+1=n
  ·refine W.done s _ _ (e ▸ q) λh' tk a=>?_
   show ay _ A.in1 (updateSeq S (λ_=>#[]) >>= _) _ _ _
   refine af (nh (a S _ y t) rfl (af (fH (wpAny_pure (u G _ tk (by rw [<- e];exact x) λb o h1 h2 z=>?_)))))
   exact (bE _ _ (cF h2)).trans (a b o h1 z)
  ·have lt:j+1<n:=∅
   refine W.item (j+1) s _ _ lt q λv h' tk B i a=>?_
   have m:=a S _ y t
   show ay _ A.in1 (Aa (dR [v,v] (richCompare .Gt v G >>= _)) _ >>= _) _ _ _
   refine af (lO (bC (af (U (j+1) (ou bt j) v G _ _ _ B x (af (bC (c0 (af (fH ↥46)))))))))
   cases C:bt (j+1) (ou bt j) with
   | true =>
    simp only [if_true]
    refine af (nh m rfl (af (fH (km ▸ wpAny_pure ⟨dY eN _,?_⟩))))
    refine Qa W U ns (n-(j+1+1)) (j+1) _ v _ rfl lt (W.frame _ _ _ i λb D o z=>?_) (by simp only [ou,C,if_true];exact B) (cO _ m rfl) λr h2 f g l=>?_
    ·exact (bE _ _ (λh:S=b=>ns (by rw [h];exact D))).trans z
    ·exact u r h2 f g λb o h1 p z=>l b o h1 p ((bE _ _ (cF p)).trans (a b o h1 z))
   | false =>
    simp only [c5,if_false]
    refine af (fH (km ▸ wpAny_pure ⟨dY eN _,?_⟩))
    exact Qa W U ns (n-(j+1+1)) (j+1) _ G c rfl lt i (by simp only [ou,C,c5,if_false];exact x) m λr h2 f g l=>u r h2 f g λb o h1 p z=>l b o h1 p (a b o h1 z)
termination_by k=>k
decreasing_by all_goals omega
theorem Vq (W:Walks prog w A.in1 I fp wr n P St) (U:CmpOf prog w A.in1 .Gt P bt) {S:Addr}(ns:S∉fp) {s:Shared}{c:Nat}(j:St 0 s.heap) (G:s.heap.get? S=some { cls:=.type "list",dict:=none,data:=.seq #[] c,slots:=#[] })
  (h0:n=0->∀h' tk,↥104->R (.ok (.ret d)) { s with heap:=h',toks:=tk })
  (Y:0<n->∀v h' tk,P (ou bt (n-1)) v->↥104->R (.ok (.ret v)) { s with heap:=h',toks:=tk }):cX (aF prog w) A (.builtin "max.loop" ⟨[.ref I,.none,.ref S],[("default",d)]⟩) R s:=by
 have q:S∉wr:=λh=>ns (W.sub _ h)
 refine dP rP (dj eN _ ▸ ?_)
 show ay _ A.in1 (mw (.ref S) >>= _) _ _ s
 refine af (cn G rfl (show ay _ A.in1 (Aa (eC (.ref I)) _ >>= _) _ _ s from af (lO ?_)))
 rcases Nat.eq_zero_or_pos n with e | e
 ·refine W.done s _ _ (e ▸ j) λh' tk a=>?_
  exact af (eY (wpAny_pure (h0 e h' tk λb o h1 _ z=>a b o h1 z)))
 ·refine W.item 0 s _ _ e j λv h' tk r g a=>?_
  have f:=a S _ q G
  show ay _ A.in1 (updateSeq S (λ_=>#[v,v]) >>= _) _ _ _
  refine af (nh f rfl (km ▸ wpAny_pure ⟨dY eN _,?_⟩))
  refine Qa W U ns _ 0 _ v _ rfl e (W.frame _ _ _ g λb t o z=>?_) r (cO _ f rfl) λp h2 i k l=>?_
  ·exact (bE _ _ (λh:S=b=>ns (by rw [h];exact t))).trans z
  ·exact Y e p h2 i k λb o h1 m z=>l b o h1 m ((bE _ _ (cF m)).trans (a b o h1 z))
end
theorem Wi (v:aj):Builtin.Builtins.bindParams "max" ["key","default"] 0 ⟨[],[(ao "default",v)]⟩=pure [none,some v]:=by rfl
theorem Ws (a v:aj):argsOk "max" ⟨[a],[(ao "default",v)]⟩:=by unfold argsOk;kernel_rfl
section
variable {X:Cx}
inductive rMaxDI (K:ah) (Q:VK) (xs:List V) (y:V) (H1:Hp):Prop
 | mk (p:Addr) (ns:List Int) (d:Int) (_:xs=[.ref p]) (_:y = .int d) (_:SqL K H1 p ↥129) (_:(ns=[]->Q (.int d) H1)) (_:∀M,M∈ns->(∀a∈ns,a<=M)->Q (.int M) H1)
noncomputable def E7 (K:ah) (ta:TA) (tx:TE):TE:=λσ H Q=>ta σ H λxs H0=>tx σ H0 λy H1=>rMaxDI K Q xs y H1
theorem Uy {e:Expr}{p pos kpos:Pos}(K:ah) (hc:X.calm=true) (hg:Gl X "max") (hm:X.mg "max" = none) (ha:PA X [e] ta) (U:PE X x tx) (hK:X.K=K:=by rfl)
  (he:cG pos (aO [e] X.env)=↥33::cG pos (aO [] X.env):=by rfl) (G:(cG pos (aO [e] X.env)).any (·.1)=false:=by rfl) :
  PE X (.Call (.Name "max" p) [e] [⟨some (ao "default"),x,kpos⟩] pos) (E7 K ta tx):=by
 subst hK
 intro pins s σ H Q I h
 refine cT (ym I hg hm fg ?_ ⋯ ⋯)
 refine callWith_kw (thn ↥59 λus s1 ⟨vs,H1,I1,r,q⟩=>?_) he G
 show ay _ _ (evalAll ((do let v <- eval x X.env;fB pos;pure v)::[])) _ _ s1
 refine oY (af (thn (U pins s1 σ H1 _ I1 q) λv f ⟨y,H2,C,P,a,g,d,e1,ey,Z,V,T⟩=>af (cP (wpAny_pure (pT ?_)))))
 subst e1 ey
 obtain ⟨u0,rfl,S⟩:=zX r
 cases S
 obtain ⟨t,rfl⟩:=P
 show ay _ _ (call (.builtin "max") [.ref a] [(ao "default",.int d t)]) _ _ f
 obtain ⟨c,R,pl,hz⟩:=C.list Z
 have N:=xx R
 have m:=N.length
 have E:a<f.heap.objs.size:=by
  obtain ⟨o,n,e,_⟩:=id pl
  exact av e
 have item:∀(i:Nat) (v:aj),c.toArray[i]? = some v->∃t,v=fh (g.getD i 0) t:=λi v hP=>by
  have B:c[i]? = some v:=by simpa using hP
  have hi:i<c.length:=(List.getElem?_eq_some_iff.mp B).1
  obtain ⟨t',e⟩:=w5 N hi
  rw [e] at B
  refine ⟨t',?_⟩
  rw [ak,aa ∅]
  exact (aI B).symm
 have D:∀(h':Heap),(∀b o,b∉[f.heap.objs.size]->b≠ (↥100).objs.size->((↥100).push { cls:=dW "list",data:=A9 #[] }).get? b=some o->h'.get? b=some o)->∀b o,f.heap.get? b=some o->h'.get? b=some o:=λh' u b o l=>by
  have L:=av l
  refine u b o (λz=>absurd (List.mem_singleton.mp z) (aD L)) ?_ (ai _ (ai _ l))
  rw [c7]
  exact aD (bU L)
 have J:=oU (prog:=X.prog) (w:=X.w) (show (X.A.in1).handled=none from C.ok.hd hc) f.heap.objs.size a (aD E) c.toArray
 refine kmb_tree F.kind_max F.plain_max F.entry_max (Ws (.ref a) (.int d t)) ?_
 refine af (lY (Wi (.int d t)) (af (wpAny_pure (af (cZ pl.isList (af (bT ?_)))))))
 rw [km]
 refine wpAny_pure ⟨dY eN _,Vq J (bt:=λi j=>decide (g.getD i 0 > g.getD j 0)) (CmpOf.ints_gt (λi=>g.getD i 0) ?_) ?_ (J.frame _ _ _ ⟨⟨_,aB _ rfl,rfl,rfl⟩,pl.isList.at λo e=>ai _ e⟩ λb _ o e=>ai _ e) (aB _ rfl) (λO h' tk u=>?_) λO v h' tk Y u=>?_⟩
 all_goals try clear J
 ·exact item
 ·intro z
  rw [show (↥100).objs.size=f.heap.objs.size+1 from c7 _ _] at z
  rcases List.mem_cons.mp z with z | z
  ·exact absurd z (cH (dG _))
  ·exact absurd (List.mem_singleton.mp z) (cH (bU E))
 ·exact ⟨.int d,_,C.kept (t':=tk) (λb o l=>D h' u b o l),⟨t,rfl⟩,V (List.eq_nil_of_length_eq_zero (by rw [<- m];simpa using O))⟩
 ·obtain ⟨t',rfl⟩:=item _ _ Y
  obtain ⟨b1,b2⟩:=argBest_gt (λi=>g.getD i 0) (c.toArray.size-1)
  have ab:c.toArray.size=g.length:=by rw [<- m];simp
  refine ⟨.int _,_,C.kept (t':=tk) (λb o l=>D h' u b o l),⟨t',rfl⟩,T _ ?_ λx U=>?_⟩
  ·rw [ak,aa ∅]
   exact bQ _
  ·obtain ⟨k,M,rfl⟩:=List.mem_iff_getElem.mp U
   have:=b2 k ∅
   rw [ak,aa M] at this
   exact this
end
end L2
end
section
namespace L2
open PySem.W
theorem kP:∀(ns:List Int),(∀n∈ns,-(2 ^ 20)<=n/\n<=2 ^ 20) -> -(2 ^ 20)*(ns.length:Int)<=ns.sum/\ns.sum<=2 ^ 20*(ns.length:Int)
 | [],_=>by simp
 | n::ns,h=>by
  have a:=h n (aE ..)
  have b:=kP ns λz c=>h z (aC _ c)
  rw [ee,b9]
  omega
section
variable {X:Cx}
inductive cI_call_sumZ (K:ah) (xs:List V) (H:Hp) (Q:VK):Prop
 | mk (p:Addr) (ns:List Int) (_:xs=[.ref p]) (_:SqL K H p ↥129) (_:ns.length<=1000) (_:(∀n∈ns,-(2 ^ 20)<=n/\n<=2 ^ 20)) (_:Q (.int ns.sum) H)
theorem xN (K:ah) (G:X.calm=true) (U:X.K=K:=by rfl):xh X (.builtin "sum") (cI_call_sumZ K):=by
 subst U
 intro pins s σ H xs M Q I r h
 obtain ⟨p,a,rfl,B,O,l,q⟩:=h
 obtain ⟨u,rfl,y⟩:=zX r
 cases y
 obtain ⟨c,x,pl,N⟩:=I.list B
 have m:=xx x
 have D:=m.length
 have k:p≠s.heap.objs.size:=by
  obtain ⟨o,n,e,_⟩:=id pl
  exact aD (av e)
 refine tN (cZ pl.isList ?_)
 refine ⟨s.heap.objs.size,_,_,_,_,_,λi=>a.getD i 0,rfl,oU (show (X.A.in1).handled=none from I.ok.hd G) s.heap.objs.size p k c.toArray,⟨⟨_,aB _ rfl,rfl,rfl⟩,pl.isList.at λo e=>ai _ e⟩,?_,?_,?_,?_⟩
 ·intro b hb'
  have g:p<s.heap.objs.size:=by
   obtain ⟨o,n,e,_⟩:=id pl
   exact av e
  show b<(s.heap.push _).objs.size
  rw [c7]
  rcases List.mem_cons.mp hb' with rfl | hb'
  ·exact dG _
  ·have e:b=p:=by simpa using hb'
   subst e
   exact bU g
 ·intro i v J
  have d:c[i]? = some v:=by simpa using J
  have hi:i<c.length:=(List.getElem?_eq_some_iff.mp d).1
  obtain ⟨t,e⟩:=w5 m hi
  rw [e] at d
  refine ⟨t,?_⟩
  show v=fh (a.getD i 0) t
  rw [ak,aa ∅]
  exact (aI d).symm
 ·intro j P
  have f:j<a.length:=by
   have:c.toArray.size=c.length:=by simp
   omega
  constructor
  ·show InLong (a.getD j 0)
   rw [ak,aa f]
   have:=l _ (bQ f)
   show -(2 ^ 63)<=a[j]/\a[j]<2 ^ 63
   omega
  ·rw [nX]
   have:=kP (a.take (j+1)) λn C=>l n (fI C)
   have L:(a.take (j+1)).length<=1000:=by rw [aG];omega
   show -(2 ^ 63)<=_/\_<2 ^ 63
   omega
 ·intro h' tk t' E
  rw [nX,aZ ↥81]
  refine ⟨.int a.sum,H,I.kept (t':=tk) λb o w=>E b o (by
   intro z
   have:=List.mem_singleton.mp z
   subst this
   exact absurd (av w) (cp _)) (ai _ w),⟨t',rfl⟩,q⟩
end
end L2
end
section
namespace L2
open PySem.W
section
variable {X:Cx}
theorem Vk (K:ah) (G:X.K=K:=by rfl):Ec X (rIxL K):=by
 subst G
 intro pins s σ H x y v u Q I k g h
 obtain ⟨p,xs,i,z,rfl,rfl,l,n,q⟩:=h
 cases k
 obtain ⟨t,rfl⟩:=g
 obtain ⟨d,r,pl,B⟩:=I.list l
 obtain ⟨j,h1,h2,D,A,o⟩:=Qf n
 obtain ⟨w,f,c⟩:=r.get h2
 have m:=r.length
 have C:=gR
 have a:EP X pins σ Q w s:=⟨z,H,I,c,q⟩
 by_cases e:0<=i
 ·have b:i.toNat=j:=by
   rw [nM e o] at h1
   exact aI h1
  exact wpAny_getItem_list pl.isList e ∅ (by rw [b];simpa using f) a
 ·have b:(i+(d.toArray.size:Int)).toNat=j:=by
   rw [mH ∅ A] at h1
   rw [az,<- m]
   exact aI h1
  exact mJ pl.isList ∅ (by rw [az] <;> omega) ∅ (by rw [b];simpa using f) a
end
end L2
end
section
namespace L2
theorem rdA {α:Type}{f Q:α->Prop}(v:α) (h:f v) (k:Q v):∃x,f x/\Q x:=⟨v,h,k⟩
theorem rdB {α β:Type}{f g Q:α->β->Prop}(v:α) (u:β) (h:f v u) (h':g v u) (k:Q v u):∃x y,f x y/\g x y/\Q x y:=⟨v,u,h,h',k⟩
end L2
end
section
namespace L2
open PySem.W
noncomputable abbrev Cx.noX (X:Cx):Cx:={ X with xe:=λ_ _=>False }
section
variable {X:Cx}{pins:List (Addr×Obj)}{σ:St}{H:Hp}{s:Shared}
theorem Inv.toNoX (I:Inv X pins σ H s):Inv X.noX pins σ H s:=⟨okP I.ok _ rfl,I.os,I.bare,I.base,I.loc,I.cell,I.free,I.freeC,I.pin,I.hok,I.len⟩
theorem Inv.ofNoX (I:Inv X.noX pins σ H s):Inv X pins σ H s:=⟨okP I.ok _ rfl,I.os,I.bare,I.base,I.loc,I.cell,I.free,I.freeC,I.pin,I.hok,I.len⟩
theorem GH {st:Stmt}(h:PS X.noX st t):PS X st t:=λpins s σ H D I q=>thn (wpAny_noRaise (h pins s σ H D I.toNoX q)) λ_ _ z=>En (λI=>I.ofNoX) z
end
end L2
end
section
namespace L2
open PySem.W
section
variable {X:Cx}
inductive gLst (K:ah) (n:Nat) (t:TGs) (v:V) (σ:St) (H:Hp) (Q:St->Hp->Prop):Prop
 | mk (a:_) (xs:_) (_:v = .ref a) (_:SqL K H a xs) (_:xs.length=n) (_:t xs σ H Q)
theorem Wm {k:Nat}{n:Nat}{pos:Pos}(K:ah) (G:X.calm=true) (h:PGs X es t)
  (z:(cY es X.env).length=n:=by rfl) (j:(cY es X.env).findIdx? (·.1)=none:=by rfl) (U:X.K=K:=by rfl):PG X (.Tuple es k pos) (gLst K n t):=by
 subst U
 intro pins s σ H v u Q I r c
 obtain ⟨a,xs,m,i,l,c⟩:=c
 subst m
 cases r
 obtain ⟨f,d,pl,q⟩:=I.list i
 rw [assign_Tuple]
 refine af (cP ?_)
 unfold unpack
 have e:n=f.toArray.size:=by simp [<- l,d.length]
 rw [z,j,e]
 refine af (bC (kun_itemsOf (I.ok.hd G) pl.isList λh' g=>?_))
 have p:Inv X pins σ H { s with heap:=h' }:=I.kept (t':=s.toks) λb o e=>g b o (aD (av e)) e
 exact h pins _ σ H xs _ Q p (by simpa using d) c
end
end L2
end
section
namespace K32
open L2
local macro_rules | `(tactic| walk_at "hp")=>`(tactic| first | assumption | exact j6 | (rw [j8 (by first | assumption | (apply cF;assumption))];first | assumption | exact j6))
local macro_rules | `(tactic| walk_at "num")=>`(tactic| first | decide | omega)
local macro_rules | `(tactic| walk_at "rd1")=>`(tactic| first | refine rdA _ rfl ?_ | refine rdB _ _ rfl rfl ?_ | refine ⟨_,rfl,?_⟩ | refine ⟨_,_,rfl,rfl,?_⟩ | refine ie (show VU _ _ from df ⟨by walk_at "num",by walk_at "num"⟩) ?_ | refine ie (show VU _ _ from aP ⟨by walk_at "num",by walk_at "num"⟩) ?_ | refine ie (show Wy _ _ from ⟨by walk_at "num",by walk_at "num"⟩) ?_ | refine ie (show Ep _ _ from ⟨by walk_at "num",by walk_at "num",by walk_at "num"⟩) ?_ | refine ie (show (0:Int)<_ by walk_at "num") ?_ | refine ⟨_,_,_,_,rfl,rfl,SqL.of (by walk_at "hp"),(by rfl),?_⟩ | refine ⟨_,_,_,_,rfl,rfl,SqT.of (by walk_at "hp"),(by rfl),?_⟩ | refine ⟨_,_,_,_,rfl,rfl,(by assumption),(by rfl),?_⟩ | refine ⟨_,_,_,_,rfl,rfl,(by walk_at "hp"),(by rfl),?_⟩ | refine ⟨rfl,?_⟩)
local macro_rules | `(tactic| walk_at "r")=>`(tactic| repeat walk_at "rd1")
local macro_rules | `(tactic| walk_at "s")=>`(tactic| exact ⟨rfl,rfl,rfl,by decide +kernel,rfl,by decide +kernel,by decide +kernel⟩)
local macro_rules | `(tactic| walk_at "k")=>`(tactic| decide +kernel)
local macro_rules | `(())=>`(by first | lia | omega)
local macro_rules | `(tactic| right)=>`(tactic| first | lia | omega)
local macro_rules | `(∅)=>`(by decide +kernel)
local macro_rules | `(tactic| walk_at "w")=>`(tactic| (intro _ z;cases z))
local macro_rules | `(tactic| walk_at "z")=>`(tactic| (intro z;cases z))
local macro_rules | `(tactic| left)=>`(tactic| walk_at "r")
noncomputable def top (i:Nat):Stmt:=PySem.Challenge.pw_firnfall_k32_sums_of_a_year.main.body.getD i (.Pass ⟨0,0,0,0⟩)
noncomputable abbrev y6:Stmt:=top 17
noncomputable abbrev yK:Stmt:=top 18
noncomputable abbrev ul:Stmt:=top 19
noncomputable abbrev Qb:Stmt:=top 20
noncomputable abbrev xq:Stmt:=top 21
noncomputable abbrev uo:Stmt:=top 22
noncomputable abbrev Ja:Stmt:=top 23
noncomputable abbrev xZ:Stmt:=top 24
noncomputable abbrev vT:Stmt:=top 25
noncomputable abbrev yW:Stmt:=top 30
noncomputable abbrev yZ:Stmt:=top 31
noncomputable abbrev gk:Stmt:=top 32
noncomputable abbrev yY:Stmt:=top 37
noncomputable abbrev yh:Stmt:=top 38
noncomputable abbrev yo:Stmt:=top 39
noncomputable abbrev xi:Stmt:=(xE (top 40) 0)
noncomputable abbrev kQ:Stmt:=(xE (top 40) 1)
noncomputable abbrev vL:Stmt:=(xE (top 40) 2)
noncomputable abbrev xT:Stmt:=(xE (top 40) 4)
noncomputable abbrev xK:Stmt:=(xE (top 40) 5)
noncomputable abbrev yr:Stmt:=(xE (top 40) 6)
noncomputable abbrev yk:Stmt:=(xE (top 40) 7)
noncomputable abbrev vq:Stmt:=(xE (top 40) 8)
noncomputable abbrev yP:Stmt:=(xE (top 40) 10)
noncomputable abbrev ya:Stmt:=(xE (top 40) 13)
noncomputable abbrev zo:Stmt:=(xE (top 40) 14)
noncomputable abbrev ux:Stmt:=(xE (top 40) 16)
noncomputable abbrev yx:Stmt:=top 42
noncomputable abbrev za:Stmt:=top 43
noncomputable abbrev uB:Stmt:=top 44
noncomputable abbrev Zn:Stmt:=top 46
noncomputable abbrev uJ:Stmt:=top 47
noncomputable abbrev kh:Stmt:=top 48
noncomputable abbrev wC:Stmt:=top 50
noncomputable abbrev vB:Stmt:=top 51
noncomputable abbrev ut:Stmt:=top 52
noncomputable abbrev vF:Stmt:=top 53
noncomputable abbrev zx:Stmt:=top 54
noncomputable abbrev wz:Stmt:=top 55
noncomputable abbrev wE:Stmt:=top 56
noncomputable abbrev yj:Stmt:=top 57
noncomputable abbrev y7:Stmt:=top 58
noncomputable abbrev qJ:Stmt:=top 59
noncomputable abbrev xB:Stmt:=top 60
noncomputable abbrev zu:Stmt:=top 61
noncomputable abbrev vc:Stmt:=top 62
noncomputable abbrev um:Stmt:=top 63
noncomputable abbrev zt:Stmt:=top 64
noncomputable abbrev uq:Stmt:=top 65
noncomputable abbrev ww:Stmt:=top 66
noncomputable abbrev uu:Stmt:=top 67
noncomputable abbrev ve:Stmt:=top 68
noncomputable abbrev zY:Stmt:=top 69
noncomputable abbrev uy:Stmt:=top 70
noncomputable abbrev xl:Stmt:=top 71
noncomputable abbrev zV:Stmt:=top 72
noncomputable abbrev zD:Stmt:=top 73
noncomputable abbrev uv:Stmt:=top 74
noncomputable abbrev vf:Stmt:=top 75
noncomputable abbrev xS:Stmt:=top 76
noncomputable abbrev yc:Stmt:=top 77
noncomputable abbrev yq:Stmt:=top 78
noncomputable abbrev zd:Stmt:=top 79
noncomputable abbrev zO:Stmt:=top 80
noncomputable abbrev vP:Stmt:=top 81
section
variable {P:Program}{w:bD}{K:ah}{mg:Str->Option aj}{base:Heap}
noncomputable abbrev GI:Pos:=⟨49,28,49,49⟩
noncomputable abbrev xb (H:Hp) (Pt:Addr):Prop:=Tab H Pt GI (("lanes" : Str) ++ ".<locals>." ++ "<lambda>")
inductive spLeads  (vs:List V) (H:Hp) (Q:VK) (z_3:XK):Prop
 | mk (i:Nat) (t:Int) (_:vs=[.int i,.int t]) (_:Q (.bl (zf i t)) H)
theorem Xk:FnScope ["number","to"] ["number","to"] (j7 ul):=by walk_at "s"
theorem QN (F:Fun K "leads_on" "leads_on" ul f fd):FnOk P w K mg base CX0 1 f fd ["number","to"] spLeads:=by
 refine F.ok Xk (λd H Q E h=>?_) (λg A outer s H d Q E j h=>?_)
 ·obtain ⟨i,t,rfl,_⟩:=h
  rfl
 ·obtain ⟨i,t,rfl,k⟩:=h
  refine ⟨_,(j5 (jV (jA xW (pv 0) j4 (jF _)) (j9 (jj (xX xW (pv 1) (vi zB j4) (jF _)))) jw)
   (j9 (jj (yA qA vg j4 (pv 1) (pv 0))))),?_⟩
  have c:∀b:Bool,b=zf i t->Q (.bl b) H:=λb e=>by rw [e];exact k
  left
  refine qv (λh1=>?_) (λh1=>?_)
  ·left
   have a:i=0:=by have:=V.int.inj h1;right
   refine c _ ?_
   unfold zf
   rw [if_pos a]
   exact decide_eq_decide.mpr ⟨λz=>V.int.inj z,λz=>by rw [z]⟩
  ·have a:i≠0:=λz=>h1 (by rw [z];rfl)
   left
   refine qv (λh2=>?_) (λh2=>?_)
   ·left
    refine c _ ?_
    unfold zf
    rw [if_neg a]
    exact decide_eq_decide.mpr ⟨λz=>⟨h2,z⟩,λz=>z.2⟩
   ·refine c _ ?_
    unfold zf
    rw [if_neg a,decide_eq_false (λz=>h2 z.1)]
inductive spReach  (vs:List V) (H:Hp) (Q:VK) (z_3:XK):Prop
 | mk (i:Nat) (v:V) (r:Rch) (_:vs=[.int i,v]) (_:Qc H v r) (_:r.2.length<=100) (_:∀H',jk H H'->Q (.bl (okR i r)) H')
theorem vR:FnScope ["number","reach","to","slope"] ["number","reach"] (j7 yK):=by walk_at "s"
theorem Xx (nb:Nb2 mg) (U:mg "MOST_HEIGHTS" = some (.int 12 u0)) (G:mg "GREATEST_HEIGHT" = some (.int 99 u1)) (Y:Cal P w K mg base 1 "leads_on" ["number","to"] spLeads) (F:Fun K "is_reach" "is_reach" yK f fd):FnOk P w K mg base CX0 2 f fd ["number","reach"] spReach:=by
 refine F.ok vR (λR H Q E h=>?_) (λab A outer s H R Q E T h=>?_)
 ·obtain ⟨i,v,r,rfl,_⟩:=h
  rfl
 ·obtain ⟨i,v,⟨t,d⟩,rfl,⟨p,g,rfl,X,D⟩,J,k⟩:=h
  have O:d.length<=100:=J
  have l:∀(b:Bool) (H':Hp),jk H H'->b=okR i (t,d)->Q (.bl b) H':=λb H' S e=>by rw [e];exact k H' S
  refine ⟨_,(j5 (zj (pv 1) (qS (n:=2) K rfl (jn (jc (i:=2) vR.nd rfl (aP rfl)) (jn (jc (i:=3) vR.nd rfl (aP rfl)) qz))))
   (j5 (jV (PW.pt (Jp (xn (zN (je Y (T.mono ⋯) rfl (j0 (pv 0) ↥52)))) (kO (xn (xj qA qA j4 (jb (jg K) rfl nb.b_len aR (j0 (pv 3) j2)) (qW (v:=V.int 12) rfl U ⟨_,rfl⟩)))))) (j9 (jj Ju)) jw)
   (j9 (jj (jb (yw K rfl) rfl nb.b_all pY (j0 (jG (osc:=(j7 yK)) (ON:=["number","reach","to","slope"]) (N:=["height"]) (own:=1) (caps:=[]) ⟨rfl,∅,∅,∅,rfl,∅⟩ rfl rfl rfl (uP K (pv 3)) (λ_ _ _ _ _=>(jc (i:=0) (show aS (["height"]:List Str) by decide +kernel) rfl (aP rfl))) ↥14 (λ_ _ _ _ _=>(yA qA qA j4 (pv 0) (qW (v:=V.int 99) rfl G ⟨_,rfl⟩)))) j2)))))),?_⟩
  left
  refine ⟨p,_,rfl,SqT.of X,rfl,?_⟩
  refine ⟨_,_,rfl,_,_,rfl,rfl,?_⟩
  left
  refine ⟨i,t,rfl,?_⟩
  left
  cases C:zf i t with
  | false =>
   refine ue ?_
   left
   exact l _ H (jk.refl H) (by unfold okR;rw [C];rfl)
  | true =>
   refine hW ?_
   left
   refine ⟨_,_,rfl,.inr (SqT.of D),?_⟩
   left
   rw [ag]
   refine qv (λh1=>?_) (λh1=>?_)
   ·left
    refine zF (λh2=>?_) (λh2=>?_)
    ·left
     exact l _ H (jk.refl H) (by unfold okR;rw [C,decide_eq_false (λz=>h2 z.2)];rfl)
    ·left
     refine ⟨⟨_,SqT.of D⟩,λacc q=>?_⟩
     refine Xs (K:=K) (a:=g) (xs:=d.map V.int) (acc:=acc) (λj σ H2=>∃x:Option V,σ=[x]/\H2 acc=some (.lst (((d.take j).map λx=>decide (0<=x/\x<=99)).map V.bl))/\Ext acc H H2) ?_ ?_ ?_ ?_
     ·exact ⟨none,rfl,j6,Ext.put⟩
     ·rintro j σ H2 Z ⟨x,rfl,u,B⟩
      exact SqT.of (B _ _ D (j1 D q))
     ·rintro j v σ H2 m ⟨x,rfl,u,B⟩
      obtain ⟨z,rfl⟩:=vy m
      have L:d[j]? = some z:=by
       rw [ax] at m
       cases e:d[j]? with
       | none=>rw [e] at m;cases m
       | some y=>rw [e] at m;cases m;rfl
      have Z:j<d.length:=(List.getElem?_eq_some_iff.mp L).1
      have done:∀b:Bool,b=decide (0<=z/\z<=99)->∃ys,H2 acc=some (.lst ys)/\ys.length<sizeLine/\∃x:Option V,[some (V.int z)]=[x]/\upd H2 acc (.lst (ys++[V.bl b])) acc=some (.lst (((d.take (j+1)).map λx=>decide (0<=x/\x<=99)).map V.bl))/\Ext acc H (upd H2 acc (.lst (ys++[V.bl b]))):=λb e=>by
       refine ⟨_,u,by rw [ag,ag,aG];exact jf (),_,rfl,?_,B.trans Ext.put⟩
       rw [j6,qX (λx=>decide (0<=x/\x<=99)) d j z L,aq,e]
       rfl
      left
      refine qv (λI=>?_) (λI=>?_)
      ·left
       exact done _ (decide_eq_decide.mpr ⟨λy=>⟨I,y⟩,λy=>y.2⟩)
      ·exact done _ (decide_eq_false λy=>I y.1).symm
     ·rintro σ H2 ⟨x,rfl,u,B⟩
      rw [ag,aX] at u
      refine ⟨acc,_,rfl,SqL.of u,?_⟩
      refine l _ H2 (λc o M=>B c o M (j1 M q)) ?_
      unfold okR
      rw [C,decide_eq_true (show (1<=↥87/\ ↥87<=12) from ⟨h1,h2⟩),iB]
      rfl
   ·refine ⟨_,rfl,ue ?_⟩
    left
    exact l _ H (jk.refl H) (by unfold okR;rw [C,decide_eq_false (λz=>h1 z.1)];rfl)
inductive spWayDown (K:ah) (vs:List V) (H:Hp) (Q:VK) (z_3:XK):Prop
 | mk (p:Addr) (xs:List V) (rs:List Rch) (h:Nat) (_:vs=[.ref p,.int h]) (_:H p=some (.lst xs)) (_:qj H xs rs) (_:xM rs) (_:h<rs.length) (_:rs.length<=100) (_:∀t H',H t=none->H' t=some (.tup ((qT rs h).map V.int))->jk H H'->Q (.ref t) H')
theorem yf:FnScope ["reaches","head","way","reach"] ["reaches","head"] (j7 uo):=by walk_at "s"
theorem QJ (Y:Nb2 mg) (F:Fun K "way_down" "way_down" uo f fd):FnOk P w K mg base CX0 1 f fd ["reaches","head"] (spWayDown K):=by
 refine F.ok yf (λU H Q E h=>?_) (λae A outer s H U Q E hr h=>?_)
 ·obtain ⟨p,xs,rs,h,rfl,_⟩:=h
  rfl
 ·obtain ⟨p,xs,rs,h,rfl,I,y,L,hh,ac,k⟩:=h
  refine ⟨_,(j5 (jo 2 yf.nd (jD j2))
   (j5 (jo 3 yf.nd (pv 1))
   (j5 (QS bp (jA XG (pv 3) j4 (jF _)) (j5 (jX (zS K bK bI bJ qq (pv 2) (j0 (pv 3) j2)))
   (j9 (jo 3 yf.nd (jm (qp K) (jm (jd K) (pv 0) (pv 3) (λ_ _=>rfl)) j4 (λ_ _=>rfl))))))
   (j9 (jj (qC (xp K) rfl Y.b_tuple cB ↥52)))))),?_⟩
  left
  refine ⟨aN _,λwy H1 n m s1=>?_⟩
  left
  have ab:=y.length
  refine Xm (λσ H2=>∃(a:List Int) (r:Int),σ=[some (.ref p),some (.int h),some (.ref wy),some (.int r)]/\H2 wy=some (.lst (a.map V.int))/\Ext wy H1 H2 /\ -1<=r/\r<rs.length/\a.length+(r+1).toNat<=100/\a++(if r<0 then [] else qT rs r.toNat)=qT rs h) (λσ H2=>match σ with | [_,_,_,some (.int r)]=>(r+1).toNat | _=>0) ?_ ?_ ?_
  ·refine ⟨[],h,rfl,m,Ext.refl,(),(),by simp;right,?_⟩
   rw [if_neg ()]
   rfl
  ·rintro σ H2 ⟨a,r,rfl,b,d,r0,r1,rl,u⟩
   left
   refine qv (λB=>?_) (λB=>?_)
   ·have R:H2 p=some (.lst xs):=d _ _ (s1 _ _ I) (j1 I n)
    have D:qj H2 xs rs:=y.keep ((jq.same s1).trans (jq.lst d m))
    have hi:r.toNat<rs.length:=()
    obtain ⟨v,hv,q,g,rfl,G,hg⟩:=D.at (aa hi)
    have l:=L.lt hi
    have x:=(gH (L _ hi)).2.1
    have J:=Qe (aa hi)
    rw [J] at l x
    generalize (rs[r.toNat]'hi).1=C at l x J G
    left
    refine ⟨.inl ⟨rfl,_,SqL.of b⟩,?_⟩
    left
    refine ⟨wy,_,_,rfl,rfl,b,by rw [ag];exact jf (),?_⟩
    have S:q≠wy:=jp G b ↥4
    have O:upd H2 wy (.lst (a.map V.int++[.int r])) p=some (.lst xs):=by rw [j8 (j1 I n)];exact R
    have N:upd H2 wy (.lst (a.map V.int++[.int r])) q=some (.tup [.int C,.ref g]):=by rw [j8 S];exact G
    left
    refine ⟨_,_,_,_,rfl,rfl,SqL.of O,qo B hv,?_⟩
    refine ⟨_,_,_,_,rfl,rfl,SqT.of N,rfl,?_⟩
    refine ⟨⟨a++[r],C,rfl,?_,d.trans Ext.put,(),(),?_,?_⟩,?_⟩
    ·rw [j6,aq];rfl
    ·rw [aw,bx];right
    ·rw [<- u,if_neg (show ¬r<0 by right),yd L hi,J,iE]
     congr 1
     show r::_=_
     congr 1
     right
    ·show (C+1).toNat<(r+1).toNat
     right
   ·rw [if_pos (),aJ] at u
    subst u
    left
    refine ⟨wy,_,rfl,SqL.of b,λt H3 l M X=>?_⟩
    exact k t H3 (s1.free (d.free l (λz=>by rw [z,b] at l;cases l))) M (λc o T=>X _ _ (d _ _ (s1 _ _ T) (j1 T n)))
  ·intro σ H2 Q1 Q2 hQ h
   obtain ⟨v,e,r⟩:=h
   obtain ⟨i,j,e1,d,Z,e3,r⟩:=r
   exact ⟨v,e,i,j,e1,d,Z,e3,hQ _ _ r⟩
inductive spCount (K:ah) (vs:List V) (H:Hp) (Q:VK) (z_3:XK):Prop
 | mk (p a:Addr) (xs:List V) (rs:List Rch) (way:List Int) (_:vs=[.ref p,.ref a]) (_:H p=some (.lst xs)) (_:qj H xs rs) (_: ↥118) (_:H a=some (.tup (way.map V.int))) (_:(∀r∈way,0<=r/\r<rs.length)) (_:way.length<=100) (_:∀H',jk H H'->Q (.int (jJ rs way)) H')
theorem kg:FnScope ["reaches","way"] ["reaches","way"] (j7 xZ):=by walk_at "s"
theorem wX (U:Nb2 mg) (F:Fun K "count_places" "count_places" xZ f fd):FnOk P w K mg base CX0 1 f fd ["reaches","way"] (spCount K):=by
 refine F.ok kg (λM H Q E h=>?_) (λZ A outer s H M Q E t h=>?_)
 ·obtain ⟨p,a,xs,rs,z,rfl,_⟩:=h
  rfl
 ·obtain ⟨p,a,xs,rs,z,rfl,J,u,G,D,B,Y,k⟩:=h
  have S:=u.length
  refine ⟨_,(j9 (jj (jb (kF K rfl) rfl U.b_sum fX (j0 (jG (osc:=(j7 xZ)) (ON:=["reaches","way"]) (N:=["reach","reaches"]) (own:=1) (caps:=[0]) ⟨rfl,∅,∅,∅,rfl,∅⟩ rfl rfl rfl (uP K (pv 1)) (λ_ _ _ _ _=>(jc (i:=0) (show aS (["reach","reaches"]:List Str) by decide +kernel) rfl (aP rfl))) ↥14 (λ_ _ _ _ _=>(jb (jg K) rfl U.b_len aR (j0 (jm (qp K) (jm (jd K) (pv 1) (pv 0) (λ_ _=>rfl)) j4 (λ_ _=>rfl)) j2)))) j2)))),?_⟩
  left
  refine ⟨⟨_,SqT.of D⟩,λacc b=>?_⟩
  refine Xs (K:=K) (a:=a) (xs:=z.map V.int) (acc:=acc) (λj σ H2=>∃x:Option V,σ=[x,some (.ref p)]/\H2 acc=some (.lst (((z.take j).map λr=>((yi rs r.toNat).length:Int)).map V.int))/\Ext acc H H2) ?_ ?_ ?_ ?_
  ·exact ⟨none,rfl,j6,Ext.put⟩
  ·rintro j σ H2 T ⟨x,rfl,m,d⟩
   exact SqT.of (d _ _ D (j1 D b))
  ·rintro j v σ H2 l ⟨x,rfl,m,d⟩
   obtain ⟨r,rfl⟩:=vy l
   have C:z[j]? = some r:=by
    rw [ax] at l
    cases e:z[j]? with
    | none=>rw [e] at l;cases l
    | some y=>rw [e] at l;cases l;rfl
   have T:j<z.length:=(List.getElem?_eq_some_iff.mp C).1
   have t:=B r (aA C)
   have hi:r.toNat<rs.length:=()
   obtain ⟨v,I,q,g,rfl,O,X⟩:=(u.keep (jq.new d b)).at (aa hi)
   left
   refine ⟨_,_,_,_,rfl,rfl,SqL.of (d _ _ J (j1 J b)),qo t.1 I,?_⟩
   refine ⟨_,_,_,_,rfl,rfl,SqT.of O,rfl,?_⟩
   refine ⟨_,_,rfl,.inr (SqT.of X),?_⟩
   refine ⟨_,m,by rw [ag,ag,aG];exact jf (),_,rfl,?_,d.trans Ext.put⟩
   rw [j6,qX (λr:Int=>((yi rs r.toNat).length:Int)) z j r C,aq,Qn (aa hi),ag]
   rfl
  ·rintro σ H2 ⟨x,rfl,m,d⟩
   rw [ag,aX] at m
   refine ⟨acc,_,rfl,SqL.of m,by rw [ag];right,λn R=>?_,?_⟩
   ·obtain ⟨r,t,rfl⟩:=List.mem_map.mp R
    have hb:=B r t
    have hi:r.toNat<rs.length:=()
    have:=G _ (bQ hi)
    rw [Qn (aa hi)]
    right
   ·exact k H2 λc o L=>d c o L (j1 L b)
inductive spLanes (K:ah) (Pt:Addr) (vs:List V) (H:Hp) (Q:VK) (z_3:XK):Prop
 | mk (p:Addr) (xs:List V) (rs:List Rch) (_:vs=[.ref p]) (_:H p=some (.lst xs)) (_:qj H xs rs) (_:xM rs) (_:rs.length<=60) (_:xb H Pt) (_:∀l H' out ws,H l=none->H' l=some (.lst out)->yy H' out ws->qm rs ws->Ext Pt H H'->xb H' Pt->Q (.ref l) H')
theorem gA:FnScope ["reaches","entered","ways"] ["reaches"] (j7 xq):=by walk_at "s"
theorem QP {α:Type}(l:List α) (d:α):((aM l.length).map λi=>l.getD i d)=l:=by
 apply mr
 ·simp
 ·intro i h1 h2
  simp [h2]
theorem JS {vs:List V}{ws:List (List Int)}(h:yy H vs ws):∀z:List Nat,(∀i∈z,i<vs.length)->yy H (z.map λi=>vs.getD i V.non) (z.map λi=>ws.getD i [])
 | [],_=>.nil
 | i::z,b=>by
  refine .cons ?_ (JS h z λj c=>b j (aC _ c))
  have hi:=b i aE
  obtain ⟨y,f,a,e,d⟩:=Paired.get h (aa hi)
  refine ⟨a,?_,?_⟩
  ·show vs.getD i V.non=V.ref a
   rw [ak,aa hi];exact e
  ·show H a=some (.tup ((ws.getD i []).map V.int))
   rw [ak,f];exact d
theorem Qk {j:List (List Int)}{vs z:List V}(Y:j=(ju rs).map (qT rs)) (G:yy H vs j) (k:jq H H') (U:wc k7 (λi=>(j.getD i []).reverse) vs z):∃ws,yy H' z ws/\qm rs ws:=by
 obtain ⟨a,c,e,b⟩:=U
 have d:∀i∈a,i<vs.length:=λi hi=>by have:=c.mem_iff.mp hi;simpa using this
 refine ⟨a.map λi=>j.getD i [],by rw [e];exact (JS G a d).keep k,?_,?_⟩
 ·have:=c.map λi=>j.getD i []
  rw [G.length,QP] at this
  rw [<- Y]
  exact this
 ·rw [bW]
  exact b
theorem U0 {oc:aj}{od:Option Addr}{a2:Array (Option aj)}{kV pm:aj}(nb:Nb2 mg) (G:Cal P w K mg base 1 "way_down" ["reaches","head"] (spWayDown K)) (CH:PySem.W.CodeHd base c Pt) (bd:Bm mg base)
  (l:K.lookup f=some ⟨oc,od,.func (bN "lanes" "lanes" (qg xq) (jS xq) (j7 xq) .none kV doc pm an (.ref c) ct),a2⟩) (cd:cQ K (.ref c) "lanes" = true) :
  FnOk P w K mg base CX0 5 f (bN "lanes" "lanes" (qg xq) (jS xq) (j7 xq) .none kV doc pm an (.ref c) ct) ["reaches"] (spLanes K Pt):=by
 refine Fun.okC l cd gA (λb H Q E h=>?_) (λA outer s H b Q E S h=>?_)
 ·obtain ⟨p,xs,rs,rfl,_⟩:=h
  rfl
 ·obtain ⟨p,xs,rs,rfl,U,R,L,bk,hT,k⟩:=h
  have Y:=R.length
  refine ⟨_,(j5 (xa (i:=1) gA.nd rfl (df rfl) (jG (osc:=(j7 xq)) (ON:=["reaches","entered","ways"]) (N:=["to","slope"]) (own:=2) (caps:=[]) ⟨rfl,∅,∅,∅,rfl,∅⟩ rfl rfl rfl (jT K (pv 0)) (λ_ _ _ _ _=>(qS (n:=2) K rfl (jn (jc (i:=0) (show aS (["to","slope"]:List Str) by decide +kernel) rfl (aP rfl)) (jn (jc (i:=1) (show aS (["to","slope"]:List Str) by decide +kernel) rfl (aP rfl)) qz)))) ↥14 ↥144))
   (j5 (yR (j:=2) (osc:=(j7 xq)) (ON:=["reaches","entered","ways"]) (N:=["head","reaches","entered"]) (own:=1) (caps:=[0,1]) ⟨rfl,∅,∅,∅,rfl,∅⟩ gA.nd rfl (aP rfl) rfl rfl rfl (jU rfl nb.b_range (j0 (jb (jg K) rfl nb.b_len aR ↥42) j2)) (λ_ _ _ _ _=>(jc (i:=0) (show aS (["head","reaches","entered"]:List Str) by decide +kernel) rfl (aP rfl))) (λ_ _ _ _ _=>(zw (jA (zq K) (pv 0) (pv 2) ↥63))) (λ_ _ _ _ _=>(je G (S.mono ⋯) rfl (j0 (pv 1) ↥42))))
   (j9 (jj (Zm (N:=["way"]) (x:="way") (k:=0) rfl nb.b_sorted ↥52 rfl CH bd (S.mono ⋯) (by walk_at "s") (λ_ _ _ _=>rfl) (λ_ _ _ _=>(US K (pv 0)))))))),?_⟩
  left
  refine ⟨⟨_,SqL.of U⟩,λO d=>?_⟩
  refine jO (K:=K) (a:=p) (xs:=xs) (acc:=O) (λj σ H2=>∃x y:Option V,σ=[x,y]/\H2 O=some (.lst (((rs.take j).map (·.1)).map V.int))/\Ext O H H2) ?_ ?_ ?_ ?_
  ·exact ⟨none,none,rfl,j6,Ext.put⟩
  ·rintro j σ H2 hj ⟨x,y,rfl,B,e⟩
   exact SqL.of (e _ _ U (j1 U d))
  ·rintro j v σ H2 hv ⟨x,y,rfl,B,e⟩
   obtain ⟨r,S,q,g,rfl,hq,hg⟩:=(R.keep (jq.new e d)).get hv
   have hj:j<rs.length:=(List.getElem?_eq_some_iff.mp S).1
   left
   refine ⟨q,_,rfl,SqT.of hq,rfl,?_⟩
   refine ⟨_,_,rfl,_,_,rfl,rfl,?_⟩
   left
   refine ⟨_,B,by rw [ag,ag,aG];exact jf (),_,_,rfl,?_,e.trans Ext.put⟩
   rw [j6,qX (λr:Rch=>r.1) rs j r S,aq]
   rfl
  ·rintro σ H2 ⟨x,y,rfl,B,e⟩
   rw [Y,aX] at B
   have T:=e _ _ U (j1 U d)
   have al:qj H2 xs rs:=R.keep (jq.new e d)
   have a9:xb H2 Pt:=hT.extN d e
   left
   refine ⟨_,_,rfl,.inl (SqL.of T),?_⟩
   refine ⟨_,rfl,(),(),λwy u=>?_⟩
   rw [Y]
   refine qr (lo:=0) (n:=((rs.length:Nat):Int).toNat) (acc:=wy) (λj σ I=>∃(x:Option V) (b:List V),σ=[x,some (.ref p),some (.ref O)]/\I wy=some (.lst b)/\yy I b (((aM j).filter (jZ rs)).map (qT rs))/\Ext wy H2 I/\b.length<=j) ?_ ?_ ?_
   ·exact ⟨none,[],rfl,j6,.nil,Ext.put,au _⟩
   ·rintro j σ I hj ⟨x,b,rfl,D,C,m,l4⟩
    have a6:j<rs.length:=()
    have as:=m _ _ B (j1 B u)
    have a5:=m _ _ T (j1 T u)
    have ae:qj I xs rs:=al.keep (jq.new m u)
    have er:(aM (j+1)).filter (jZ rs)=(aM j).filter (jZ rs)++(if jZ rs j=true then [j] else []):=by
     rw [bZ,bu]
     congr 1
     by_cases z:jZ rs j=true
     ·rw [if_pos z];simp [z]
     ·rw [if_neg z];simp [z]
    left
    refine ⟨O,_,rfl,.inl (SqL.of as),rfl,yG _,?_⟩
    left
    rw [cS,vM]
    refine zF (λZ=>?_) (λZ=>?_)
    ·have hb:jZ rs j=true:=by unfold jZ;rw [decide_eq_false (show ¬(j:Int)∈tos rs from Z)];rfl
     left
     refine ⟨p,xs,rs,j,rfl,a5,ae,L,a6,(),λt H5 ht a0 s5=>?_⟩
     have nt:t≠wy:=λz=>by rw [z,D] at ht;cases ht
     have h5:=s5 _ _ D
     refine ⟨b,h5,jf (),_,b++[.ref t],rfl,j6,?_,λc o M n=>by rw [j8 n];exact s5 _ _ (m c o M n),by rw [aw,bx];right⟩
     rw [er,if_pos hb,aq]
     exact yy.keep (jq.lst Ext.put h5) (cN (C.keep (jq.same s5)) ⟨t,rfl,a0⟩)
    ·have hb:¬jZ rs j=true:=by unfold jZ;rw [decide_eq_true (show (j:Int)∈tos rs from Z)];exact ar
     refine ⟨_,b,rfl,D,?_,m,()⟩
     rw [er,if_neg hb,aJ]
     exact C
   ·rintro σ I ⟨x,b,rfl,D,C,m,l4⟩
    have ac:xb I Pt:=a9.extN u m
    obtain ⟨ps,J⟩:=ac.ne
    rw [b7] at C l4
    have ab:=C.length
    left
    refine ⟨ac,wy,b,λi=>((((ju rs).map (qT rs)).getD i []).reverse),rfl,SqL.of D,(),λi hi z=>?_,λH5 X5 i v hv=>?_,λlo H5 aL X am X5 T5 hs=>?_⟩
    ·have a7:i<(ju rs).length:=by
      rw [ag] at ab
      exact Nat.lt_of_lt_of_eq hi ab
     have z2:((ju rs).map (qT rs)).getD i []=[]:=List.reverse_eq_nil_iff.mp z
     rw [ak,ax,aa a7] at z2
     exact Uz _ z2
    ·obtain ⟨y,e2,a,rfl,ha⟩:=Paired.get C hv
     have a8:=jq.tbl X5 J _ _ ha
     left
     refine ⟨a,_,rfl,SqT.of a8,λq H6 hq a4 s6=>⟨s6,q,rfl,?_⟩⟩
     show H6 q=some (.tup (((((ju rs).map (qT rs)).getD i []).reverse).map V.int))
     rw [a4,ak,show ((ju rs).map (qT rs))[i]? = some y from e2,<- rQ]
     rfl
    ·obtain ⟨ws,hw,a3⟩:=Qk (rs:=rs) rfl C (jq.tbl X5 J) hs
     have bi:wy≠Pt:=jp D J ↥4
     have bl:O≠Pt:=jp (m _ _ B (j1 B u)) J ↥4
     have ap:H lo=none:=by
      have a1:H2 lo=none:=m.free X (λz=>by rw [z,D] at X;cases X)
      exact e.free a1 (λz=>by rw [z,B] at a1;cases a1)
     exact k lo H5 aL ws ap am hw a3 (λc o M n=>X5 _ _ (m _ _ (e _ _ M (j1 M d)) (j1 (e _ _ M (j1 M d)) u)) n) T5
inductive spFits (K:ah) (vs:List V) (H:Hp) (Q:VK) (z_3:XK):Prop
 | mk (p wl:Addr) (xs out:List V) (rs:List Rch) (ws:List (List Int)) (_:vs=[.ref p,.ref wl]) (_:H p=some (.lst xs)) (_:qj H xs rs) (_: ↥118) (_:H wl=some (.lst out)) (_:yy H out ws) (_:qm rs ws) (_:xM rs) (_:rs.length<=60) (_:∀H',jk H H'->Q (.bl (decide (↥103<=6) && (ju rs).all λh=>decide (jJ rs (qT rs h)<=30))) H')
theorem Wt:FnScope ["reaches","ways"] ["reaches","ways"] (j7 Qb):=by walk_at "s"
theorem UD (Y:Nb2 mg) (U:mg "MOST_LANES" = some (.int 6 u0)) (z:mg "LONGEST_LANE" = some (.int 30 u1)) (G:Cal P w K mg base 1 "count_places" ["reaches","way"] (spCount K)) (F:Fun K "fits" "fits" Qb f fd):FnOk P w K mg base CX0 2 f fd ["reaches","ways"] (spFits K):=by
 refine F.ok Wt ↥29 (λal A outer s H vs Q E hr h=>?_)
 ·obtain ⟨p,S,xs,y,rs,ws,rfl,_⟩:=h
  rfl
 ·obtain ⟨p,S,xs,y,rs,ws,rfl,Z,X,O,t,B,m,L,ac,k⟩:=h
  have l:=B.length
  have C:=m.length
  have ae:(ju rs).length<=60:=by
   unfold ju
   exact aK (bz _ _) (by rw [bG];exact ac)
  have I:∀(b:Bool) (H':Hp),jk H H'->b=(decide (↥103<=6) && (ju rs).all λh=>decide (jJ rs (qT rs h)<=30))->Q (.bl b) H':=λb H' sm e=>by rw [e];exact k H' sm
  refine ⟨_,(j9 (jj (yX (xX qA (jb (jg K) rfl Y.b_len aR ↥34) (qW (v:=V.int 6) rfl U ⟨_,rfl⟩) (jF _)) (yT (jb (yw K rfl) rfl Y.b_all pY (j0 (jG (osc:=(j7 Qb)) (ON:=["reaches","ways"]) (N:=["way","reaches"]) (own:=1) (caps:=[0]) ⟨rfl,∅,∅,∅,rfl,∅⟩ rfl rfl rfl (jT K (pv 1)) (λ_ _ _ _ _=>(jc (i:=0) (show aS (["way","reaches"]:List Str) by decide +kernel) rfl (aP rfl))) ↥14 (λ_ _ _ _ _=>(xX qA (je G (hr.mono ⋯) rfl (j0 (pv 1) ↥42)) (qW (v:=V.int 30) rfl z ⟨_,rfl⟩) (jF _)))) j2)))))),?_⟩
  left
  refine ⟨_,_,rfl,.inl (SqL.of t),?_⟩
  left
  refine qv (λh1=>?_) (λh1=>?_)
  ·left
   refine ⟨⟨_,SqL.of t⟩,λacc d=>?_⟩
   refine jO (K:=K) (a:=S) (xs:=y) (acc:=acc) (λj σ H2=>∃x:Option V,σ=[x,some (.ref p)]/\H2 acc=some (.lst (((ws.take j).map λw=>decide (jJ rs w<=30)).map V.bl))/\Ext acc H H2) ?_ ?_ ?_ ?_
   ·exact ⟨none,rfl,j6,Ext.put⟩
   ·rintro j σ H2 hj ⟨x,rfl,q,g⟩
    exact SqL.of (g _ _ t (j1 t d))
   ·rintro j v σ H2 hv ⟨x,rfl,q,g⟩
    obtain ⟨M,R,a,rfl,ha⟩:=Paired.get (B.keep (jq.new g d)) hv
    have hj:j<ws.length:=(List.getElem?_eq_some_iff.mp R).1
    obtain ⟨hd,ab,J⟩:=m.mem (aA R)
    have D:=xP ab
    have r:M.length<=100:=by rw [J];have:=uQ L hd D;right
    left
    refine ⟨p,a,xs,rs,M,rfl,g _ _ Z (j1 Z d),X.keep (jq.new g d),O,ha,by rw [J];exact zv L hd D,r,λH4 T=>?_⟩
    left
    refine ⟨_,T _ _ q,by rw [ag,ag,aG];exact jf (),_,rfl,?_,λc o u n=>by rw [j8 n];exact T _ _ (g c o u n)⟩
    rw [j6,qX (λw=>decide (jJ rs w<=30)) ws j M R,aq]
    rfl
   ·rintro σ H2 ⟨x,rfl,q,g⟩
    rw [l,aX] at q
    refine ⟨acc,_,rfl,SqL.of q,?_⟩
    refine I _ H2 (λc o u=>g c o u (j1 u d)) ?_
    rw [decide_eq_true (show ↥103<=6 by rw [<- C,<- l];exact h1),fk,m.all]
  ·refine I _ H (jk.refl H) ?_
   rw [decide_eq_false (show ¬ ↥103<=6 by rw [<- C,<- l];exact h1)]
   rfl
inductive spValley (K:ah) (Pt:Addr) (vs:List V) (H:Hp) (Q:VK) (z_3:XK):Prop
 | mk (p:Addr) (xs:List V) (rs:List Rch) (_:vs=[.ref p]) (_:H p=some (.lst xs)) (_:qj H xs rs) (_: ↥118) (_:rs.length<=60) (_:xb H Pt) (_:∀H',Ext Pt H H'->xb H' Pt->Q (.bl (yb rs)) H')
theorem Qr:FnScope ["reaches"] ["reaches"] (j7 y6):=by walk_at "s"
theorem Qo (nb:Nb2 mg) (G:mg "MOST_REACHES" = some (.int 8 u0)) (U:Cal P w K mg base 2 "is_reach" ["number","reach"] spReach) (Y:Cal P w K mg base 5 "lanes" ["reaches"] (spLanes K Pt)) (ab:Cal P w K mg base 2 "fits" ["reaches","ways"] (spFits K)) (F:Fun K "is_valley" "is_valley" y6 f fd):FnOk P w K mg base CX0 6 f fd ["reaches"] (spValley K Pt):=by
 refine F.ok Qr ↥29 (λaL A outer s H vs Q E g h=>?_)
 ·obtain ⟨p,xs,rs,rfl,_⟩:=h
  rfl
 ·obtain ⟨p,xs,rs,rfl,m,C,O,Z,T,k⟩:=h
  have q:=C.length
  have R:∀(b:Bool) (H':Hp),Ext Pt H H'->xb H' Pt->b=yb rs->Q (.bl b) H':=λb H' x t e=>by rw [e];exact k H' x t
  refine ⟨_,(j5 (jV (xn (xj qA qA j4 (jb (jg K) rfl nb.b_len aR ↥42) (qW (v:=V.int 8) rfl G ⟨_,rfl⟩))) (j9 (jj Ju)) jw)
   (j5 (jV (xn (zN (jb (yw K rfl) rfl nb.b_all pY (j0 (jG (osc:=(j7 y6)) (ON:=["reaches"]) (N:=["number","reach"]) (own:=2) (caps:=[]) ⟨rfl,∅,∅,∅,rfl,∅⟩ rfl rfl rfl (Qg K rfl nb.b_enumerate ↥42) (λ_ _ _ _ _=>(qS (n:=2) K rfl (jn (jc (i:=0) (show aS (["number","reach"]:List Str) by decide +kernel) rfl (aP rfl)) (jn (jc (i:=1) (show aS (["number","reach"]:List Str) by decide +kernel) rfl (aP rfl)) qz)))) ↥14 (λ_ _ _ _ _=>(je U (g.mono ⋯) rfl (j0 (pv 0) ↥34)))) j2)))) (j9 (jj Ju)) jw)
   (j9 (jj (je ab (g.mono ⋯) rfl (j0 (pv 0) (j0 (je Y (g.mono ⋯) rfl ↥42) j2))))))),?_⟩
  left
  refine ⟨_,_,rfl,.inl (SqL.of m),?_⟩
  left
  have no:¬(1<=(xs.length:Int)/\(xs.length:Int)<=8)->Q (.bl false) H:=λz=>R _ H Ext.refl T (by unfold yb;rw [decide_eq_false (by rw [<- q];exact z)];rfl)
  refine qv (λh1=>?_) (λh1=>?_)
  ·left
   refine zF (λh2=>?_) (λh2=>?_)
   ·left
    exact no λz=>h2 z.2
   ·have ac:decide (1<=(rs.length:Int)/\(rs.length:Int)<=8)=true:=decide_eq_true (by rw [<- q];exact ⟨h1,h2⟩)
    left
    refine ⟨⟨_,SqL.of m⟩,λacc u=>?_⟩
    refine V2 (K:=K) (a:=p) (xs:=xs) (acc:=acc) (λj σ H2=>∃x y:Option V,σ=[x,y]/\H2 acc=some (.lst ((((aM j)).map λi=>okR i (rs.getD i (-1,[]))).map V.bl))/\Ext acc H H2) ?_ ?_ ?_ ?_
    ·exact ⟨none,none,rfl,j6,Ext.put⟩
    ·rintro j σ H2 hj ⟨x,y,rfl,B,D⟩
     exact SqL.of (D _ _ m (j1 m u))
    ·rintro j v σ H2 t hv ⟨x,y,rfl,B,D⟩ J
     have as:acc≠t:=λz=>by rw [z] at B;rw [B] at J;cases J
     obtain ⟨r,g,ae⟩:=(C.keep (jq.new D u)).get hv
     have hj:j<rs.length:=(List.getElem?_eq_some_iff.mp g).1
     left
     refine ⟨t,_,rfl,SqT.of j6,rfl,?_⟩
     refine ⟨_,_,rfl,_,_,rfl,rfl,?_⟩
     left
     refine ⟨j,v,r,rfl,ae.keep (jq.same (jk.new J)),O r (aA g),λH4 I=>?_⟩
     refine ⟨_,I _ _ ((jk.new J) _ _ B),by rw [ag,ag,bG];exact jf (),_,_,rfl,?_,λc o S n=>by rw [j8 n];exact I _ _ ((jk.new J) _ _ (D c o S n))⟩
     rw [j6,bZ,aq,aq]
     simp only [aU,mL]
     rw [ak,g]
     rfl
    ·rintro σ H2 ⟨x,y,rfl,B,D⟩
     rw [q] at B
     have d:jk H H2:=λc o S=>D c o S (j1 S u)
     refine ⟨acc,_,rfl,SqL.of B,?_⟩
     left
     have ap:(((aM rs.length).map λi=>okR i (rs.getD i (-1,[]))).all λb=>b)=wo rs:=by rw [iB];rfl
     rw [ap]
     cases M:wo rs with
     | false =>
      refine ue ?_
      left
      exact R _ H2 (Ext.of_same d) (T.same d) (by unfold yb;rw [M,ac];rfl)
     | true =>
      refine hW ?_
      have L:=qt M
      left
      refine ⟨p,xs,rs,rfl,d _ _ m,C.keep (jq.same d),L,Z,T.same d,λl H3 al ws hl an w3 r3 X3 T3=>?_⟩
      obtain ⟨ps,X⟩:=(T.same d).ne
      have am:=X3 _ _ (d _ _ m) (jp (d _ _ m) X ↥4)
      refine ⟨p,l,xs,al,rs,ws,rfl,am,C.keep ((jq.same d).trans (jq.tbl X3 X)),O,an,w3,r3,L,Z,λH4 I=>?_⟩
      exact R _ H4 (((Ext.of_same d).trans X3).trans (Ext.of_same I)) (T3.same I) (by unfold yb;rw [M,ac];rfl)
  ·refine ⟨_,rfl,ue ?_⟩
   left
   exact no λz=>h1 z.1
theorem wd:FnScope ["_law_number","_law_turn","_law_one"] ["_law_number","_law_turn"] (j7 vB):=by walk_at "s"
theorem U7 (F:Fun K "_law_mixed" "_law_mixed" vB f fd):FnOk P w K mg base CX0 1 f fd ["_law_number","_law_turn"] spMixed:=by
 refine F.ok wd (λc H Q E h=>?_) (λd A outer s H c Q E e h=>?_)
 ·obtain ⟨a,b,rfl,_⟩:=h
  rfl
 ·obtain ⟨a,b,rfl,k⟩:=h
  refine ⟨_,(j5 (jo 2 wd.nd (jh zE (jh jE (jh jE (jh vt (pv 0) j4) (jh vt (pv 1) j4)) j4) j4))
   (j9 (jj (jh vH (jh zE (jh jE (jh jE (jh vt (pv 2) (jh jE (jh zE (pv 2) j4) j4)) (jh vt (pv 1) j4)) (jh zE (jh vH (pv 0) j4) j4)) j4) j4)))),?_⟩
  left
  exact k _
theorem vC:FnScope ["_law_box_here","_law_size","_law_left","_law_cell"] ["_law_box_here","_law_size"] (j7 ut):=by walk_at "s"
theorem UK (G:Nb mg) (j:Cal P w K mg base 1 "_law_mixed" ["_law_number","_law_turn"] spMixed) (F:Fun K "_law_take" "_law_take" ut f fd):FnOk P w K mg base CX0 2 f fd ["_law_box_here","_law_size"] spTakeL:=by
 refine F.ok vC (λt H Q E h=>?_) (λC A outer s H t Q E q h=>?_)
 ·obtain ⟨L,b,n,rfl,_⟩:=h
  rfl
 ·obtain ⟨L,b,n,rfl,B,⟨l,y⟩,k⟩:=h
  obtain ⟨g,a,r,c,d,D,e,i,p⟩:=B
  refine ⟨_,(j5 (zj (jh jE ↥26 j4) (kD (pv 0) j4 yB))
   (j5 (jV (jA Uf ↥26 j4 (jF _)) (j5 (jo 2 vC.nd ↥26)
   (j5 (zj (jh vH (pv 2) (pv 1)) (kD (pv 0) j4 yB))
   (j9 (jj (jh zE (pv 2) (pv 1)))))) jw)
   (j5 (jV (jA XG ↥26 (jb (jg K) rfl G.b_len aR (j0 ↥26 j2)) (jF _)) (j9 (jj (jh zE (je j (q.mono ⋯) rfl (j0 ↥26 (j0 ↥26 j2))) (pv 1)))) jw)
   (j5 (jo 3 vC.nd (jm (jd K) ↥26 ↥26 (λ_ _=>rfl)))
   (j5 (zj (jh jE ↥26 j4) (kD (pv 0) j4 yB))
   (j5 (jV (jA vg (pv 3) (jh yp j4 j4) (jF _)) (j9 (jj (jh zE (je j (q.mono ⋯) rfl (j0 (pv 3) (j0 ↥26 j2))) (pv 1)))) jw)
   (j5 (zj (jh vH (pv 3) (pv 1)) (kD (pv 0) j4 yB))
   (j9 (jj (jh zE (pv 3) (pv 1))))))))))),?_⟩
  left
  refine qv (λh1=>?_) (λh1=>?_)
  ·left
   exact k _ _ (dQ _ ()) (dh _ l) ⟨g,_,_,_,_,j6,e,↥150 _ _ i e,p⟩ ↥150
  ·have m:∀o,SqL K (upd H b o) L (g.map V.int):=λo=>SqL.of (Ext.put _ _ i e)
   left
   refine ⟨_,_,rfl,.inl (m _),?_⟩
   left
   refine qv (λh2=>?_) (λh2=>?_)
   ·left
    refine ⟨_,_,rfl,λz=>?_⟩
    left
    exact k _ _ (dQ _ ()) (dh _ l) ⟨g,_,_,_,_,j6,e,Ext.put _ _ i e,p⟩ Ext.put
   ·have x:a<g.length:=by
     rw [ag] at h2
     right
    obtain ⟨z,u⟩:=xG p x
    left
    refine ⟨_,_,_,_,rfl,rfl,m _,u,?_⟩
    left
    refine qv (λv=>?_) (λv=>?_)
    ·left
     refine ⟨_,_,rfl,λz=>?_⟩
     left
     exact k _ _ (dQ _ ()) (dh _ l) ⟨g,_,_,_,_,j6,e,↥150 _ _ i e,()⟩ ↥150
    ·left
     exact k _ _ (dQ _ ()) (dh _ l) ⟨g,_,_,_,_,j6,e,((↥150).trans Ext.put) _ _ i e,()⟩ ((↥150).trans Ext.put)
theorem vd:FnScope ["_law_script","_law_seed","_law_cell"] ["_law_script"] (j7 wC):=by walk_at "s"
theorem Go (G:Nb mg) (F:Fun K "_law_box" "_law_box" wC f fd):FnOk P w K mg base CX0 1 f fd ["_law_script"] (spBoxL K):=by
 refine F.ok vd (λp H Q E h=>?_) (λq A outer s H p Q E r h=>?_)
 ·obtain ⟨a,g,rfl,_⟩:=h
  rfl
 ·obtain ⟨a,g,rfl,j,k⟩:=h
  refine ⟨_,(j5 (jo 1 vd.nd j4)
   (j5 (xf bp rfl (jT K (pv 0)) (jc (i:=2) vd.nd rfl (aP rfl)) (j9 (jo 1 vd.nd (jh zE (jh jE (jh jE (jh vt (pv 1) j4) (jh zE (pv 2) j4)) j4) j4))))
   (j9 (jj (jD (j0 (qC (qZ K) rfl G.b_list cf ↥42) (j0 j4 (j0 j4 (j0 j4 ↥34))))))))),?_⟩
  left
  refine ⟨⟨_,j⟩,gh (K:=K) (a:=a) (xs:=g.map V.int) (λi σ H2=>∃(c:Int) (v:Option V),σ=[some (.ref a),some (.int c),v]/\H2=H) ⟨_,_,rfl,rfl⟩ (λi σ H2 _ ⟨_,_,_,e⟩=>by rw [e];exact j) ?_ ?_⟩
  ·rintro i y σ H2 hi ⟨c,v,rfl,rfl⟩
   obtain ⟨z,rfl⟩:=vy hi
   left
   exact ⟨_,_,rfl,rfl⟩
  ·rintro σ H2 ⟨c,v,rfl,rfl⟩
   left
   refine ⟨a,_,rfl,.inl j,λL x t d m=>?_⟩
   left
   refine ⟨by show 5<=sizeLine;decide,λb u o n l=>?_⟩
   exact k L b _ (m.free o) ⟨g,_,_,_,_,n,j1 d o,l _ _ d,dm _⟩ (m.trans l)
noncomputable def good (t:T3):Bool:=decide (0<=t.1/\t.1<=100/\0<=t.2.1/\t.2.1<=9/\0<=t.2.2/\t.2.2<=9)
noncomputable def gr (ts:List T3):Bool:=decide (1<=↥110/\ ↥110<=12) && ts.all good
theorem WE {ts:List T3}(h:¬(1<=↥110/\ ↥110<=12)):gr ts=false:=by unfold gr;rw [decide_eq_false h];rfl
theorem Gq {ts:List T3}(h:1<=↥110/\ ↥110<=12):gr ts=(ts.map good).all λb=>b:=by
 unfold gr
 rw [decide_eq_true h,fk,iB]
 rfl
inductive spGood  (vs:List V) (H:Hp) (Q:VK) (z_3:XK):Prop
 | mk (p:Addr) (t:T3) (_:vs=[.ref p]) (_:H p=some (yS t)) (_:Q (.bl (good t)) H)
local macro_rules | `(tactic| walk_at "forks")=>`(tactic| (walk_at "r";first | (refine qv (fun _=>?_) (fun _=>?_) <;> walk_at "forks") | skip))
theorem zm:FnScope ["row","line","snow","sun"] ["row"] (j7 yW):=by walk_at "s"
theorem Jg (G:mg "HIGHEST_LINE" = some (.int 100 u0)) (j:mg "MOST_HANDS" = some (.int 9 U)) (F:Fun K "is_weather" "is_weather" yW f fd):FnOk P w K mg base CX0 1 f fd ["row"] spGood:=by
 refine F.ok zm (λa H Q E h=>?_) (λc A outer s H a Q E e h=>?_)
 ·obtain ⟨p,t,rfl,_⟩:=h
  rfl
 ·obtain ⟨p,⟨l,d,u⟩,rfl,b,k⟩:=h
  refine ⟨_,(j5 (zj (pv 0) (qS (n:=3) K rfl (jn (jc (i:=1) zm.nd rfl (aP rfl)) (jn (jc (i:=2) zm.nd rfl (aP rfl)) (jn (jc (i:=3) zm.nd rfl (aP rfl)) qz)))))
   (j9 (jj (yX (yA qA qA j4 (pv 1) (qW (v:=V.int 100) rfl G ⟨_,rfl⟩)) (yX (yA qA qA j4 (pv 2) (qW (v:=V.int 9) rfl j ⟨_,rfl⟩)) (yT (yA qA qA j4 (pv 3) (qW (v:=V.int 9) rfl j ⟨_,rfl⟩)))))))),?_⟩
  left
  refine ⟨p,_,rfl,SqT.of b,rfl,?_⟩
  refine ⟨_,_,rfl,_,_,rfl,_,_,rfl,rfl,?_⟩
  walk_at "forks"
  all_goals
   refine Eq.mp (congrArg (λz=>Q (V.bl z) H) ?_) k
   unfold good
   dsimp only at *
   first | (apply decide_eq_false;right) | (apply decide_eq_decide.mpr;right)
theorem XO:FnScope ["rows"] ["rows"] (j7 yZ):=by walk_at "s"
inductive spRound (K:ah) (vs:List V) (H:Hp) (Q:VK) (z_3:XK):Prop
 | mk (p:Addr) (xs:List V) (ts:List T3) (_:vs=[.ref p]) (_:H p=some (.lst xs)) (_:xo H xs ts) (_:ts.length<=1000) (_:∀H',jk H H'->Q (.bl (gr ts)) H')
theorem XI (U:Nb mg) (G:mg "MOST_ROWS" = some (.int 12 u0)) (j:Cal P w K mg base 1 "is_weather" ["row"] spGood) (F:Fun K "is_round" "is_round" yZ f fd):FnOk P w K mg base CX0 2 f fd ["rows"] (spRound K):=by
 refine F.ok XO (λC H Q E h=>?_) (λJ A outer s H C Q E I h=>?_)
 ·obtain ⟨p,xs,ts,rfl,_⟩:=h
  rfl
 ·obtain ⟨p,xs,ts,rfl,m,n,B,k⟩:=h
  have b:=n.length
  refine ⟨_,(j9 (jj (yX (yA qA qA j4 (jb (jg K) rfl U.b_len aR ↥42) (qW (v:=V.int 12) rfl G ⟨_,rfl⟩)) (yT (jb (yw K rfl) rfl U.b_all pY (j0 (jG (osc:=(j7 yZ)) (ON:=["rows"]) (N:=["row"]) (own:=1) (caps:=[]) ⟨rfl,∅,∅,∅,rfl,∅⟩ rfl rfl rfl (jT K (pv 0)) (λ_ _ _ _ _=>(jc (i:=0) (show aS (["row"]:List Str) by decide +kernel) rfl (aP rfl))) ↥14 (λ_ _ _ _ _=>(je j (I.mono ⋯) rfl ↥42))) j2)))))),?_⟩
  left
  refine ⟨_,_,rfl,.inl (SqL.of m),?_⟩
  left
  refine qv (λh1=>?_) (λh1=>?_)
  ·left
   refine qv (λh2=>?_) (λh2=>?_)
   ·left
    refine ⟨⟨_,SqL.of m⟩,λacc e=>?_⟩
    refine jO (K:=K) (a:=p) (xs:=xs) (acc:=acc) (λi σ H2=>∃x:Option V,σ=[x]/\H2 acc=some (.lst (((ts.take i).map good).map V.bl))/\Ext acc H H2) ?_ ?_ ?_ ?_
    ·exact ⟨none,rfl,j6,Ext.put⟩
    ·rintro i σ H2 hi ⟨x,rfl,l,g⟩
     exact SqL.of (g _ _ m (j1 m e))
    ·rintro i v σ H2 D ⟨x,rfl,l,g⟩
     obtain ⟨t,r,q,rfl,u⟩:=n.get D
     have hi:i<ts.length:=(List.getElem?_eq_some_iff.mp r).1
     left
     refine ⟨q,t,rfl,g _ _ u (j1 u e),?_⟩
     refine ⟨_,l,by rw [ag,ag,aG];exact jf (),_,rfl,?_,g.trans Ext.put⟩
     rw [j6,qX good ts i t r,aq]
     rfl
    ·rintro σ H2 ⟨x,rfl,l,g⟩
     rw [b,aX] at l
     refine ⟨acc,ts.map good,rfl,SqL.of l,?_⟩
     have d:=k H2 λc o y=>g c o y (j1 y e)
     rw [Gq (by rw [b] at h1 h2;exact ⟨h1,h2⟩)] at d
     exact d
   ·left
    have d:=k H (jk.refl H)
    rw [WE (by rw [b] at h2;intro z;exact h2 z.2)] at d
    exact d
  ·left
   have d:=k H (jk.refl H)
   rw [WE (by rw [b] at h1;intro z;exact h1 z.1)] at d
   exact d
inductive spWeather  (vs:List V) (H:Hp) (Q:VK) (z_3:XK):Prop
 | mk (L b:Addr) (_:vs=[.ref b]) (_:jY L H b) (_:∀(p:Addr) (H':Hp) (t:T3),jY L H' b->Ext b H H'->H' p=some (yS t)->good t=true->Q (.ref p) H')
theorem vK:FnScope ["_law_box_here","_law_line"] ["_law_box_here"] (j7 yj):=by walk_at "s"
theorem five {j G z:Int}(a:0<=j) (b:j<5) (c:0<=G) (d:G<20) (e:0<=z) (g:z<101):∃U,atI [V.int (40+G),V.int z,V.int 0,V.int 100,V.int 50] j=some (V.int U)/\0<=U/\U<=100:=by
 have h:j=0\/j=1\/j=2\/j=3\/j=4:=()
 rcases h with rfl | rfl | rfl | rfl | rfl
 ·exact ⟨40+G,rfl,(),()⟩
 ·exact ⟨z,rfl,(),()⟩
 ·exact ⟨0,rfl,(),()⟩
 ·exact ⟨100,rfl,(),()⟩
 ·exact ⟨50,rfl,(),()⟩
theorem Zd (j:Cal P w K mg base 2 "_law_take" ["_law_box_here","_law_size"] spTakeL) (F:Fun K "_law_weather" "_law_weather" yj f fd):FnOk P w K mg base CX0 3 f fd ["_law_box_here"] spWeather:=by
 refine F.ok vK (λr H Q E h=>?_) (λU A outer s H r Q E a h=>?_)
 ·obtain ⟨L,b,rfl,_⟩:=h
  rfl
 ·obtain ⟨L,b,rfl,B,k⟩:=h
  refine ⟨_,(j5 (jo 1 vK.nd (jm (jd K) (jD (j0 (jh jE j4 ↥138) (j0 ↥138 ↥122))) ↥138 (λ_ _=>rfl)))
   (j9 (jj (qa (j0 (pv 1) (j0 ↥138 (j0 ↥138 j2))))))),?_⟩
  left
  refine ⟨L,b,_,rfl,B,⟨⋯,⋯⟩,λY H1 y v T N=>?_⟩
  left
  refine ⟨L,b,_,rfl,T,⟨⋯,⋯⟩,λX H2 p2 u o M=>?_⟩
  refine ⟨by show 5<=sizeLine;decide,λq Hq G g e=>?_⟩
  left
  refine ⟨L,b,_,rfl,o.same e,⟨⋯,⋯⟩,λV H3 p3 t S n=>?_⟩
  have i:=n _ _ g (o.ne G)
  obtain ⟨z,m,D,C⟩:=five p3 t y v p2 u
  refine ⟨_,_,_,_,rfl,rfl,SqL.of i,m,?_⟩
  left
  refine ⟨L,b,_,rfl,S,⟨⋯,⋯⟩,λd H4 p4 q4 R J=>?_⟩
  left
  refine ⟨L,b,_,rfl,R,⟨⋯,⋯⟩,λc H5 x Z O I=>?_⟩
  refine ⟨by show 3<=sizeLine;decide,λp Hp hp l sp=>?_⟩
  exact k p _ (z,d,c) (O.same sp) ((((((N.trans M).trans (Ext.of_same e)).trans n).trans J).trans I).trans (Ext.of_same sp)) l (decide_eq_true ⟨D,C,p4,(show d<=9 by right),x,(show c<=9 by right)⟩)
inductive spRoundMade  (vs:List V) (H:Hp) (Q:VK) (z_3:XK):Prop
 | mk (L b:Addr) (_:vs=[.ref b]) (_:jY L H b) (_:∀(p:Addr) (H':Hp) (xs:List V) (ts:List T3),jY L H' b->Ext b H H'->H p=none->H' p=some (.lst xs)->xo H' xs ts->(1<=ts.length/\ts.length<=12)->ts.all good=true->Q (.ref p) H')
theorem JX:FnScope ["_law_box_here"] ["_law_box_here"] (j7 y7):=by walk_at "s"
theorem QK {v:Int}(a:0<=v) (b:v<3):∃n,atI [V.int 1,V.int 3,V.int 12] v=some (V.int n)/\0<n/\n<=12:=by
 have h:v=0\/v=1\/v=2:=()
 rcases h with rfl | rfl | rfl
 ·exact ⟨1,rfl,(),()⟩
 ·exact ⟨3,rfl,(),()⟩
 ·exact ⟨12,rfl,(),()⟩
theorem Uq (U:Nb mg) (j:Cal P w K mg base 2 "_law_take" ["_law_box_here","_law_size"] spTakeL) (G:Cal P w K mg base 3 "_law_weather" ["_law_box_here"] spWeather) (F:Fun K "_law_round" "_law_round" y7 f fd):FnOk P w K mg base CX0 4 f fd ["_law_box_here"] spRoundMade:=by
 refine F.ok JX ↥29 (λac A outer s H vs Q E D h=>?_)
 ·obtain ⟨L,b,rfl,_⟩:=h
  rfl
 ·obtain ⟨L,b,rfl,B,k⟩:=h
  refine ⟨_,(j9 (jj (jG (osc:=(j7 y7)) (ON:=["_law_box_here"]) (N:=["_law_turn","_law_box_here"]) (own:=1) (caps:=[0]) ⟨rfl,∅,∅,∅,rfl,∅⟩ rfl rfl rfl (jU rfl U.b_range (j0 (jh jE j4 (je j (D.mono ⋯) rfl (j0 (pv 0) (j0 (jm (jd K) (jD ↥122) (je j (D.mono ⋯) rfl ↥15) (λ_ _=>rfl)) j2)))) j2)) (λ_ _ _ _ _=>(jc (i:=0) (show aS (["_law_turn","_law_box_here"]:List Str) by decide +kernel) rfl (aP rfl))) ↥14 (λ_ _ _ _ _=>(je G (D.mono ⋯) rfl ↥34))))),?_⟩
  left
  refine ⟨by show 3<=sizeLine;decide,λq Hq hq X y=>?_⟩
  left
  refine ⟨L,b,_,rfl,B.same y,⟨⋯,⋯⟩,λv1 H1 p1 q1 B1 O=>?_⟩
  obtain ⟨n,hn,n0,n1⟩:=QK p1 q1
  refine ⟨_,_,_,_,rfl,rfl,SqL.of (O _ _ X (B.ne hq)),hn,?_⟩
  refine ⟨L,b,_,rfl,B1,⟨n0,()⟩,λS H2 p2 q2 R X2=>?_⟩
  refine ⟨_,_,rfl,rfl,?_⟩
  refine ⟨1+S,rfl,(),(),λacc d=>?_⟩
  have m:=R.ne d
  have v:=R.neL d
  have r:∀a,H2 a=none->a≠b->H a=none:=λa n U=>jk.free y (O.free (X2.free n U) U)
  refine qr (lo:=0) (n:=(1+S).toNat) (acc:=acc) (λi σ l=>∃(x:Option V) (xs:List V) (ts:List T3),σ=[x,some (.ref b)]/\jY L l b/\(∀c o,H2 c=some o->c≠b->l c=some o)/\l acc=some (.lst xs)/\xo l xs ts/\ts.length=i/\ts.all good=true) ?_ ?_ ?_
  ·exact ⟨none,[],[],rfl,R.put m v,λc o g n=>Ext.put _ _ g (j1 g d),j6,.nil,rfl,rfl⟩
  ·rintro i σ l hi ⟨x,xs,ts,rfl,u,ks,J,C,Y,I⟩
   left
   refine ⟨L,b,rfl,u,λp H4 t B4 M hp ht=>?_⟩
   have Z:=M _ _ J m
   have T:xo H4 xs ts:=C.imp λp t e=>M _ _ e (u.ne_tup e)
   have ab:=T.length
   refine ⟨xs,Z,jf (),_,xs++[.ref p],ts++[t],rfl,B4.put m v,λc o g n=>Ext.put _ _ (M _ _ (ks c o g n) n) (j1 g d),j6,?_,by rw [aw,Y];rfl,by rw [List.all_append,I];simp [ht]⟩
   exact xo.imp (T.snoc ⟨p,rfl,hp⟩) λq t e=>Ext.put _ _ e (jp e Z ↥4)
  ·rintro σ l ⟨x,xs,ts,rfl,u,ks,J,C,Y,I⟩
   exact k acc l xs ts u (λc o g n=>ks c o (X2 _ _ (O _ _ (y _ _ g) n) n) n) (r acc d m) J C () I
theorem JV:FnScope ["_law_found"] ["_law_found"] (j7 vF):=by walk_at "s"
theorem Vs (j:Nb2 mg) (F:Fun K "_law_whole" "_law_whole" vF f fd):FnOk P w K mg base CX0 1 f fd ["_law_found"] spWhole:=by
 refine F.ok JV (λa H Q E h=>?_) (λb A outer s H a Q E c h=>?_)
 ·obtain ⟨i,rfl,_⟩:=h
  rfl
 ·obtain ⟨i,rfl,k⟩:=h
  refine ⟨_,(j9 (jj (yX (jb (qd K) rfl j.b_isinstance bR (j0 (pv 0) (j0 (xF (v:=V.ty "int") rfl j.b_int iL rfl) j2))) (yT (WL (jb (qd K) rfl j.b_isinstance bR (j0 (pv 0) (j0 (xF (v:=V.ty "bool") rfl j.b_bool iF rfl) j2)))))))),?_⟩
  left
  refine ⟨_,_,_,_,rfl,.int _,gg K,_,rfl,ue ?_⟩
  left
  refine ⟨_,_,_,_,rfl,.int _,wU K,_,rfl,?_⟩
  exact k
theorem uT:FnScope ["_law_found","_law_due"] ["_law_found","_law_due"] (j7 zx):=by walk_at "s"
theorem Yj (F:Fun K "_law_alike" "_law_alike" zx f fd):FnOk P w K mg base CX0 1 f fd ["_law_found","_law_due"] (spAl 0):=by
 refine F.ok uT (λa H Q E h=>?_) (λb A outer s H a Q E c h=>?_)
 ·obtain ⟨x,y,d,rfl,_⟩:=h
  rfl
 ·obtain ⟨x,y,d,rfl,_,_,z,_⟩:=h
  cases z
theorem JQ (n:Nat) (G:Nb2 mg) (U:Cal P w K mg base 1 "_law_whole" ["_law_found"] spWhole) (Y:Cal P w K mg base (n+1) "_law_alike" ["_law_found","_law_due"] (spAl n)) (F:Fun K "_law_alike" "_law_alike" zx f fd):FnOk P w K mg base CX0 (n+2) f fd ["_law_found","_law_due"] (spAl (n+1)):=by
 refine F.ok uT ↥29 (λac A outer s H vs Q E hr h=>?_)
 ·obtain ⟨x,y,d,rfl,_⟩:=h
  rfl
 ·obtain ⟨x,y,d,rfl,q,B,hs,k⟩:=h
  refine ⟨_,(j5 (jV (jA ZH (pv 1) ur (jF _)) (j9 (jj (xX ZH (pv 0) ur (jF _)))) jw)
   (j5 (jV (zN (jb (qd K) rfl G.b_isinstance bR (j0 (pv 1) (j0 (xF (v:=V.ty "bool") rfl G.b_bool iF rfl) j2)))) (j9 (jj (yX (jb (qd K) rfl G.b_isinstance bR (j0 (pv 0) (j0 (xF (v:=V.ty "bool") rfl G.b_bool iF rfl) j2))) (yT (xX xW (pv 0) (pv 1) (jF _)))))) jw)
   (j5 (jV (zN (jb (qd K) rfl G.b_isinstance bR (j0 (pv 1) (j0 (xF (v:=V.ty "int") rfl G.b_int iL rfl) j2)))) (j9 (jj (yX (je U (hr.mono ()) rfl ↥42) (yT (xX xW (pv 0) (pv 1) (jF _)))))) jw)
   (j5 (jV (zN (jb (qd K) rfl G.b_isinstance bR (j0 (pv 1) (j0 (xF (v:=V.ty "str") rfl G.b_str nA rfl) j2)))) (j9 (jj (yX (jb (qd K) rfl G.b_isinstance bR (j0 (pv 0) (j0 (xF (v:=V.ty "str") rfl G.b_str nA rfl) j2))) (yT (xX xW (pv 0) (pv 1) (jF _)))))) jw)
   (j5 (jV (PW.pt (Jp (jA Vz (jb (qd K) rfl G.b_isinstance bR (j0 (pv 1) (j0 (xF (v:=V.ty "list") rfl G.b_list cf rfl) j2))) (jb (qd K) rfl G.b_isinstance bR (j0 (pv 0) (j0 (xF (v:=V.ty "list") rfl G.b_list cf rfl) j2))) (jF _)) (kO (jA Vz (jb (qd K) rfl G.b_isinstance bR (j0 (pv 1) (j0 (xF (v:=V.ty "tuple") rfl G.b_tuple cB rfl) j2))) (jb (qd K) rfl G.b_isinstance bR (j0 (pv 0) (j0 (xF (v:=V.ty "tuple") rfl G.b_tuple cB rfl) j2))) (jF _))))) (j9 (jj Ju)) jw)
   (j9 (jj (yX (xX xW (jb (jg K) rfl G.b_len aR ↥42) (jb (jg K) rfl G.b_len aR ↥34) (jF _)) (yT (jb (yw K rfl) rfl G.b_all pY (j0 (jG (osc:=(j7 zx)) (ON:=["_law_found","_law_due"]) (N:=["_law_one","_law_other"]) (own:=2) (caps:=[]) ⟨rfl,∅,∅,∅,rfl,∅⟩ rfl rfl rfl (Qj K rfl G.b_zip (j0 (pv 0) ↥34)) (λ_ _ _ _ _=>(qS (n:=2) K rfl (jn (jc (i:=0) (show aS (["_law_one","_law_other"]:List Str) by decide +kernel) rfl (aP rfl)) (jn (jc (i:=1) (show aS (["_law_one","_law_other"]:List Str) by decide +kernel) rfl (aP rfl)) qz)))) ↥14 (λ_ _ _ _ _=>(je Y (hr.mono ()) rfl (j0 (pv 0) ↥34)))) j2))))))))))),?_⟩
  cases d with
  | none =>
   cases q;cases B
   left
   exact k H (jk.refl _)
  | bool b =>
   cases q;cases B
   left
   refine ⟨_,_,_,_,rfl,.bl _,uZ K,_,rfl,ue ?_⟩
   left
   refine ⟨_,_,_,_,rfl,.bl _,uZ K,_,rfl,ue ?_⟩
   left
   have k':=k H (jk.refl _)
   rw [decide_eq_true rfl]
   exact k'
  | int i =>
   cases q;cases B
   left
   refine ⟨_,_,_,_,rfl,.int _,wU K,_,rfl,hW ?_⟩
   left
   refine ⟨_,_,_,_,rfl,.int _,gg K,_,rfl,ue ?_⟩
   left
   have k':=k H (jk.refl _)
   rw [decide_eq_true rfl]
   exact k'
  | str i =>
   cases q;cases B
   left
   refine ⟨_,_,_,_,rfl,.str _,Xp K,_,rfl,hW ?_⟩
   left
   refine ⟨_,_,_,_,rfl,.str _,Za K,_,rfl,hW ?_⟩
   left
   refine ⟨_,_,_,_,rfl,.str _,gm K,_,rfl,ue ?_⟩
   left
   refine ⟨_,_,_,_,rfl,.str _,gm K,_,rfl,ue ?_⟩
   left
   have k':=k H (jk.refl _)
   rw [decide_eq_true rfl]
   exact k'
  | list ds =>
   cases q with
   | @lst a X _ t da =>
   cases B with
   | @lst b vb _ l db =>
   have el:=da.length
   have O:=db.length
   have ab:ds.length<=1000/\ds.all (uA n)=true:=by
    have z:(decide (ds.length<=1000) && ds.all (uA n))=true:=hs
    rw [bw] at z
    exact ⟨of_decide_eq_true z.1,z.2⟩
   left
   refine ⟨_,_,_,_,rfl,.lst l,QD K,_,rfl,hW ?_⟩
   left
   refine ⟨_,_,_,_,rfl,.lst l,XN K,_,rfl,hW ?_⟩
   left
   refine ⟨_,_,_,_,rfl,.lst l,Xn K,_,rfl,hW ?_⟩
   left
   refine ⟨_,_,_,_,rfl,.lst l,wk K,?_⟩
   left
   refine ⟨_,_,_,_,rfl,.lst t,wk K,?_⟩
   left
   refine ⟨_,_,_,_,rfl,.lst l,ui K,?_⟩
   left
   refine ⟨_,_,_,_,rfl,.lst t,ui K,?_⟩
   left
   refine ⟨_,_,rfl,.inl (SqL.of t),?_⟩
   left
   refine ⟨_,_,rfl,.inl (SqL.of l),?_⟩
   left
   rw [el,O]
   refine qv (λ_=>?_) (λz=>absurd rfl z)
   left
   refine ⟨false,false,_,_,rfl,⟨_,SqL.of t⟩,⟨_,SqL.of l⟩,λacc m=>?_⟩
   refine vW (K:=K) (t0:=false) (u0:=false) (a:=a) (b:=b) (xs:=X) (ys:=vb) (acc:=acc) (el.trans O.symm) (λj σ H2=>∃x y:Option V,σ=[x,y]/\H2 acc=some (.lst ((cD j true).map V.bl))/\Ext acc H H2) ?_ ?_ ?_ ?_
   ·exact ⟨none,none,rfl,j6,Ext.put⟩
   ·rintro j σ H2 hj ⟨x,y,rfl,C,r⟩
    exact ⟨SqL.of (r _ _ t (j1 t m)),SqL.of (r _ _ l (j1 l m))⟩
   ·rintro j x y σ H2 p q B ⟨v1,v2,rfl,C,r⟩ T
    obtain ⟨d1,u,q1⟩:=da.get q
    obtain ⟨d2,L,q2⟩:=db.get B
    rw [u] at L
    cases L
    have hj:j<ds.length:=(List.getElem?_eq_some_iff.mp u).1
    have S:jk H (upd H2 p (.tup [x,y])):=λc o g=>(jk.new T) _ _ (r _ _ g (j1 g m))
    have I:=q1.same S
    have D:=q2.same S
    have M:upd H2 p (.tup [x,y]) acc=_:=(jk.new T) _ _ C
    have R:Ext acc H (upd H2 p (.tup [x,y])):=λc o g n=>(jk.new T) _ _ (r _ _ g n)
    have J:upd H2 p (.tup [x,y]) p=some (.tup [x,y]):=j6
    generalize upd H2 p (.tup [x,y])=H4 at S I D M R J
    left
    refine ⟨p,_,rfl,SqT.of J,rfl,?_⟩
    refine ⟨_,_,rfl,_,_,rfl,rfl,?_⟩
    left
    refine ⟨x,y,d1,rfl,I,D,List.all_eq_true.mp ab.2 _ (aA u),λH5 Z=>?_⟩
    refine ⟨_,Z _ _ M,by rw [ag,bc];exact jf (),_,_,rfl,?_,λc o g n=>by rw [j8 n];exact Z _ _ (R c o g n)⟩
    rw [j6,fL,aq]
    rfl
   ·rintro σ H2 ⟨v1,v2,rfl,C,r⟩
    refine ⟨acc,_,rfl,SqL.of C,?_⟩
    have e:((cD X.length true).all λb=>b)=true:=by
     rw [c8]
     intro x q
     exact (List.mem_replicate.mp q).2
    rw [e]
    exact k H2 λc o g=>r c o g (j1 g m)
  | tuple ds =>
   cases q with
   | @tup a X _ t da =>
   cases B with
   | @tup b vb _ l db =>
   have el:=da.length
   have O:=db.length
   have ab:ds.length<=1000/\ds.all (uA n)=true:=by
    have z:(decide (ds.length<=1000) && ds.all (uA n))=true:=hs
    rw [bw] at z
    exact ⟨of_decide_eq_true z.1,z.2⟩
   left
   refine ⟨_,_,_,_,rfl,.tup l,Jn K,_,rfl,hW ?_⟩
   left
   refine ⟨_,_,_,_,rfl,.tup l,Qm K,_,rfl,hW ?_⟩
   left
   refine ⟨_,_,_,_,rfl,.tup l,Qs K,_,rfl,hW ?_⟩
   left
   refine ⟨_,_,_,_,rfl,.tup l,uh K,?_⟩
   left
   refine ⟨_,_,_,_,rfl,.tup t,uh K,?_⟩
   left
   refine ⟨_,_,_,_,rfl,.tup l,vx K,?_⟩
   left
   refine ⟨_,_,_,_,rfl,.tup t,vx K,?_⟩
   left
   refine ⟨_,_,rfl,.inr (SqT.of t),?_⟩
   left
   refine ⟨_,_,rfl,.inr (SqT.of l),?_⟩
   left
   rw [el,O]
   refine qv (λ_=>?_) (λz=>absurd rfl z)
   left
   refine ⟨true,true,_,_,rfl,⟨_,SqT.of t⟩,⟨_,SqT.of l⟩,λacc m=>?_⟩
   refine vW (K:=K) (t0:=true) (u0:=true) (a:=a) (b:=b) (xs:=X) (ys:=vb) (acc:=acc) (el.trans O.symm) (λj σ H2=>∃x y:Option V,σ=[x,y]/\H2 acc=some (.lst ((cD j true).map V.bl))/\Ext acc H H2) ?_ ?_ ?_ ?_
   ·exact ⟨none,none,rfl,j6,Ext.put⟩
   ·rintro j σ H2 hj ⟨x,y,rfl,C,r⟩
    exact ⟨SqT.of (r _ _ t (j1 t m)),SqT.of (r _ _ l (j1 l m))⟩
   ·rintro j x y σ H2 p q B ⟨v1,v2,rfl,C,r⟩ T
    obtain ⟨d1,u,q1⟩:=da.get q
    obtain ⟨d2,L,q2⟩:=db.get B
    rw [u] at L
    cases L
    have hj:j<ds.length:=(List.getElem?_eq_some_iff.mp u).1
    have S:jk H (upd H2 p (.tup [x,y])):=λc o g=>(jk.new T) _ _ (r _ _ g (j1 g m))
    have I:=q1.same S
    have D:=q2.same S
    have M:upd H2 p (.tup [x,y]) acc=_:=(jk.new T) _ _ C
    have R:Ext acc H (upd H2 p (.tup [x,y])):=λc o g n=>(jk.new T) _ _ (r _ _ g n)
    have J:upd H2 p (.tup [x,y]) p=some (.tup [x,y]):=j6
    generalize upd H2 p (.tup [x,y])=H4 at S I D M R J
    left
    refine ⟨p,_,rfl,SqT.of J,rfl,?_⟩
    refine ⟨_,_,rfl,_,_,rfl,rfl,?_⟩
    left
    refine ⟨x,y,d1,rfl,I,D,List.all_eq_true.mp ab.2 _ (aA u),λH5 Z=>?_⟩
    refine ⟨_,Z _ _ M,by rw [ag,bc];exact jf (),_,_,rfl,?_,λc o g n=>by rw [j8 n];exact Z _ _ (R c o g n)⟩
    rw [j6,fL,aq]
    rfl
   ·rintro σ H2 ⟨v1,v2,rfl,C,r⟩
    refine ⟨acc,_,rfl,SqL.of C,?_⟩
    have e:((cD X.length true).all λb=>b)=true:=by
     rw [c8]
     intro x q
     exact (List.mem_replicate.mp q).2
    rw [e]
    exact k H2 λc o g=>r c o g (j1 g m)
  | _=>cases q
inductive spOdd  (vs:List V) (H:Hp) (Q:VK) (z_3:XK):Prop
 | mk (L b:Addr) (_:vs=[.ref b]) (_:jY L H b) (_:∀(z:Int) (H':Hp),jY L H' b->Ext b H H'->Q (.int z) H')
theorem J7:FnScope ["_law_box_here","_law_some"] ["_law_box_here"] (j7 wE):=by walk_at "s"
theorem WI (j:Cal P w K mg base 2 "_law_take" ["_law_box_here","_law_size"] spTakeL) (F:Fun K "_law_odd" "_law_odd" wE f fd):FnOk P w K mg base CX0 3 f fd ["_law_box_here"] spOdd:=by
 refine F.ok J7 (λl H Q E h=>?_) (λu A outer s H l Q E c h=>?_)
 ·obtain ⟨L,b,rfl,_⟩:=h
  rfl
 ·obtain ⟨L,b,rfl,B,k⟩:=h
  refine ⟨_,(j5 (jo 1 J7.nd (jD (j0 (jh jN j4 j4) (j0 j4 (j0 j4 (j0 j4 (j0 (jh jN (jh jN j4 j4) (je j (c.mono ⋯) rfl (j0 (pv 0) (j0 (jh yp j4 j4) j2)))) (j0 j4 (j0 j4 (j0 j4 (j0 j4 (j0 (jh yp j4 j4) (j0 (jh jE (jh yp j4 j4) j4) (j0 j4 j2))))))))))))))
   (j9 (jj (jm (jd K) (pv 1) (je j (c.mono ⋯) rfl ↥15) (λ_ _=>rfl))))),?_⟩
  left
  refine ⟨L,b,_,rfl,B,⟨⋯,⋯⟩,λm H1 y x i r=>?_⟩
  left
  refine ⟨by show 12<=sizeLine;decide,λq C p d a=>?_⟩
  left
  refine ⟨L,b,_,rfl,i.same a,⟨⋯,⋯⟩,λv H2 p2 n t g=>?_⟩
  have e:=g _ _ d (i.ne p)
  obtain ⟨z,o⟩:=xG (ns:=[0-1,1,100,101,0-1-m,9,10,13,31,10 ^ (40:Int).toNat,10 ^ (40:Int).toNat+1,99]) p2 n
  refine ⟨_,_,_,_,rfl,rfl,SqL.of e,o,?_⟩
  exact k z _ t ((r.trans (Ext.of_same a)).trans g)
inductive spGroundDrawn  (vs:List V) (H:Hp) (Q:VK) (z_3:XK):Prop
 | mk (L b:Addr) (tp sz:Int) (_:vs=[.ref b,.int tp,.int sz]) (_:jY L H b) (_:tp<=99) (_:0<=sz) (_:sz<=100) (_:∀p H' (hs:List Int),jY L H' b->Ext b H H'->H p=none->H' p=some (.lst (hs.map V.int))->(hs.length:Int)=sz->(∀x∈hs,0<=x/\x<=99)->Q (.ref p) H')
theorem xz:FnScope ["_law_box_here","_law_top","_law_size","_law_pick","_law_step"] ["_law_box_here","_law_top","_law_size"] (j7 qJ):=by walk_at "s"
theorem k9 (G:Nb2 mg) (j:Cal P w K mg base 2 "_law_take" ["_law_box_here","_law_size"] spTakeL) (F:Fun K "_law_ground_drawn" "_law_ground_drawn" qJ f fd):FnOk P w K mg base CX0 3 f fd ["_law_box_here","_law_top","_law_size"] spGroundDrawn:=by
 refine F.ok xz (λS H Q E h=>?_) (λU A outer s H S Q E I h=>?_)
 ·obtain ⟨L,b,tp,sz,rfl,_⟩:=h
  rfl
 ·obtain ⟨L,b,tp,sz,rfl,B,T,h0,h1,k⟩:=h
  refine ⟨_,(j5 (jo 3 xz.nd (je j (I.mono ⋯) rfl ↥15))
   (j5 (jV (jA xW (pv 3) j4 (jF _)) (j9 (jj (jG (osc:=(j7 qJ)) (ON:=["_law_box_here","_law_top","_law_size","_law_pick","_law_step"]) (N:=["_law_turn","_law_box_here"]) (own:=1) (caps:=[0]) ⟨rfl,∅,∅,∅,rfl,∅⟩ rfl rfl rfl (jU rfl G.b_range ↥52) (λ_ _ _ _ _=>(jc (i:=0) (show aS (["_law_turn","_law_box_here"]:List Str) by decide +kernel) rfl (aP rfl))) ↥14 (λ_ _ _ _ _=>(je j (I.mono ⋯) rfl (j0 (pv 1) (j0 j4 j2))))))) jw)
   (j5 (xa (i:=4) xz.nd rfl (df rfl) (jh jE j4 (je j (I.mono ⋯) rfl ↥15)))
   (j9 (jj (jG (osc:=(j7 qJ)) (ON:=["_law_box_here","_law_top","_law_size","_law_pick","_law_step"]) (N:=["_law_place","_law_top","_law_step"]) (own:=1) (caps:=[1,4]) ⟨rfl,∅,∅,∅,rfl,∅⟩ rfl rfl rfl (jU rfl G.b_range ↥52) (λ_ _ _ _ _=>(jc (i:=0) (show aS (["_law_place","_law_top","_law_step"]:List Str) by decide +kernel) rfl (aP rfl))) ↥14 (λ_ _ _ _ _=>(jb (qO rfl) rfl G.b_max fg (j0 j4 (j0 (jh jN (pv 1) (jh vt (pv 2) (pv 0))) j2)))))))))),?_⟩
  left
  refine ⟨L,b,_,rfl,B,⟨⋯,⋯⟩,λX H1 p1 q1 D C=>?_⟩
  left
  refine qv (λ_=>?_) (λ_=>?_)
  ·left
   refine ⟨(),(),λacc a=>?_⟩
   have e:=D.ne a
   have g:=D.neL a
   refine qr (lo:=0) (n:=sz.toNat) (acc:=acc) (λi σ H2=>∃(x:Option V) (d:List Int),σ=[x,some (.ref b)]/\jY L H2 b/\H2 acc=some (.lst (d.map V.int))/\d.length=i/\(∀x∈d,0<=x/\x<=99)/\Ext b H1 H2) ?_ ?_ ?_
   ·exact ⟨none,[],rfl,D.put e g,j6,rfl,(by intro x hx;cases hx),Ext.new a⟩
   ·rintro i σ H2 hi ⟨x,d,rfl,p,h2,r,l,M⟩
    left
    refine ⟨L,b,_,rfl,p,⟨⋯,⋯⟩,λv m p3 Y y O=>?_⟩
    have u:=O _ _ h2 e
    refine ⟨_,u,by rw [ag];exact jf (),_,d++[v],rfl,y.put e g,by rw [j6,aq];rfl,by rw [aw,r];rfl,λx hx=>?_,λc o t n=>?_⟩
    ·rcases List.mem_append.mp hx with hx | hx
     ·exact l x hx
     ·have:x=v:=by simpa using hx
      right
    ·rw [j8 (j1 t a)]
     exact O _ _ (M c o t n) n
   ·rintro σ H2 ⟨x,d,rfl,p,h2,r,l,M⟩
    exact k acc H2 d p (C.trans M) (C.free a e) h2 () l
  ·left
   refine ⟨L,b,_,rfl,D,⟨⋯,⋯⟩,λq H2 p2 Z p R=>?_⟩
   left
   refine ⟨(),(),λacc a=>?_⟩
   have e:=p.ne a
   have g:=p.neL a
   refine qr (lo:=0) (n:=sz.toNat) (acc:=acc) (λi σ m=>∃(x:Option V) (d:List Int),σ=[x,some (.int tp),some (.int (1+q))]/\jY L m b/\m acc=some (.lst (d.map V.int))/\d.length=i/\(∀x∈d,0<=x/\x<=99)/\Ext b H2 m) ?_ ?_ ?_
   ·exact ⟨none,[],rfl,p.put e g,j6,rfl,(by intro x hx;cases hx),Ext.new a⟩
   ·rintro i σ m hi ⟨x,d,rfl,y,u,r,l,J⟩
    left
    have hm:(0:Int)<=(1+q)*(0+(i:Int)):=tD () ()
    refine ⟨_,_,rfl,?_⟩
    refine ⟨_,u,by rw [ag];exact jf (),_,d++[if tp-(1+q)*(0+(i:Int)) > 0 then tp-(1+q)*(0+(i:Int)) else 0],rfl,y.put e g,by rw [j6,aq];rfl,by rw [aw,r];rfl,λx hx=>?_,λc o t n=>?_⟩
    ·rcases List.mem_append.mp hx with hx | hx
     ·exact l x hx
     ·have:x=if tp-(1+q)*(0+(i:Int)) > 0 then tp-(1+q)*(0+(i:Int)) else 0:=by simpa using hx
      rw [this]
      split <;> right
    ·rw [j8 (j1 t a)]
     exact J c o t n
   ·rintro σ m ⟨x,d,rfl,y,u,r,l,J⟩
    have z:=R.free a e
    exact k acc m d y ((C.trans R).trans J) (C.free z e) u () l
structure RD (L b tp rw dp:Addr) (H0:Hp):Prop where
 tb:tp≠b
 rb:rw≠b
 db:dp≠b
 tL:tp≠L
 rL:rw≠L
 dL:dp≠L
 tr:tp≠rw
 td:tp≠dp
 rd:rw≠dp
 nt:H0 tp=none
 nr:H0 rw=none
 nd:H0 dp=none
structure RG (L b tp rw dp:Addr) (H0 H:Hp) (ts:List Int) (xs:List V) (rs:List Rch) (ds:List Int):Prop where
 box:jY L H b
 htp:H tp=some (.lst (ts.map V.int))
 hrw:H rw=some (.lst xs)
 hdp:H dp=some (.lst (ds.map V.int))
 rows:qj H xs rs
 ext:Ext b H0 H
section
variable {L b tp rw dp:Addr}{H0 H H':Hp}{ts ds:List Int}{xs:List V}{rs:List Rch}
theorem RG.take (D:RD L b tp rw dp H0) (G:RG L b tp rw dp H0 H ts xs rs ds) (B:jY L H' b) (X:Ext b H H'):RG L b tp rw dp H0 H' ts xs rs ds :=
 ⟨B,X _ _ G.htp D.tb,X _ _ G.hrw D.rb,X _ _ G.hdp D.db,G.rows.keep (by obtain ⟨e,a,r,c,d,h1,_⟩:=G.box;exact jq.lst X h1),G.ext.trans X⟩
theorem RG.same (G:RG L b tp rw dp H0 H ts xs rs ds) (s:jk H H'):RG L b tp rw dp H0 H' ts xs rs ds :=
 ⟨G.box.same s,s _ _ G.htp,s _ _ G.hrw,s _ _ G.hdp,G.rows.keep (jq.same s),G.ext.trans (Ext.of_same s)⟩
theorem RG.extN (G:RG L b tp rw dp H0 H ts xs rs ds) (j:H a=none) (e:Ext a H H'):RG L b tp rw dp H0 H' ts xs rs ds:=G.same λc o h=>e c o h (j1 h j)
theorem RG.putT (D:RD L b tp rw dp H0) (G:RG L b tp rw dp H0 H ts xs rs ds) (j:List Int):RG L b tp rw dp H0 (upd H tp (.lst (j.map V.int))) j xs rs ds :=
 ⟨G.box.put D.tb D.tL,j6,by rw [j8 D.tr.symm];exact G.hrw,by rw [j8 D.td.symm];exact G.hdp,G.rows.keep (jq.lst Ext.put G.htp),λc o h n=>by rw [j8 (j1 h D.nt)];exact G.ext c o h n⟩
theorem RG.putR (D:RD L b tp rw dp H0) (G:RG L b tp rw dp H0 H ts xs rs ds) (q:Qc H v r):RG L b tp rw dp H0 (upd H rw (.lst (xs++[v]))) ts (xs++[v]) (rs++[r]) ds :=
 ⟨G.box.put D.rb D.rL,by rw [j8 D.tr];exact G.htp,j6,by rw [j8 D.rd.symm];exact G.hdp,(G.rows.snoc q).keep (jq.lst Ext.put G.hrw),λc o h n=>by rw [j8 (j1 h D.nr)];exact G.ext c o h n⟩
theorem RG.putD (D:RD L b tp rw dp H0) (G:RG L b tp rw dp H0 H ts xs rs ds) (ds':List Int):RG L b tp rw dp H0 (upd H dp (.lst (ds'.map V.int))) ts xs rs ds' :=
 ⟨G.box.put D.db D.dL,by rw [j8 D.td];exact G.htp,by rw [j8 D.rd];exact G.hrw,j6,G.rows.keep (jq.lst Ext.put G.hdp),λc o h n=>by rw [j8 (j1 h D.nd)];exact G.ext c o h n⟩
end
noncomputable def zh (rs:List Rch):List Int:=(aM rs.length).map λi=>jJ rs (qT rs i)
theorem Xc {t:Int}{j:List Int}(G:Grown rs) (U:0<=t) (h1:t<rs.length) (z:okR rs.length (t,j)=true):zh (rs++[(t,j)])=zh rs++[jJ rs (qT rs t.toNat)+j.length]:=by
 have b:=qt G.ok
 unfold zh
 rw [aw,bx,bZ,aq]
 congr 1
 ·apply ez
  intro i hi
  have a:=List.mem_range.mp hi
  rw [vS b a,zr _ (zv b i a)]
 ·show [jJ (rs++[(t,j)]) (qT (rs++[(t,j)]) rs.length)]=[_]
  rw [G.deep_snoc U h1 z]
theorem YI {rs:List Rch}{t:Int}(j:0<=t) (h1:t<rs.length):atI ((zh rs).map V.int) t=some (.int (jJ rs (qT rs t.toNat))):=by
 refine qo j ?_
 unfold zh
 rw [ax,ax,eA ()]
 rfl
theorem Wb {i:Nat}{t sz:Int}{j:List Int}(hi:0<i) (G:0<=t) (h1:t<i) (hl:(j.length:Int)=sz) (Y:1<=sz) (U:sz<=12) (z:∀x∈j,0<=x/\x<=99):okR i (t,j)=true:=by
 unfold okR zf
 rw [if_neg (),decide_eq_true (show 0<=t/\t<(i:Int) from ⟨G,h1⟩),decide_eq_true (show 1<=(j.length:Int)/\(j.length:Int)<=12 by right),fk,fk,c8]
 intro x a
 exact decide_eq_true (z x a)
inductive spReachesL  (vs:List V) (H:Hp) (Q:VK) (z_3:XK):Prop
 | mk (L b:Addr) (_:vs=[.ref b]) (_:jY L H b) (_:∀p H' xs rs,jY L H' b->Ext b H H'->H p=none->H' p=some (.lst xs)->qj H' xs rs->Grown rs->1<=rs.length->rs.length<=8->Q (.ref p) H')
theorem jQ:FnScope ["_law_box_here","_law_tops","_law_sizes","_law_rows","_law_deep","_law_number","_law_to","_law_led","_law_heads","_law_size"] ["_law_box_here"] (j7 xB):=by walk_at "s"
theorem WS {v:Int}(a:0<=v) (b:v<3):∃n,atI [V.int 1,V.int 3,V.int 8] v=some (V.int n)/\0<n/\n<=8:=by
 have h:v=0\/v=1\/v=2:=()
 rcases h with rfl | rfl | rfl
 ·exact ⟨1,rfl,(),()⟩
 ·exact ⟨3,rfl,(),()⟩
 ·exact ⟨8,rfl,(),()⟩
theorem Z7 (nb:Nb2 mg) (U:Cal P w K mg base 2 "_law_take" ["_law_box_here","_law_size"] spTakeL) (Y:Cal P w K mg base 3 "_law_ground_drawn" ["_law_box_here","_law_top","_law_size"] spGroundDrawn) (F:Fun K "_law_reaches" "_law_reaches" xB f fd):FnOk P w K mg base CX0 4 f fd ["_law_box_here"] spReachesL:=by
 refine F.ok jQ (λl H Q E h=>?_) (λej A outer s H l Q E e h=>?_)
 ·obtain ⟨L,b,rfl,_⟩:=h
  rfl
 ·obtain ⟨L,b,rfl,B,k⟩:=h
  refine ⟨_,(j5 (jo 1 jQ.nd (jD (j0 (jh jE j4 (je U (e.mono ⋯) rfl ↥15)) j2)))
   (j5 (jo 2 jQ.nd (jD (j0 (jh jE j4 (je U (e.mono ⋯) rfl ↥15)) j2)))
   (j5 (jo 3 jQ.nd (jD (j0 (qa (j0 (jh jN j4 j4) (j0 (qC (xp K) rfl nb.b_tuple cB (j0 (je Y (e.mono ⋯) rfl (j0 (pv 0) (j0 (jm (jd K) (pv 1) j4 (λ_ _=>rfl)) (j0 (jm (jd K) (pv 2) j4 (λ_ _=>rfl)) j2)))) j2)) j2))) j2)))
   (j5 (jo 4 jQ.nd (jD (j0 (jm (jd K) (pv 2) j4 (λ_ _=>rfl)) j2)))
   (j5 (xf bp rfl (Yo rfl nb.b_range (j0 j4 (j0 (jh jE j4 (je U (e.mono ⋯) rfl (j0 (pv 0) (j0 (jm (jd K) (jD ↥122) (je U (e.mono ⋯) rfl ↥15) (λ_ _=>rfl)) j2)))) j2))) (jc (i:=5) jQ.nd rfl (aP rfl)) (j5 (jo 6 jQ.nd (je U (e.mono ⋯) rfl (j0 (pv 0) (j0 (pv 5) j2))))
   (j5 (xa (i:=7) jQ.nd rfl (df rfl) (jG (osc:=(j7 xB)) (ON:=["_law_box_here","_law_tops","_law_sizes","_law_rows","_law_deep","_law_number","_law_to","_law_led","_law_heads","_law_size"]) (N:=["_law_row_here"]) (own:=1) (caps:=[]) ⟨rfl,∅,∅,∅,rfl,∅⟩ rfl rfl rfl (jT K (pv 3)) (λ_ _ _ _ _=>(jc (i:=0) (show aS (["_law_row_here"]:List Str) by decide +kernel) rfl (aP rfl))) ↥14 (λ_ _ _ _ _=>↥66)))
   (j5 (jo 8 jQ.nd (jb (jg K) rfl nb.b_len aR (j0 (jG (osc:=(j7 xB)) (ON:=["_law_box_here","_law_tops","_law_sizes","_law_rows","_law_deep","_law_number","_law_to","_law_led","_law_heads","_law_size"]) (N:=["_law_one","_law_led"]) (own:=1) (caps:=[7]) ⟨rfl,∅,∅,∅,rfl,∅⟩ rfl rfl rfl (jU rfl nb.b_range (j0 (pv 5) j2)) (λ_ _ _ _ _=>(jc (i:=0) (show aS (["_law_one","_law_led"]:List Str) by decide +kernel) rfl (aP rfl))) (λ_ _ _ _ _=>(zw (jA (zq K) (pv 0) (pv 1) ↥63))) ↥144) j2)))
   (zp (jV (PW.pt (Vp (jA xW (pv 8) j4 (jF _)) (Y8 (jA (ZM K) (pv 6) (pv 7) ↥63)))) (j9 (jo 6 jQ.nd (jh jN (pv 5) j4))) jw)
   (j9 (jV (jA vg (jm (jd K) (pv 4) (pv 6) (λ_ _=>rfl)) j4 (jF _)) (j5 (jo 9 jQ.nd (jh jE j4 (je U (e.mono ⋯) rfl (j0 (pv 0) (j0 (jb (vY rfl) rfl nb.b_min tE (j0 j4 (j0 (jh jN j4 (jm (jd K) (pv 4) (pv 6) (λ_ _=>rfl))) j2))) j2)))))
   (j5 (jX (zS K bK bI bJ qq (pv 1) (j0 (jb (vY rfl) rfl nb.b_min tE (j0 j4 (j0 (jh jE (jm (jd K) (pv 1) (pv 6) (λ_ _=>rfl)) (je U (e.mono ⋯) rfl ↥15)) j2))) j2)))
   (j5 (jX (zS K bK bI bJ qq (pv 3) (j0 (qa (j0 (pv 6) (j0 (qC (xp K) rfl nb.b_tuple cB (j0 (je Y (e.mono ⋯) rfl (j0 (pv 0) (j0 (jm (jd K) (pv 1) (vi zB j4) (λ_ _=>rfl)) (j0 (pv 9) j2)))) j2)) j2))) j2)))
   (j9 (jX (zS K bK bI bJ qq (pv 4) (j0 (jh jE (jm (jd K) (pv 4) (pv 6) (λ_ _=>rfl)) (pv 9)) j2))))))) (j9 (jj (pv 3))))))))))
   (j9 (jj (pv 3)))))))),?_⟩
  left
  refine ⟨L,b,_,rfl,B,⟨⋯,⋯⟩,λv1 H1 p1 q1 B1 X1=>?_⟩
  left
  refine ⟨by show 1<=sizeLine;decide,λtp H2 am b0 s2=>?_⟩
  have B2:=B1.same s2
  left
  refine ⟨L,b,_,rfl,B2,⟨⋯,⋯⟩,λv2 X p3 q3 B3 X3=>?_⟩
  have tb:=B1.ne am
  have tL:=B1.neL am
  left
  refine ⟨by show 1<=sizeLine;decide,λsz H4 dd b3 s4=>?_⟩
  have B4:=B3.same s4
  have bv:=s4 _ _ (X3 _ _ b0 tb)
  left
  refine ⟨L,b,20+v1,1+v2,rfl,B4,(),(),(),λgl H5 d B5 X5 ed cm hl hb=>?_⟩
  have cy:=B3.ne dd
  have al:=X5 _ _ bv tb
  have b2:=X5 _ _ b3 cy
  refine ⟨gl,_,rfl,SqL.of cm,λgt H6 ec ci s6=>?_⟩
  refine ⟨by show 2<=sizeLine;decide,λrt H7 eb b5 R=>?_⟩
  refine ⟨by show 1<=sizeLine;decide,λrw H8 J ap s8=>?_⟩
  have B8:=((B5.same s6).same R).same s8
  have o:jk H5 H8:=(s6.trans R).trans s8
  have dK:=o _ _ b2
  have ae:=o _ _ al
  have b4:H5 rw=none:=(s6.trans R).free J
  have B7:=(B5.same s6).same R
  have rb:=B7.ne J
  have rL:=B7.neL J
  have tr:tp≠rw:=j1 ((s6.trans R) _ _ al) J
  left
  refine ⟨by show 1<=sizeLine;decide,λdp H9 u cr O=>?_⟩
  have db:=B8.ne u
  have dL:=B8.neL u
  have td:tp≠dp:=j1 ae u
  have rd:rw≠dp:=j1 ap u
  have nz:∀a,H8 a=none->a≠b->a≠L->H a=none:=λa ha ab aL=>by
   have a5:=o.free ha
   have a4:=X5.free a5 ab
   exact X1.free (s2.free (X3.free (s4.free a4) ab)) ab
  have nt:H tp=none:=X1.free am tb
  have nr:H rw=none:=X1.free (s2.free (X3.free (s4.free (X5.free b4 rb)) rb)) rb
  have nd:H dp=none:=nz dp u db dL
  have D:RD L b tp rw dp H:=⟨tb,rb,db,tL,rL,dL,tr,td,rd,nt,nr,nd⟩
  have da:wo [((0-1:Int),d)]=true:=by
   unfold wo okR zf
   simp only [bx,List.range_one,oF,List.all_nil,Bool.and_true]
   show (decide ((0-1:Int) = -1) && decide (1<=↥87/\ ↥87<=12) && d.all λx=>decide (0<=x/\x<=99))=true
   rw [decide_eq_true (show 1<=↥87/\ ↥87<=12 by right),bw,c8]
   exact ⟨rfl,λx hx=>decide_eq_true (hb x hx)⟩
  have a6:qT [((0-1:Int),d)] 0=[0]:=rfl
  have a7:jJ [((0-1:Int),d)] [0]=d.length:=by unfold jJ;simp [yi]
  have G0:Grown [((0-1:Int),d)]:=by
   refine ⟨da,aK (bz _ _) (by simp),λi hi=>?_⟩
   have:i=0:=by simp at hi;exact hi
   subst this
   rw [a6,a7]
   right
  have ct:Ext b H H8:=((((X1.trans (Ext.of_same s2)).trans X3).trans (Ext.of_same s4)).trans X5).trans (Ext.of_same o)
  have bs:RG L b tp rw dp H H9 [20+v1] [.ref rt] [((0-1:Int),d)] (zh [((0-1:Int),d)]):=by
   refine ⟨B8.same O,O _ _ ae,O _ _ ap,?_,.cons ⟨rt,gt,rfl,O _ _ (s8 _ _ b5),O _ _ (s8 _ _ (R _ _ ci))⟩ .nil,ct.trans (Ext.of_same O)⟩
   rw [cr]
   show some (HO.lst [V.int (1+v2)])=some (.lst [V.int (jJ [((0-1:Int),d)] (qT [((0-1:Int),d)] 0))])
   rw [a6,a7,hl]
  left
  refine ⟨by show 3<=sizeLine;decide,λd1 eo hq cb c1=>?_⟩
  have br:=bs.same c1
  left
  refine ⟨L,b,_,rfl,br.box,⟨⋯,⋯⟩,λv3 em c9 c4 bt bq=>?_⟩
  have dx:=br.take D bt bq
  have b6:=bq _ _ cb (bs.box.ne hq)
  obtain ⟨n,hn,n0,n8⟩:=WS c9 c4
  refine ⟨_,_,_,_,rfl,rfl,SqL.of b6,hn,?_⟩
  refine ⟨L,b,_,rfl,bt,⟨n0,()⟩,λv4 el d3 d2 dD dr=>?_⟩
  have dv:=dx.take D dD dr
  left
  refine ⟨1,1+v4,rfl,⟨(),(),(),()⟩,?_⟩
  have b1:∀t∈[20+v1],t<=99:=λt ht=>by
   have:t=20+v1:=by simpa using ht
   right
  have done:∀(H':Hp) ts xs rs ds,RG L b tp rw dp H H' ts xs rs ds->Grown rs->1<=rs.length->rs.length<=8->Q (.ref rw) H':=λH' ts xs rs ds G gr h1 h8=>k rw H' xs rs G.box G.ext nr G.hrw G.rows gr h1 h8
  refine qY (lo:=1) (n:=(1+v4-1).toNat) (λi σ H'=>∃(v5 v6 v7 v8 v9:Option V) (ts:List Int) (xs:List V) (rs:List Rch),σ=[some (.ref b),some (.ref tp),some (.ref sz),some (.ref rw),some (.ref dp),v5,v6,v7,v8,v9]/\RG L b tp rw dp H H' ts xs rs (zh rs)/\Grown rs/\rs.length=i+1/\ts.length=i+1/\∀t∈ts,t<=99) ⟨_,_,_,_,_,_,_,_,rfl,dv,G0,rfl,rfl,b1⟩ ?_ ?_
  ·rintro i σ H' hi ⟨v5,v6,v7,v8,v9,ts,xs,rs,rfl,G,gr,bi,a9,bd⟩
   have Ld:=qt gr.ok
   have dc:=G.rows.length
   left
   refine ⟨L,b,_,rfl,G.box,⟨(),()⟩,λt Ha bm ei Ba Xa=>?_⟩
   have Ga:=G.take D Ba Xa
   left
   refine ⟨⟨_,SqL.of Ga.hrw⟩,λld a0=>?_⟩
   refine jO (K:=K) (a:=rw) (xs:=xs) (acc:=ld) (λj σ H2=>∃x:Option V,σ=[x]/\H2 ld=some (.lst (((rs.take j).map (·.1)).map V.int))/\Ext ld Ha H2) ?_ ?_ ?_ ?_
   ·exact ⟨none,rfl,j6,Ext.put⟩
   ·rintro j σ H2 hj ⟨x,rfl,y,T⟩
    exact SqL.of (T _ _ Ga.hrw (j1 Ga.hrw a0))
   ·rintro j v σ H2 hv ⟨x,rfl,y,T⟩
    obtain ⟨r,e,q,g,rfl,hq,hg⟩:=(Ga.rows.keep (jq.new T a0)).get hv
    have hj:j<rs.length:=(↥119).1
    left
    refine ⟨_,y,by rw [ag,ag,aG];exact jf (),_,rfl,?_,T.trans Ext.put⟩
    rw [j6,qX (λr:Rch=>r.1) rs j r e,aq]
    rfl
   ·rintro σ H2 ⟨x,rfl,y,T⟩
    rw [dc,aX] at y
    have Gb:=Ga.extN a0 T
    left
    refine ⟨(),(),λhd a1=>?_⟩
    have en:(1+(i:Int)).toNat=rs.length:=()
    refine qr (lo:=0) (n:=(1+(i:Int)).toNat) (acc:=hd) (λj σ X=>∃(x:Option V) (l:List V),σ=[x,some (.ref ld)]/\X hd=some (.lst l)/\l.length=((aM j).filter (jZ rs)).length/\Ext hd H2 X) ?_ ?_ ?_
    ·exact ⟨none,[],rfl,j6,rfl,Ext.put⟩
    ·rintro j σ X hj ⟨x,l,rfl,h4,l4,S⟩
     have er:((aM (j+1)).filter (jZ rs)).length=((aM j).filter (jZ rs)).length+(if jZ rs j=true then 1 else 0):=by
      rw [bZ,bu,aw]
      congr 1
      by_cases z:jZ rs j=true
      ·rw [if_pos z];simp [z]
      ·rw [if_neg z];simp [z]
     have eg:((aM j).filter (jZ rs)).length<=j:=aK (bz _ _) (by rw [bG];exact au _)
     left
     refine ⟨ld,_,rfl,.inl (SqL.of (S _ _ y (j1 y a1))),rfl,yG _,?_⟩
     left
     rw [cS,vM]
     refine zF (λm=>?_) (λm=>?_)
     ·have hb:jZ rs j=true:=by unfold jZ;rw [decide_eq_false (show ¬(j:Int)∈tos rs from m)];rfl
      left
      refine ⟨l,h4,jf (),_,_,rfl,j6,?_,S.trans Ext.put⟩
      rw [aw,bx,er,if_pos hb,l4]
     ·have hb:¬jZ rs j=true:=by unfold jZ;rw [decide_eq_true (show (j:Int)∈tos rs from m)];exact ar
      exact ⟨_,l,rfl,h4,by rw [er,if_neg hb,l4,Nat.add_zero],S⟩
    ·rintro σ X ⟨x,l,rfl,h4,l4,S⟩
     have Gc:=Gb.extN a1 S
     have ce:=S _ _ y (j1 y a1)
     rw [en] at l4
     have ea:l.length=(ju rs).length:=l4
     refine ⟨_,_,rfl,.inl (SqL.of h4),?_⟩
     refine ⟨λσ H5=>∃c:Int,σ=[some (.ref b),some (.ref tp),some (.ref sz),some (.ref rw),some (.ref dp),some (.int (1+(i:Int))),some (.int c),some (.ref ld),some (.int l.length),v9]/\H5=X/\0<=c/\c<rs.length/\(c∈tos rs->(ju rs).length<6),?_,?_⟩
     ·have hh:=gr.heads
      left
      refine qv (λh6=>?_) (λh6=>?_)
      ·left
       refine ⟨ld,_,rfl,.inl (SqL.of ce),rfl,yG _,?_⟩
       left
       rw [vM]
       refine qv (λm=>?_) (λm=>?_)
       ·left
        refine ⟨(),(),λz=>?_⟩
        have:=ZJ Ld z
        right
       ·exact ⟨t,rfl,rfl,bm,(),λz=>absurd z m⟩
      ·have:(ju rs).length<6:=by
        have:(l.length:Int)≠6:=λz=>h6 (by rw [z])
        right
       exact ⟨t,rfl,rfl,bm,(),λ_=>this⟩
     ·rintro σ H5 ⟨c,rfl,rfl,Z,t1,th⟩
      have M:=YI Z t1
      left
      refine ⟨_,_,_,_,rfl,rfl,SqL.of Gc.hdp,M,?_⟩
      left
      refine qv (λbn=>?_) (λbn=>?_)
      ·have cs:=gr.deep c.toNat ()
       generalize bl:jJ rs (qT rs c.toNat)=dt at M bn cs
       left
       refine ⟨_,_,_,_,rfl,rfl,SqL.of Gc.hdp,M,?_⟩
       left
       refine ⟨_,_,rfl,?_⟩
       refine ⟨L,b,_,rfl,Gc.box,⟨by split <;> right,by split <;> right⟩,λp H6 p6 q6 B6 X6=>?_⟩
       have Gd:=Gc.take D B6 X6
       have dF:1+p<=12/\dt+(1+p)<=30:=by
        have c2:=q6
        split at c2 <;> right
       left
       refine ⟨.inl ⟨rfl,_,SqL.of Gd.htp⟩,?_⟩
       left
       have an:c.toNat<ts.length:=()
       refine ⟨_,_,_,_,rfl,rfl,SqL.of Gd.htp,qo Z (by rw [ax,aa an];rfl),?_⟩
       left
       refine ⟨L,b,_,rfl,Gd.box,⟨⋯,⋯⟩,λa3 H7 p7 q7 B7 X7=>?_⟩
       have Ge:=Gd.take D B7 X7
       left
       refine ⟨_,_,rfl,?_⟩
       generalize cd:(if ts[c.toNat]'an+a3<99 then ts[c.toNat]'an+a3 else 99)=new
       have as:new<=99:=by rw [<- cd];split <;> right
       left
       refine ⟨tp,_,_,rfl,rfl,Ge.htp,by rw [ag];exact jf (),?_⟩
       have Gf:RG L b tp rw dp H (upd H7 tp (.lst (ts.map V.int++[V.int new]))) (ts++[new]) xs rs (zh rs):=by
        have:=Ge.putT D (ts++[new])
        rw [aq] at this
        exact this
       left
       refine ⟨.inl ⟨rfl,_,SqL.of Gf.hrw⟩,?_⟩
       left
       refine ⟨_,_,_,_,rfl,rfl,SqL.of j6,w9 _ _,?_⟩
       left
       refine ⟨L,b,new,1+p,rfl,Gf.box,as,(),(),λdn H8 I dy X8 d0 cl bk dg=>?_⟩
       have Gg:=Gf.take D dy X8
       refine ⟨dn,_,rfl,SqL.of cl,λdk ek dV ch cL=>?_⟩
       refine ⟨by show 2<=sizeLine;decide,λC cv dT a2 ac=>?_⟩
       have Gh:=(Gg.same cL).same ac
       left
       refine ⟨rw,_,_,rfl,rfl,Gh.hrw,jf (),?_⟩
       have a8:okR rs.length (c,I)=true:=Wb () Z t1 bk () () dg
       have Gi:=Gh.putR D (v:=.ref C) (r:=(c,I)) ⟨C,dk,rfl,a2,ac _ _ ch⟩
       left
       refine ⟨.inl ⟨rfl,_,SqL.of Gi.hdp⟩,?_⟩
       left
       refine ⟨_,_,_,_,rfl,rfl,SqL.of Gi.hdp,M,?_⟩
       left
       have eh:(zh rs).length=rs.length:=by unfold zh;simp
       refine ⟨dp,_,_,rfl,rfl,Gi.hdp,by rw [ag];exact jf (),?_⟩
       have Gj:RG L b tp rw dp H (upd (upd cv rw (.lst (xs++[.ref C]))) dp (.lst ((zh rs).map V.int++[V.int (dt+(1+p))]))) (ts++[new]) (xs++[.ref C]) (rs++[(c,I)]) (zh (rs++[(c,I)])):=by
        have:=Gi.putD D (zh rs++[dt+(1+p)])
        rw [aq] at this
        rw [Xc gr Z t1 a8,bl,bk]
        exact this
       refine ⟨_,_,_,_,_,_,_,_,rfl,Gj,gr.snoc Z t1 a8 th (by rw [bl];right),by rw [aw,bi];rfl,by rw [aw,a9];rfl,λt ht=>?_⟩
       rcases List.mem_append.mp ht with ht | ht
       ·exact bd t ht
       ·have:t=new:=by simpa using ht
        right
      ·left
       exact done _ _ _ _ _ Gc gr () ()
  ·rintro σ H' ⟨v5,v6,v7,v8,v9,ts,xs,rs,rfl,G,gr,bi,a9,bd⟩
   left
   exact done _ _ _ _ _ G gr () ()
noncomputable def Vc (t:TE):Prop:=∀σ H Q a,(∀v H,Q v H->a v H)->t σ H Q->t σ H a
noncomputable def Vn (r:R2):Prop:=∀x y H Q a,(∀v H,Q v H->a v H)->r x y H Q->r x y H a
theorem ZX (i:Nat):Vc (tVar i):=λ_ _ _ _ h ⟨v,e,q⟩=>⟨v,e,h _ _ q⟩
theorem Y9 (v:V):Vc (tC v):=λ_ _ _ _ h q=>h _ _ q
theorem hU (j:Vn r) (G:Vc ta) (z:Vc tb):Vc (tOp r ta tb):=λσ H Q c h q=>G σ H _ _ (λx H1 b=>z σ H1 _ _ (λy H2 a=>j x y H2 _ _ h a) b) q
theorem Y0 (K:ah):Vn (rIxL K):=λ_ _ _ _ _ h ⟨a,xs,i,v,e,d,c,b,q⟩=>⟨a,xs,i,v,e,d,c,b,h _ _ q⟩
theorem Wh (K:ah):Vn (rIxT K):=λ_ _ _ _ _ h ⟨a,xs,i,v,e,d,c,b,q⟩=>⟨a,xs,i,v,e,d,c,b,h _ _ q⟩
theorem GJ (g:Int->Int->V):Vn (rI0 g):=λ_ _ _ _ _ h ⟨i,j,b,a,q⟩=>⟨i,j,b,a,h _ _ q⟩
theorem WJ:Vn rNe:=λ_ _ _ _ _ h ⟨e,q⟩=>⟨e,h _ _ q⟩
theorem VB (j:Vc t):∀σ H Q Q',(∀b H1,Q b H1->Q' b H1)->Xv t σ H Q->Xv t σ H Q':=λσ H Q Q' h q=>j σ H _ _ (λ_ _ ⟨k,e,q⟩=>⟨k,e,h _ _ q⟩) q
theorem QU {α:Type}{x:α}{l:List α}:atI (x::l) 0=some x:=y3 (j:=0) rfl
noncomputable def uR (fd:Addr) (H:Hp) (vs:List V) (j:List (List Int)):Prop:=cz (λv (r:List Int)=>∃a,v=V.ref a/\a≠fd/\H a=some (.lst (r.map V.int))) vs j
theorem uR.ext {rows:List (List Int)}(h:uR fd H vs rows) (e:Ext fd H H'):uR fd H' vs rows:=Paired.mapP h λ_ _ ⟨a,b,n,q⟩=>⟨a,b,n,e _ _ q n⟩
theorem uR.rowsI {rows:List (List Int)}(h:uR fd H vs rows):vm H vs rows:=Paired.mapP h λ_ _ ⟨a,b,n,q⟩=>⟨a,b,q⟩
theorem hZ {vs:List V}{ws:List (List Int)}(h:vm H vs ws):∀z:List Nat,(∀i∈z,i<vs.length)->vm H (z.map λi=>vs.getD i V.non) (z.map λi=>ws.getD i [])
 | [],_=>.nil
 | i::z,b=>by
  refine .cons ?_ (hZ h z λj c=>b j (aC _ c))
  have hi:=b i aE
  obtain ⟨y,f,a,e,d⟩:=Paired.get h (aa hi)
  refine ⟨a,?_,?_⟩
  ·show vs.getD i V.non=V.ref a
   rw [ak,aa hi];exact e
  ·show H a=some (.lst ((ws.getD i []).map V.int))
   rw [ak,f];exact d
inductive spRoadsL (K:ah) (vs:List V) (H:Hp) (Q:VK) (z_3:XK):Prop
 | mk (p:Addr) (xs:List V) (rs:List Rch) (_:vs=[.ref p]) (_:H p=some (.lst xs)) (_:qj H xs rs) (_:xM rs) (_:rs.length<=60) (_:∀l H' out ws,H l=none->H' l=some (.lst out)->vm H' out ws->qm rs ws->jk H H'->Q (.ref l) H')
theorem xr:FnScope ["_law_reaches_here","_law_led","_law_found","_law_head","_law_road"] ["_law_reaches_here"] (j7 zu):=by walk_at "s"
theorem Vx (nb:Nb2 mg) (F:Fun K "_law_roads" "_law_roads" zu f fd):FnOk P w K mg base CX0 1 f fd ["_law_reaches_here"] (spRoadsL K):=by
 refine F.ok xr (λd H Q E h=>?_) (λct A outer s H d Q E hr h=>?_)
 ·obtain ⟨p,xs,rs,rfl,_⟩:=h
  rfl
 ·obtain ⟨p,xs,rs,rfl,hp,al,L,cs,k⟩:=h
  have ap:=al.length
  refine ⟨_,(j5 (yR (j:=1) (osc:=(j7 zu)) (ON:=["_law_reaches_here","_law_led","_law_found","_law_head","_law_road"]) (N:=["_law_to","_law_ground_here"]) (own:=2) (caps:=[]) ⟨rfl,∅,∅,∅,rfl,∅⟩ xr.nd rfl (aP rfl) rfl rfl rfl (jT K (pv 0)) (λ_ _ _ _ _=>(qS (n:=2) K rfl (jn (jc (i:=0) (show aS (["_law_to","_law_ground_here"]:List Str) by decide +kernel) rfl (aP rfl)) (jn (jc (i:=1) (show aS (["_law_to","_law_ground_here"]:List Str) by decide +kernel) rfl (aP rfl)) qz)))) ↥14 ↥144)
   (j5 (jo 2 xr.nd (jD j2))
   (j5 (xf bp rfl (jU rfl nb.b_range (j0 (jb (jg K) rfl nb.b_len aR ↥42) j2)) (jc (i:=3) xr.nd rfl (aP rfl)) (j9 (jV (jA (zq K) (pv 3) (pv 1) ↥63) (j5 (jo 4 xr.nd (jD (j0 (pv 3) j2)))
   (j5 (QS bp (jA Vz (jm (qp K) (jm (jd K) (pv 0) (jm (jd K) (pv 4) j4 (λ_ _=>rfl)) (λ_ _=>rfl)) j4 (λ_ _=>rfl)) (jh jN j4 j4) (jF _)) (j9 (jo 4 xr.nd (jh ua (jD (j0 (jm (qp K) (jm (jd K) (pv 0) (jm (jd K) (pv 4) j4 (λ_ _=>rfl)) (λ_ _=>rfl)) j4 (λ_ _=>rfl)) j2)) (pv 4)))))
   (j9 (jX (zS K bK bI bJ qq (pv 2) (j0 (pv 4) j2)))))) jw)))
   (j9 (jj (jG (osc:=(j7 zu)) (ON:=["_law_reaches_here","_law_led","_law_found","_law_head","_law_road"]) (N:=["_law_road"]) (own:=1) (caps:=[]) ⟨rfl,∅,∅,∅,rfl,∅⟩ rfl rfl rfl (jT K (jb (Ji K hr.units) rfl nb.b_sorted nW ↥52)) (λ_ _ _ _ _=>(jc (i:=0) (show aS (["_law_road"]:List Str) by decide +kernel) rfl (aP rfl))) ↥14 (λ_ _ _ _ _=>(Wx K (pv 0))))))))),?_⟩
  left
  refine ⟨⟨_,SqL.of hp⟩,λU a2=>?_⟩
  refine jO (K:=K) (a:=p) (xs:=xs) (acc:=U) (λj σ H2=>∃x y:Option V,σ=[x,y]/\H2 U=some (.lst (((rs.take j).map (·.1)).map V.int))/\Ext U H H2) ?_ ?_ ?_ ?_
  ·exact ⟨none,none,rfl,j6,Ext.put⟩
  ·rintro j σ H2 hj ⟨x,y,rfl,T,Y⟩
   exact SqL.of (Y _ _ hp (j1 hp a2))
  ·rintro j v σ H2 S ⟨x,y,rfl,T,Y⟩
   obtain ⟨r,hr,q,g,rfl,C,hg⟩:=(al.keep (jq.new Y a2)).get S
   have hj:j<rs.length:=(List.getElem?_eq_some_iff.mp hr).1
   left
   refine ⟨q,_,rfl,SqT.of C,rfl,?_⟩
   refine ⟨_,_,rfl,_,_,rfl,rfl,?_⟩
   left
   refine ⟨_,T,by rw [ag,ag,aG];exact jf (),_,_,rfl,?_,Y.trans Ext.put⟩
   rw [j6,qX (λr:Rch=>r.1) rs j r hr,aq]
   rfl
  ·rintro σ H2 ⟨x,y,rfl,T,Y⟩
   rw [ap,aX] at T
   have B:jk H H2:=λc o e=>Y c o e (j1 e a2)
   left
   refine ⟨aN _,λfo H3 a1 a0 s3=>?_⟩
   have a6:=s3 _ _ (B _ _ hp)
   have bi:qj H3 xs rs:=al.keep (jq.same (B.trans s3))
   have bq:=s3 _ _ T
   have bm:H fo=none:=B.free a1
   left
   refine ⟨_,_,rfl,.inl (SqL.of a6),?_⟩
   refine ⟨_,rfl,(),(),?_⟩
   rw [ap]
   refine qY (lo:=0) (n:=((rs.length:Nat):Int).toNat) (λj σ H4=>∃(v3 v4:Option V) (d:List V),σ=[some (.ref p),some (.ref U),some (.ref fo),v3,v4]/\H4 fo=some (.lst d)/\uR fo H4 d (((aM j).filter (jZ rs)).map λh=>(qT rs h).reverse)/\Ext fo H3 H4/\d.length<=j) ?_ ?_ ?_
   ·exact ⟨_,_,[],rfl,a0,.nil,Ext.refl,au _⟩
   ·rintro j σ H4 hj ⟨v3,v4,d,rfl,h4,G,O,l4⟩
    have b6:j<rs.length:=()
    have bt:jq H3 H4:=jq.lst O a0
    have bn:=O _ _ bq (j1 T a1)
    have b5:=O _ _ a6 (j1 (B _ _ hp) a1)
    have bd:qj H4 xs rs:=bi.keep bt
    have er:(aM (j+1)).filter (jZ rs)=(aM j).filter (jZ rs)++(if jZ rs j=true then [j] else []):=by
     rw [bZ,bu]
     congr 1
     by_cases z:jZ rs j=true
     ·rw [if_pos z];simp [z]
     ·rw [if_neg z];simp [z]
    left
    refine ⟨U,_,rfl,.inl (SqL.of bn),rfl,yG _,?_⟩
    left
    rw [cS,vM]
    refine zF (λas=>?_) (λas=>?_)
    ·have hb:jZ rs j=true:=by unfold jZ;rw [decide_eq_false (show ¬(j:Int)∈tos rs from as)];rfl
     left
     refine ⟨by show 1<=sizeLine;decide,λr0 H5 b2 bl R=>?_⟩
     left
     refine Xm (λσ b=>∃(a:Addr) (r:Nat) (l:List Int),σ=[some (.ref p),some (.ref U),some (.ref fo),some (.int (j:Int)),some (.ref a)]/\jk H4 b/\H4 a=none/\b a=some (.lst (((r:Int)::l).map V.int))/\r<rs.length/\l.length+r<=100/\l.reverse++qT rs r=qT rs j) (λσ b=>match σ with | [_,_,_,_,some (.ref a)]=>(match b a with | some (.lst (.int r::_))=>r.toNat | _=>0) | _=>0) ?_ ?_ ?_
     ·exact ⟨r0,j,[],rfl,R,b2,bl,b6,by simp;right,rfl⟩
     ·rintro σ b ⟨a,r,l,rfl,J,a9,D,m,cm,a8⟩
      have a5:=J _ _ b5
      obtain ⟨v,S,q,g,rfl,C,hg⟩:=(bd.keep (jq.same J)).at (aa m)
      have ht:=L.lt m
      have a7:=gH (L _ m)
      have et:=Qe (aa m)
      rw [et] at ht a7
      generalize (rs[r]'m).1=tt at ht a7 et C
      left
      refine ⟨_,_,_,_,rfl,rfl,SqL.of D,QU,?_⟩
      refine ⟨_,_,_,_,rfl,rfl,SqL.of a5,y3 S,?_⟩
      refine ⟨_,_,_,_,rfl,rfl,SqT.of C,rfl,?_⟩
      left
      refine zF (λan=>?_) (λan=>?_)
      ·have ce:0<=tt:=by
        have:tt ≠ -1:=λz=>an (by rw [z];rfl)
        right
       left
       refine ⟨_,_,_,_,rfl,rfl,SqL.of D,QU,?_⟩
       refine ⟨_,_,_,_,rfl,rfl,SqL.of a5,y3 S,?_⟩
       refine ⟨_,_,_,_,rfl,rfl,SqT.of C,rfl,?_⟩
       refine ⟨by show 1<=sizeLine;decide,λc1 H7 cr br I=>?_⟩
       left
       refine ⟨c1,a,_,_,rfl,rfl,br,I _ _ D,?_,λc2 H8 cb a3 s8=>?_⟩
       ·show 1+(((r:Int)::l).map V.int).length<=sizeLine
        rw [ag,b9]
        exact dA (jf ())
       ·have cd:tt=((tt.toNat:Nat):Int):=()
        refine ⟨⟨c2,tt.toNat,(r:Int)::l,rfl,(J.trans I).trans s8,(J.trans I).free cb,?_,(),?_,?_⟩,?_⟩
        ·rw [a3,cd]
         simp only [b7]
         rfl
        ·rw [b9];right
        ·rw [lX,iE,<- a8,yd L m,et,if_neg ()]
         rfl
        ·show (match H8 c2 with | some (.lst (.int r::_))=>r.toNat | _=>0)<(match b a with | some (.lst (.int r::_))=>r.toNat | _=>0)
         rw [a3,D]
         show tt.toNat<((r:Int)).toNat
         right
      ·have ch:tt = -1:=V.int.inj an
       have aL:=J _ _ h4
       left
       refine ⟨.inl ⟨rfl,_,SqL.of aL⟩,?_⟩
       left
       refine ⟨fo,_,_,rfl,rfl,aL,jf (),?_⟩
       have bs:a≠fo:=λz=>by rw [z,h4] at a9;cases a9
       refine ⟨_,_,d++[.ref a],rfl,j6,?_,λc o e n=>by rw [j8 n];exact J _ _ (O c o e n),by rw [aw,bx];right⟩
       rw [er,if_pos hb,aq]
       refine uR.ext (cN (G.ext (Ext.of_same J)) ⟨a,rfl,bs,?_⟩) Ext.put
       show b a=some (.lst (((qT rs j).reverse).map V.int))
       rw [D,<- a8,yd L m,et,if_pos (),List.reverse_append,fJ]
       rfl
     ·exact VB (hU WJ (hU (Wh K) (hU (Y0 K) (ZX 0) (hU (Y0 K) (ZX 4) (Y9 _))) (Y9 _)) (hU (GJ _) (Y9 _) (Y9 _)))
    ·have hb:¬jZ rs j=true:=by unfold jZ;rw [decide_eq_true (show (j:Int)∈tos rs from as)];exact ar
     refine ⟨_,_,d,rfl,h4,?_,O,()⟩
     rw [er,if_neg hb,aJ]
     exact G
   ·rintro σ H4 ⟨v3,v4,d,rfl,h4,G,O,l4⟩
    rw [b7] at G l4
    have ab:jk H H4:=λc o e=>O _ _ (s3 _ _ (B _ _ e)) (j1 e bm)
    left
    refine ⟨fo,d,_,rfl,SqL.of h4,(),G.rowsI,λso H5 ac ci M R hs=>?_⟩
    obtain ⟨ix,am,eo,b4⟩:=hs
    have b0:d.length=(ju rs).length:=by rw [aV G,ag];rfl
    have hb:∀i∈ix,i<d.length:=λi hi=>by have:=am.mem_iff.mp hi;simpa using this
    have b1:=hZ (G.rowsI) ix hb
    have ae:vm H5 ac (ix.map λi=>((↥145).getD i [])):=by
     rw [eo]
     exact Paired.mapP b1 λ_ _ ⟨a,e1,q⟩=>⟨a,e1,R _ _ q⟩
    have cl:ac.length<=60:=by rw [eo,ag,am.length_eq,bG];right
    generalize a4:(ix.map λi=>((↥145).getD i []))=rv at ae
    have bk:=aV ae
    have bv:qm rs (rv.map d5):=by
     refine ⟨?_,?_⟩
     ·have h1:=am.map λi=>((↥145).getD i [])
      rw [b0,show (ju rs).length=(↥145).length by rw [ag],QP,a4] at h1
      have h2:=h1.map d5
      rw [bW] at h2
      refine h2.trans (List.Perm.of_eq (ez λx _=>?_))
      exact fJ _
     ·rw [bW,show (d5 ∘ d5:List Int->List Int)=id from funext λx=>fJ x,nZ,<- a4]
      exact b4
    refine ⟨so,rfl,⟨_,SqL.of M⟩,λacc u=>?_⟩
    refine jO (K:=K) (a:=so) (xs:=ac) (acc:=acc) (λj σ b=>∃(x:Option V) (t:List V),σ=[x]/\b acc=some (.lst t)/\uR acc b t ((rv.take j).map d5)/\Ext acc H5 b/\t.length=j) ?_ ?_ ?_ ?_
    ·exact ⟨none,[],rfl,j6,.nil,Ext.put,rfl⟩
    ·rintro j σ b hj ⟨x,t,rfl,h6,Z,X,l6⟩
     exact SqL.of (X _ _ M (j1 M u))
    ·rintro j v σ b S ⟨x,t,rfl,h6,Z,X,l6⟩
     obtain ⟨y,e2,a,rfl,ha⟩:=Paired.get ae S
     have hj:j<rv.length:=(List.getElem?_eq_some_iff.mp e2).1
     left
     refine ⟨a,_,rfl,SqL.of (X _ _ ha (j1 ha u)),λq H7 C b3 I=>?_⟩
     have h7:=I _ _ h6
     have nq:q≠acc:=λz=>by rw [z,h6] at C;cases C
     refine ⟨t,h7,jf (),_,t++[.ref q],rfl,j6,?_,λc o e n=>by rw [j8 n];exact I _ _ (X c o e n),by rw [aw,l6];rfl⟩
     rw [qX d5 rv j y e2]
     refine uR.ext (cN (Z.ext (Ext.of_same I)) ⟨q,rfl,nq,?_⟩) Ext.put
     rw [b3,rQ]
    ·rintro σ b ⟨x,t,rfl,h6,Z,X,l6⟩
     rw [bk,aX] at Z
     exact k acc b t _ (ab.free (R.free u)) h6 Z.rowsI bv λc o e=>X _ _ (R _ _ (ab _ _ e)) (j1 (R _ _ (ab _ _ e)) u)
noncomputable def ja (rs:List Rch) (j:List Int):List Int:=(j.map λr=>yi rs r.toNat).flatten
theorem J6 (rs:List Rch):∀j:List Int,((ja rs j).length:Int)=jJ rs j
 | []=>rfl
 | r::j=>by
  rw [xC,<- J6 rs j]
  unfold ja
  rw [aU,m6,aw]
  push_cast
  rfl
theorem G2 {n:Nat}(h:n<=100000):n<sizeLine:=bM h ⋯
theorem wV (rs:List Rch) (z:List Int) (j:Nat) (r:Int) (h:z[j]? = some r):ja rs (z.take (j+1))=ja rs (z.take j)++yi rs r.toNat:=by
 unfold ja
 rw [aQ,h,aq,List.flatten_append]
 congr 1
 show [yi rs r.toNat].flatten=_
 simp
theorem wq {rs:List Rch}(z:∀r∈rs,r.2.length<=100):∀j:List Int,(ja rs j).length<=100*j.length
 | []=>by unfold ja;simp
 | r::j=>by
  have a:=wq z j
  have h1:(yi rs r.toNat).length<=100:=by
   unfold yi
   rw [ak]
   cases e:rs[r.toNat]? with
   | none=>simp
   | some q=>exact z q (aA e)
  unfold ja at a ⊢
  rw [aU,m6,aw,b9]
  right
inductive spGround (K:ah) (vs:List V) (H:Hp) (Q:VK) (z_3:XK):Prop
 | mk (p a:Addr) (xs:List V) (rs:List Rch) (way:List Int) (_:vs=[.ref p,.ref a]) (_:H p=some (.lst xs)) (_:qj H xs rs) (_: ↥118) (_:H a=some (.lst (way.map V.int))) (_:(∀r∈way,0<=r/\r<rs.length)) (_:way.length<=100) (_:∀l H',H l=none->H' l=some (.lst ((ja rs way).map V.int))->jk H H'->Q (.ref l) H')
theorem zn:FnScope ["_law_reaches_here","_law_road","_law_found","_law_reach","_law_height"] ["_law_reaches_here","_law_road"] (j7 vc):=by walk_at "s"
theorem V9 (F:Fun K "_law_ground" "_law_ground" vc f fd):FnOk P w K mg base CX0 1 f fd ["_law_reaches_here","_law_road"] (spGround K):=by
 refine F.ok zn (λY H Q E h=>?_) (λap A outer s H Y Q E O h=>?_)
 ·obtain ⟨p,a,xs,rs,b,rfl,_⟩:=h
  rfl
 ·obtain ⟨p,a,xs,rs,b,rfl,R,I,C,X,S,ac,k⟩:=h
  have ab:=I.length
  refine ⟨_,(j5 (jo 2 zn.nd (jD j2))
   (j5 (xf bp rfl (jT K (pv 1)) (jc (i:=3) zn.nd rfl (aP rfl)) (j9 (xf bp rfl (uP K (jm (qp K) (jm (jd K) (pv 0) (pv 3) (λ_ _=>rfl)) j4 (λ_ _=>rfl))) (jc (i:=4) zn.nd rfl (aP rfl)) (j9 (jX (zS K bK bI bJ qq (pv 2) (j0 (pv 4) j2)))))))
   (j9 (jj (pv 2))))),?_⟩
  left
  refine ⟨aN _,λl H1 n u s1=>?_⟩
  have J:=s1 _ _ X
  left
  refine ⟨⟨_,SqL.of J⟩,gh (K:=K) (a:=a) (xs:=b.map V.int) (λj σ H2=>∃x y:Option V,σ=[some (.ref p),some (.ref a),some (.ref l),x,y]/\H2 l=some (.lst ((ja rs (b.take j)).map V.int))/\Ext l H1 H2) ⟨_,_,rfl,u,Ext.refl⟩ ?_ ?_ ?_⟩
  ·rintro j σ H2 hj ⟨x,y,rfl,h2,m⟩
   exact SqL.of (m _ _ J (j1 X n))
  ·rintro j v σ H2 t ⟨x,y,rfl,h2,m⟩
   obtain ⟨r,rfl⟩:=vy t
   have L:b[j]? = some r:=by
    rw [ax] at t
    cases e:b[j]? with
    | none=>rw [e] at t;cases t
    | some y=>rw [e] at t;cases t;rfl
   have hj:j<b.length:=(List.getElem?_eq_some_iff.mp L).1
   have O:=S r (aA L)
   have hi:r.toNat<rs.length:=()
   obtain ⟨v,N,q,g,rfl,Z,T⟩:=(I.keep ((jq.same s1).trans (jq.lst m u))).at (aa hi)
   have al:=C _ (bQ hi)
   have an:=wq C (b.take j)
   have ae:(b.take j).length<=100:=by rw [aG];right
   left
   refine ⟨_,_,_,_,rfl,rfl,SqL.of (m _ _ (s1 _ _ R) (j1 R n)),qo O.1 N,?_⟩
   refine ⟨_,_,_,_,rfl,rfl,SqT.of Z,rfl,?_⟩
   refine ⟨g,rfl,⟨_,SqT.of T⟩,UH (K:=K) (a:=g) (xs:=(rs[r.toNat]'hi).2.map V.int) (λi σ G=>∃y:Option V,σ=[some (.ref p),some (.ref a),some (.ref l),some (.int r),y]/\G l=some (.lst ((ja rs (b.take j)++(rs[r.toNat]'hi).2.take i).map V.int))/\Ext l H2 G) ⟨_,rfl,?_,Ext.refl⟩ ?_ ?_ ?_⟩
   ·rw [eO,aJ];exact h2
   ·rintro i σ G am ⟨y,rfl,B,D⟩
    exact SqT.of (jq.lst D h2 _ _ T)
   ·rintro i v σ G d ⟨y,rfl,B,D⟩
    obtain ⟨z,rfl⟩:=vy d
    have M:(rs[r.toNat]'hi).2[i]? = some z:=by
     rw [ax] at d
     cases e:(rs[r.toNat]'hi).2[i]? with
     | none=>rw [e] at d;cases d
     | some y=>rw [e] at d;cases d;rfl
    left
    refine ⟨.inl ⟨rfl,_,SqL.of B⟩,?_⟩
    left
    refine ⟨l,_,_,rfl,rfl,B,?_,?_⟩
    ·rw [ag,aw,aG]
     exact G2 ()
    ·refine ⟨_,rfl,?_,D.trans Ext.put⟩
     rw [j6,aQ,M,<- iE,aq,aq,aq]
     rfl
   ·rintro σ G ⟨y,rfl,B,D⟩
    refine ⟨_,_,rfl,?_,m.trans D⟩
    rw [B,ag,aX,wV rs b j r L,Qn (aa hi)]
  ·rintro σ H2 ⟨x,y,rfl,h2,m⟩
   rw [ag,aX] at h2
   left
   exact k l H2 n h2 λc o U=>m _ _ (s1 _ _ U) (j1 U n)
inductive spWayOf (Pt C:Addr) (vs:List V) (H:Hp) (Q:VK) (E:XK):Prop
 | mk (p:Addr) (xs:List V) (rs:List Rch) (l:Int) (_:vs=[.ref p,.int l]) (_:H p=some (.lst xs)) (_:qj H xs rs) (_:xM rs) (_:rs.length<=60) (_:xb H Pt) (_:(∀t H' ws (i:Nat),l=i->i<ws.length->qm rs ws->H' t=some (.tup ((ws.getD i []).map V.int))->Ext Pt H H'->xb H' Pt->Q (.ref t) H')) (_:∀H',(l<0\/ ↥103<=l)->Ext Pt H H'->xb H' Pt->E (.ref C) none H')
theorem JD:FnScope ["reaches","lane","ways"] ["reaches","lane"] (j7 Ja):=by walk_at "s"
theorem YD (U:Nb2 mg) (z:mg "NoLane" = some (.ref C)) (j:dE K C [.type "ValueError",.type "Exception",.type "BaseException",.type "object"] "ValueError.__new__" = true) (G:Cal P w K mg base 5 "lanes" ["reaches"] (spLanes K Pt)) (F:Fun K "way_of" "way_of" Ja f fd):FnOk P w K mg base (CX1 P w) 6 f fd ["reaches","lane"] (spWayOf Pt C):=by
 refine Fun.okX F JD (λv H Q E h=>?_) (λN A outer s H v Q E x h=>?_)
 ·obtain ⟨p,xs,rs,l,rfl,_⟩:=h
  rfl
 ·obtain ⟨p,xs,rs,l,rfl,y,n,L,t,I,k,g⟩:=h
  refine ⟨_,(j5 (jo 2 JD.nd (je G (x.mono ⋯) rfl ↥42))
   (j5 (jV (xn (xj qA vg j4 (pv 1) (jb (jg K) rfl U.b_len aR ↥52))) ↥131 jw)
   (j9 (jj (jm (jd K) (pv 2) (pv 1) (λ_ _=>rfl)))))),?_⟩
  left
  refine ⟨p,xs,rs,rfl,y,n,L,t,I,λo H1 b ws R c m r d e=>?_⟩
  have B:b.length=ws.length:=m.length
  have M:(ws.length:Int)=↥103:=by rw [r.length]
  left
  refine qv (λJ=>?_) (λJ=>?_)
  ·left
   refine ⟨_,_,rfl,.inl (SqL.of c),?_⟩
   left
   refine zF (λh1=>?_) (λh1=>?_)
   ·left
    exact ⟨by show 1<=sizeLine;decide,g H1 (.inr ()) d e⟩
   ·have hi:l.toNat<b.length:=()
    obtain ⟨O,i,a,q,D⟩:=Paired.get m (aa hi)
    have u:l=(l.toNat:Int):=()
    left
    refine ⟨_,_,_,_,rfl,rfl,SqL.of c,(by rw [u];exact y3 (aa hi)),?_⟩
    rw [q]
    refine k a H1 ws l.toNat u () r ?_ d e
    rw [D,ak,i]
    rfl
  ·left
   refine ue ?_
   left
   exact ⟨by show 1<=sizeLine;decide,g H1 (.inl ()) d e⟩
inductive spHeights (Pt C:Addr) (vs:List V) (H:Hp) (Q:VK) (E:XK):Prop
 | mk (p:Addr) (xs:List V) (rs:List Rch) (l:Int) (_:vs=[.ref p,.int l]) (_:H p=some (.lst xs)) (_:qj H xs rs) (_:xM rs) (_:rs.length<=60) (_: ↥118) (_:xb H Pt) (_:(∀t H' ws (i:Nat),l=i->i<ws.length->qm rs ws->H t=none->H' t=some (.lst ((ja rs (ws.getD i [])).map V.int))->Ext Pt H H'->xb H' Pt->Q (.ref t) H')) (_:∀H',(l<0\/ ↥103<=l)->Ext Pt H H'->xb H' Pt->E (.ref C) none H')
theorem Zl:FnScope ["reaches","lane"] ["reaches","lane"] (j7 vT):=by walk_at "s"
theorem WN {ws:List (List Int)}(L:xM rs) (h:qm rs ws) {a:Nat}(j:a<ws.length):(∀r∈ws.getD a [],0<=r/\r<rs.length)/\(ws.getD a []).length<=rs.length:=by
 rw [ak,aa j]
 obtain ⟨x,b,e⟩:=h.mem (bQ j)
 show (∀r∈ws[a],_)/\ws[a].length<=_
 rw [e]
 exact ⟨zv L x (xP b),by have:=uQ L x (xP b);have:=xP b;right⟩
theorem xG {l:List Int}{j:Nat}(h:(l.map V.int)[j]? = some v):∃x,v = .int x/\l[j]? = some x:=by
 rw [ax] at h
 cases e:l[j]? with
 | none=>rw [e] at h;cases h
 | some y=>rw [e] at h;cases h;exact ⟨y,rfl,rfl⟩
theorem XE (T:xb H Pt) (e:Ext Pt H H') (j:xb H' Pt) (n:H' a=none):H a=none:=by
 cases q:H a with
 | none=>rfl
 | some o =>
  by_cases z:a=Pt
  ·obtain ⟨ps,h⟩:=j.ne
   rw [z,h] at n
   cases n
  ·have:=e _ _ q z
   rw [n] at this
   cases this
theorem Zg (nb:Nb2 mg) (G:CalX P w K mg base 6 "way_of" ["reaches","lane"] (spWayOf Pt C)) (F:Fun K "heights" "heights" vT f fd):FnOk P w K mg base (CX1 P w) 7 f fd ["reaches","lane"] (spHeights Pt C):=by
 refine Fun.okX F Zl ↥29 (λa5 A outer s H vs Q E hr h=>?_)
 ·obtain ⟨p,xs,rs,l,rfl,_⟩:=h
  rfl
 ·obtain ⟨p,xs,rs,l,rfl,hp,Y,L,a0,O,X,k,kx⟩:=h
  refine ⟨_,(j9 (jj (Ub (osc:=(j7 vT)) (ON:=["reaches","lane"]) (N:=["reach","height","reaches"]) (own:=2) (caps:=[0]) ⟨rfl,∅,∅,∅,rfl,∅⟩ rfl rfl rfl (uP K (xD G (hr.mono ⋯) qN rfl (j0 (pv 0) ↥34))) (λ_ _ _ _ _=>(jc (i:=0) (show aS (["reach","height","reaches"]:List Str) by decide +kernel) rfl (aP rfl))) ↥14 (λ_ _ _ _ _=>(uP K (jm (qp K) (jm (jd K) (pv 2) (pv 0) (λ_ _=>rfl)) j4 (λ_ _=>rfl)))) (λ_ _ _ _ _=>(jc (i:=1) (show aS (["reach","height","reaches"]:List Str) by decide +kernel) rfl (aP rfl))) ↥14 (λ_ _ _ _ _=>(pv 1))))),?_⟩
  obtain ⟨ps,ae⟩:=X.ne
  left
  refine ⟨p,xs,rs,l,rfl,hp,Y,L,a0,X,λt H1 ws i ei hi hR D B S=>?_,λH1 am B S=>kx H1 am B S⟩
  have ac:=B _ _ hp (jp hp ae ↥4)
  have al:qj H1 xs rs:=Y.keep (jq.tbl B ae)
  obtain ⟨an,a2⟩:=WN L hR hi
  have kk:=λt H'=>k t H' ws i ei hi hR
  generalize ws.getD i []=d at *
  left
  refine ⟨⟨_,SqT.of D⟩,λacc b=>?_⟩
  refine V7 (K:=K) (a:=t) (xs:=d.map V.int) (acc:=acc) (λj σ H2=>∃x y:Option V,σ=[x,y,some (.ref p)]/\H2 acc=some (.lst ((ja rs (d.take j)).map V.int))/\Ext acc H1 H2) ?_ ?_ ?_ ?_
  ·exact ⟨none,none,rfl,j6,Ext.put⟩
  ·rintro j σ H2 hj ⟨x,y,rfl,M,e⟩
   exact SqT.of (e _ _ D (j1 D b))
  ·rintro j v σ H2 hv ⟨x,y,rfl,M,e⟩
   obtain ⟨r,rfl,Z⟩:=xG hv
   have a4:=an r (aA Z)
   have m:r.toNat<rs.length:=()
   obtain ⟨v,as,q,g,rfl,ab,u⟩:=al.at (aa m)
   have aL:=e _ _ ac (j1 ac b)
   have hq:=e _ _ ab (j1 ab b)
   have gl:=wq O (d.take j)
   have jl:(d.take j).length<=60:=by rw [aG];right
   have I:=wV rs d j r Z
   have a1:yi rs r.toNat=(rs[r.toNat]'m).2:=by
    unfold yi
    rw [ak,aa m]
    rfl
   have U:=O _ (bQ m)
   rw [a1] at I
   generalize (rs[r.toNat]'m).2=hs at u I U
   left
   refine ⟨_,_,_,_,rfl,rfl,SqL.of aL,(by rw [show r=((r.toNat:Nat):Int) by right];exact y3 as),?_⟩
   refine ⟨_,_,_,_,rfl,rfl,SqT.of hq,rfl,?_⟩
   refine ⟨g,rfl,⟨_,SqT.of (e _ _ u (j1 u b))⟩,?_⟩
   refine WX (K:=K) (a:=g) (acc:=acc) (xs:=hs.map V.int) (λn σ T=>∃y:Option V,σ=[some (.int r),y,some (.ref p)]/\T acc=some (.lst ((ja rs (d.take j)++hs.take n).map V.int))/\Ext acc H1 T) ?_ ?_ ?_ ?_
   ·exact ⟨y,rfl,by rw [eO,aJ];exact M,e⟩
   ·rintro n σ T hn ⟨y,rfl,J,R⟩
    exact SqT.of (R _ _ u (j1 u b))
   ·rintro n v σ T ap ⟨y,rfl,J,R⟩
    obtain ⟨h,rfl,hh⟩:=xG ap
    have a3:=(List.getElem?_eq_some_iff.mp hh).1
    left
    refine ⟨_,J,by rw [ag,aw,aG];exact aT (show _<10000 by right) ⋯,some (.int h),rfl,?_,R.trans Ext.put⟩
    rw [j6,aQ,hh,c6,<- iE,aq (l₁:=ja rs (d.take j)++hs.take n)]
    rfl
   ·rintro σ T ⟨y,rfl,J,R⟩
    rw [ag,aX,<- I] at J
    exact ⟨_,_,rfl,J,R⟩
  ·rintro σ H2 ⟨x,y,rfl,M,e⟩
   rw [ag,aX] at M
   exact kk acc H2 (XE X B S b) M (λc o hc n=>e _ _ (B _ _ hc n) (λz=>by rw [z,XE X B S b] at hc;cases hc)) (S.extN b e)
noncomputable def wY (z Y G j U:Addr):List (Str×V):=jt "leaps" (.ref U) (jt "years" (.ref j) (jt "slopes" (.ref G) (jt "cycle" (.ref Y) (jt "valley" (.ref z) []))))
theorem uE (G j U z Y:Addr):(wY G j U z Y).lookup ("cycle" : Str)=some (.ref j):=by
 unfold wY
 rw [jC,if_neg ∅,jC,if_neg ∅,jC,if_neg ∅,jC,if_pos rfl]
theorem y9 (G Y j z U:Addr):(wY G Y j z U).lookup ("slopes" : Str)=some (.ref j):=by
 unfold wY
 rw [jC,if_neg ∅,jC,if_neg ∅,jC,if_pos rfl]
theorem yM (z Y G j U:Addr):(wY z Y G j U).lookup ("years" : Str)=some (.ref j):=by
 unfold wY
 rw [jC,if_neg ∅,jC,if_pos rfl]
theorem uD (G Y U z j:Addr):(wY G Y U z j).lookup ("leaps" : Str)=some (.ref j):=by
 unfold wY
 rw [jC,if_pos rfl]
theorem UN (z cy G j U:Addr) {m:Str}(h1:¬m = "leaps") (h2:¬m = "years") (h3:¬m = "slopes") (h4:¬m = "cycle") (Y:¬m = "valley"):(wY z cy G j U).lookup m=none:=by
 unfold wY
 rw [jC,if_neg h1,jC,if_neg h2,jC,if_neg h3,jC,if_neg h4,jC,if_neg Y]
 rfl
theorem qx {m:Str}(h:(¬m="leaps")/\(¬m="years")/\(¬m="slopes")/\(¬m="cycle")/\¬m="valley"):(wY z Y G j U).lookup m=none:=UN _ _ _ _ _ h.1 h.2.1 h.2.2.1 h.2.2.2.1 h.2.2.2.2
structure IceC (K:ah) (C:Addr):Prop where
 cl:Cls K C
 nV:zQ K C "valley"
 nC:zQ K C "cycle"
 nS:zQ K C "slopes"
 nY:zQ K C "years"
 nL:zQ K C "leaps"
structure IceG where
 dx:Addr
 va:Addr
 cy:Addr
 sl:Addr
 ye:Addr
 le:Addr
 xs:List V
 ys:List V
 zs:List V
 lds:List ↥56
 kvs:List (Key×V)
 rs:List Rch
 rows:List T3
 slopes:List (List Int)
structure IceAt (C:Addr) (H:Hp) (p:Addr) (g:IceG):Prop where
 ob:H p=some (.ins C g.dx (wY g.va g.cy g.sl g.ye g.le))
 va:H g.va=some (.lst g.xs)
 rs:qj H g.xs g.rs
 cy:H g.cy=some (.lst g.ys)
 rows:xo H g.ys g.rows
 sl:H g.sl=some (.lst g.zs)
 slopes:vm H g.zs g.slopes
 ye:H g.ye=some (.dK g.kvs)
 le:H g.le=some (.lst (g.lds.map λx=>V.ref x.1))
 lds:∀x∈g.lds,H x.1=some (.dK x.2)
theorem IceAt.same {p:Addr}(I:IceAt C H p g) (s:jk H H'):IceAt C H' p g :=
 ⟨s _ _ I.ob,s _ _ I.va,I.rs.keep (jq.same s),s _ _ I.cy,I.rows.imp λ_ _ q=>s _ _ q,s _ _ I.sl,Paired.mapP I.slopes λ_ _ ⟨a,e,q⟩=>⟨a,e,s _ _ q⟩,s _ _ I.ye,s _ _ I.le,λx b=>s _ _ (I.lds x b)⟩
theorem Qv (I:IceAt C H p g) {l:Int}(j:0<=l) (h1:l< ↥18):∃a,atI g.zs l=some (.ref a)/\H a=some (.lst ((g.slopes.getD l.toNat []).map V.int)):=by
 have d:g.zs.length=g.slopes.length:=aV I.slopes
 have hi:l.toNat<g.zs.length:=()
 obtain ⟨w,b,a,e,c⟩:=Paired.get I.slopes (aa hi)
 refine ⟨a,?_,?_⟩
 ·rw [show l=((l.toNat:Nat):Int) by right]
  refine y3 ?_
  rw [aa hi,e]
 ·rw [c,ak,b]
  rfl
theorem Zs {l:List Int}{n:Nat}(h:n<l.length):(l.map V.int)[n]? = some (V.int (l.getD n 0)):=by
 rw [ax,ak,aa h]
 rfl
theorem Vf:FnScope ["self"] ["self"] (j7 kQ):=by walk_at "s"
inductive spRowsI (C:Addr) (vs:List V) (H:Hp) (Q:VK) (z_3:XK):Prop
 | mk (p:Addr) (g:IceG) (_:vs=[.ref p]) (_:IceAt C H p g) (_:∀l H',H l=none->H' l=some (.lst g.ys)->jk H H'->Q (.ref l) H')
theorem Qy:FnScope ["self"] ["self"] (j7 vL):=by walk_at "s"
theorem Q6 (j:Nb2 mg) (T:IceC K C) (F:Fun K "rows" "Ice.rows" vL f fd):FnOk P w K mg base CX0 1 f fd ["self"] (spRowsI C):=by
 refine F.ok Qy (λb H Q E h=>?_) (λd A outer s H b Q E e h=>?_)
 ·obtain ⟨p,g,rfl,_⟩:=h
  rfl
 ·obtain ⟨p,g,rfl,I,k⟩:=h
  refine ⟨_,(j9 (jj (qC (qZ K) rfl j.b_list cf (j0 (xg K (pv 0)) j2)))),?_⟩
  left
  refine ⟨p,C,g.dx,_,_,rfl,I.ob,T.cl,T.nC,uE _ _ _ _ _,?_⟩
  left
  exact ⟨_,_,rfl,.inl (SqL.of I.cy),λl H1 c a s1=>k l H1 c a s1⟩
inductive spCheckLane (C CN:Addr) (vs:List V) (H:Hp) (Q:VK) (E:XK):Prop
 | mk (p:Addr) (g:IceG) (l:Int) (_:vs=[.ref p,.int l]) (_:IceAt C H p g) (_:(0<=l->l< ↥18->Q .non H)) (_: ↥45)
theorem uw:FnScope ["self","lane"] ["self","lane"] (j7 xT):=by walk_at "s"
theorem uz (U:Nb2 mg) (T:IceC K C) (z:mg "NoLane" = some (.ref G)) (j:dE K G [.type "ValueError",.type "Exception",.type "BaseException",.type "object"] "ValueError.__new__" = true) (F:Fun K "check_lane" "Ice.check_lane" xT f fd):FnOk P w K mg base (CX1 P w) 1 f fd ["self","lane"] (spCheckLane C G):=by
 refine Fun.okX F uw (λc H Q E h=>?_) (λe A outer s H c Q E i h=>?_)
 ·obtain ⟨p,g,l,rfl,_⟩:=h
  rfl
 ·obtain ⟨p,g,l,rfl,I,k,a⟩:=h
  have d:g.zs.length=g.slopes.length:=aV I.slopes
  refine ⟨_,(j9 (jV (xn (xj qA vg j4 (pv 1) (jb (jg K) rfl U.b_len aR (j0 (xg K (pv 0)) j2)))) ↥131 jw)),?_⟩
  left
  refine qv (λb=>?_) (λb=>?_)
  ·left
   refine ⟨p,C,g.dx,_,_,rfl,I.ob,T.cl,T.nS,y9 _ _ _ _ _,?_⟩
   left
   refine ⟨_,_,rfl,.inl (SqL.of I.sl),?_⟩
   rw [d]
   left
   refine zF (λh1=>?_) (λh1=>?_)
   ·left
    exact ⟨by show 1<=sizeLine;decide,a (.inr ())⟩
   ·left
    exact k b h1
  ·left
   refine ue ?_
   left
   exact ⟨by show 1<=sizeLine;decide,a (.inl ())⟩
inductive spCheckPlace (C CN CP:Addr) (vs:List V) (H:Hp) (Q:VK) (E:XK):Prop
 | mk (p:Addr) (g:IceG) (l n:Int) (_:vs=[.ref p,.int l,.int n]) (_:IceAt C H p g) (_:(0<=l->l< ↥18->0<=n->n< ↥68->Q .non H)) (_: ↥45) (_:(0<=l->l< ↥18->(n<0\/ ↥68<=n)->E (.ref CP) none H))
theorem ud:FnScope ["self","lane","place"] ["self","lane","place"] (j7 xK):=by walk_at "s"
theorem uc (nb:Nb2 mg) (T:IceC K C) (G:mg "NoPlace" = some (.ref Y)) (z:dE K Y [.type "ValueError",.type "Exception",.type "BaseException",.type "object"] "ValueError.__new__" = true) (U:Cls K C) (j:CalMX P w K mg base 1 C "check_lane" ["self","lane"] (spCheckLane C CN)) (F:Fun K "check_place" "Ice.check_place" xK f fd):FnOk P w K mg base (CX1 P w) 2 f fd ["self","lane","place"] (spCheckPlace C CN Y):=by
 refine Fun.okX F ud (λm H Q E h=>?_) (λu A outer s H m Q E q h=>?_)
 ·obtain ⟨p,g,l,n,rfl,_⟩:=h
  rfl
 ·obtain ⟨p,g,l,n,rfl,I,k,o,d⟩:=h
  refine ⟨_,(j5 (jX (zU (pv 0) U j (q.mono ⋯) qN ↥34))
   (j9 (jV (xn (xj qA vg j4 (pv 2) (jb (jg K) rfl nb.b_len aR (j0 ↥73 j2)))) (j9 (xV bP z G rfl zH rfl (j0 jr j2))) jw))),?_⟩
  left
  refine ⟨p,g.dx,_,rfl,I.ob,qx ∅,?_⟩
  left
  refine ⟨p,g,l,rfl,I,λc b=>?_,λr=>o r⟩
  obtain ⟨a,t,e⟩:=Qv I c b
  left
  refine qv (λi=>?_) (λi=>?_)
  ·left
   refine ⟨p,C,g.dx,_,_,rfl,I.ob,T.cl,T.nS,y9 _ _ _ _ _,?_⟩
   left
   refine ⟨_,_,_,_,rfl,rfl,SqL.of I.sl,t,?_⟩
   left
   refine ⟨_,_,rfl,.inl (SqL.of e),?_⟩
   rw [ag]
   left
   refine zF (λh1=>?_) (λh1=>?_)
   ·left
    exact ⟨by show 1<=sizeLine;decide,d c b (.inr ())⟩
   ·left
    exact k c b i h1
  ·left
   refine ue ?_
   left
   exact ⟨by show 1<=sizeLine;decide,d c b (.inl ())⟩
inductive spLengthI (C CN:Addr) (vs:List V) (H:Hp) (Q:VK) (E:XK):Prop
 | mk (p:Addr) (g:IceG) (l:Int) (_:vs=[.ref p,.int l]) (_:IceAt C H p g) (_:(0<=l->l< ↥18->Q (.int ↥68) H)) (_: ↥45)
theorem hX:FnScope ["self","lane"] ["self","lane"] (j7 yr):=by walk_at "s"
theorem kL (G:Nb2 mg) (T:IceC K C) (z:Cls K C) (j:CalMX P w K mg base 1 C "check_lane" ["self","lane"] (spCheckLane C U)) (F:Fun K "length" "Ice.length" yr f fd):FnOk P w K mg base (CX1 P w) 2 f fd ["self","lane"] (spLengthI C U):=by
 refine Fun.okX F hX (λe H Q E h=>?_) (λq A outer s H e Q E m h=>?_)
 ·obtain ⟨p,g,l,rfl,_⟩:=h
  rfl
 ·obtain ⟨p,g,l,rfl,I,k,i⟩:=h
  refine ⟨_,(j5 (jX (zU (pv 0) z j (m.mono ⋯) qN ↥34))
   (j9 (jj (jb (jg K) rfl G.b_len aR (j0 ↥73 j2))))),?_⟩
  left
  refine ⟨p,g.dx,_,rfl,I.ob,qx ∅,?_⟩
  left
  refine ⟨p,g,l,rfl,I,λc b=>?_,λn=>i n⟩
  obtain ⟨a,o,d⟩:=Qv I c b
  left
  refine ⟨p,C,g.dx,_,_,rfl,I.ob,T.cl,T.nS,y9 _ _ _ _ _,?_⟩
  left
  refine ⟨_,_,_,_,rfl,rfl,SqL.of I.sl,o,?_⟩
  left
  refine ⟨_,_,rfl,.inl (SqL.of d),?_⟩
  rw [ag]
  exact k c b
inductive spHeightI (C CN CP:Addr) (vs:List V) (H:Hp) (Q:VK) (E:XK):Prop
 | mk (p:Addr) (g:IceG) (l n:Int) (_:vs=[.ref p,.int l,.int n]) (_:IceAt C H p g) (_:(0<=l->l< ↥18->0<=n->n< ↥68->Q (.int ((g.slopes.getD l.toNat []).getD n.toNat 0)) H)) (_: ↥45) (_:(0<=l->l< ↥18->(n<0\/ ↥68<=n)->E (.ref CP) none H))
theorem kU:FnScope ["self","lane","place"] ["self","lane","place"] (j7 yk):=by walk_at "s"
theorem gP (Y:Nb2 mg) (T:IceC K C) (z:Cls K C) (j:CalMX P w K mg base 2 C "check_place" ["self","lane","place"] (spCheckPlace C U G)) (F:Fun K "height" "Ice.height" yk f fd):FnOk P w K mg base (CX1 P w) 3 f fd ["self","lane","place"] (spHeightI C U G):=by
 refine Fun.okX F kU (λi H Q E h=>?_) (λv A outer s H i Q E t h=>?_)
 ·obtain ⟨p,g,l,n,rfl,_⟩:=h
  rfl
 ·obtain ⟨p,g,l,n,rfl,I,k,r,q⟩:=h
  refine ⟨_,(j5 (jX (zU (pv 0) z j (t.mono ⋯) qN (j0 (pv 1) ↥52)))
   (j9 (jj (jm (jd K) ↥73 (pv 2) (λ_ _=>rfl))))),?_⟩
  left
  refine ⟨p,g.dx,_,rfl,I.ob,qx ∅,?_⟩
  left
  refine ⟨p,g,l,n,rfl,I,λc b o m=>?_,λd=>r d,λc b d=>q c b d⟩
  obtain ⟨a,u,e⟩:=Qv I c b
  left
  refine ⟨p,C,g.dx,_,_,rfl,I.ob,T.cl,T.nS,y9 _ _ _ _ _,?_⟩
  left
  refine ⟨_,_,_,_,rfl,rfl,SqL.of I.sl,u,?_⟩
  left
  refine ⟨_,_,_,_,rfl,rfl,SqL.of e,(by rw [show n=((n.toNat:Nat):Int) by right];exact y3 (Zs ())),?_⟩
  exact k c b o m
inductive spCheckRound (CR:Addr) (vs:List V) (H:Hp) (Q:VK) (E:XK):Prop
 | mk (p:Addr) (xs:List V) (ts:List T3) (_:vs=[.ref p]) (_:H p=some (.lst xs)) (_:xo H xs ts) (_:ts.length<=1000) (_:(∀H',gr ts=true->jk H H'->Q .non H')) (_:∀H',gr ts=false->jk H H'->E (.ref CR) none H')
theorem J8:FnScope ["rows"] ["rows"] (j7 yo):=by walk_at "s"
theorem J9 {CR:Addr}(U:Nb2 mg) (z:mg "BadRound" = some (.ref CR)) (j:dE K CR [.type "ValueError",.type "Exception",.type "BaseException",.type "object"] "ValueError.__new__" = true) (G:Cal P w K mg base 2 "is_round" ["rows"] (spRound K)) (F:Fun K "check_round" "check_round" yo f fd):FnOk P w K mg base (CX1 P w) 3 f fd ["rows"] (spCheckRound CR):=by
 refine Fun.okX F J8 (λc H Q E h=>?_) (λl A outer s H c Q E g h=>?_)
 ·obtain ⟨p,xs,ts,rfl,_⟩:=h
  rfl
 ·obtain ⟨p,xs,ts,rfl,i,b,a,k,d⟩:=h
  refine ⟨_,(j9 (jV (xn (zN (je G (g.mono ⋯) rfl ↥42))) ↥131 jw)),?_⟩
  left
  refine ⟨p,xs,ts,rfl,i,b,a,λH1 s1=>?_⟩
  cases e:gr ts with
  | true =>
   left
   exact k H1 e s1
  | false =>
   left
   exact ⟨by show 1<=sizeLine;decide,d H1 e s1⟩
noncomputable def Kp (p Pt:Addr) (H H':Hp):Prop:=∀c o,H c=some o->c≠p->c≠Pt->H' c=some o
theorem Kp.trans {p:Addr}(a:Kp p Pt H H1) (b:Kp p Pt H1 H2):Kp p Pt H H2:=λc o h n m=>b c o (a c o h n m) n m
theorem Kp.of_same {p:Addr}(s:jk H H'):Kp p Pt H H':=λc o h _ _=>s c o h
theorem Kp.of_ext {p:Addr}(s:Ext Pt H H'):Kp p Pt H H':=λc o h _ m=>s c o h m
theorem Kp.put {p:Addr}:Kp p Pt H (upd H p o):=λc _ h n _=>by rw [j8 n];exact h
theorem Kp.at {p:Addr}(k:Kp p Pt H H') (h:H a=some o) (z:H p=some u) (j:H Pt=some (.tbl ps)) (n:o≠u) (m:o≠.tbl ps):H' a=some o:=k _ _ h (jp h z n) (jp h j m)
theorem Kp.free {p:Addr}(k:Kp p Pt H H') (h:H' a=none) (G:H' p=some u) (j:H' Pt=some U):H a=none:=by
 cases e:H a with
 | none=>rfl
 | some o =>
  have:=k a o e (λz=>by rw [z,G] at h;cases h) (λz=>by rw [z,j] at h;cases h)
  rw [h] at this
  cases this
theorem uS {fs:List (Str×V)}(T:xb H Pt) (j:H p=some ↥126):xb (upd H p o) Pt:=by
 rcases T with h | ⟨c,h,h'⟩
 ·exact .inl (by rw [j8 (jp h j ↥4)];exact h)
 ·exact .inr ⟨c,by rw [j8 (jp h j ↥4)];exact h,by rw [j8 (jp h' j ↥4)];exact h'⟩
theorem jq.kp {p dx:Addr}{fs:List (Str×V)}(k:Kp p Pt H H') (G:H p=some ↥126) (j:H Pt=some (.tbl ps)):jq H H':=λ_ _ h=>k.at h G j ↥4 ↥4
theorem pm {α β:Type}{F:α->β->Prop}:∀{l₁:List α}{j:List β},cz F l₁ j->∀v∈l₁,∃w,F v w
 | _,_,.nil,v,h=>by cases h
 | _,_,.cons q r,v,h=>by
  rcases List.mem_cons.mp h with rfl | z
  ·exact ⟨_,q⟩
  ·exact pm r v z
theorem pmE {H H0:Hp}{a0:Addr}(r:cz (λv (w:List Int)=>∃a,v=V.ref a/\H a=some (.lst (w.map V.int))/\H0 a=none/\a≠a0) zs j):∀a,V.ref a∈zs->H0 a=none/\a≠a0:=λa h=>by
 obtain ⟨w,b,e,_,z⟩:=pm r _ h
 cases e
 exact z
structure IceNew (C Pt:Addr) (H H':Hp) (p:Addr) (g:IceG):Prop where
 at_:IceAt C H' p g
 keep:∀c o,H c=some o->c≠p->c≠Pt->H' c=some o
 va:H g.va=none
 cy:H g.cy=none
 sl:H g.sl=none
 ye:H g.ye=none
 le:H g.le=none
 zs:∀a,V.ref a∈g.zs->H a=none
 kvs:g.kvs=[]
 lds:∀x∈g.lds,H x.1=none/\x.2=[]
 ll:g.lds.length=g.slopes.length
 nd:(g.lds.map (·.1)).Nodup
 ny:∀x∈g.lds,x.1≠g.ye
 sl2:∃ws,qm g.rs ws/\g.slopes=ws.map (ja g.rs)
inductive spInit (C CV CR Pt:Addr) (vs:List V) (H:Hp) (Q:VK) (E:XK):Prop
 | mk (p dx r q:Addr) (xs ys:List V) (rs:List Rch) (ts:List T3) (_:vs=[.ref p,.ref r,.ref q]) (_:H p=some (.ins C dx [])) (_:H r=some (.lst xs)) (_:qj H xs rs) (_:H q=some (.lst ys)) (_:xo H ys ts) (_: ↥118) (_:rs.length<=60) (_:ts.length<=1000) (_:xb H Pt) (_:(∀H' g,yb rs=true->gr ts=true->IceNew C Pt H H' p g->g.rs=rs->g.rows=ts->g.xs=xs->g.ys=ys->xb H' Pt->Q .non H')) (_:(∀H',yb rs=false->Ext Pt H H'->xb H' Pt->E (.ref CV) none H')) (_:(∀H',yb rs=true->gr ts=false->Ext Pt H H'->xb H' Pt->E (.ref CR) none H'))
theorem wA:FnScope ["self","reaches","rows"] ["self","reaches","rows"] (j7 xi):=by walk_at "s"
theorem wx {f CR CN Pt:Addr}{fd:FuncData}(nb:Nb2 mg) (T:IceC K C) (Y:mg "BadValley" = some (.ref CV)) (U:dE K CV [.type "ValueError",.type "Exception",.type "BaseException",.type "object"] "ValueError.__new__" = true)
  (ab:Cal P w K mg base 6 "is_valley" ["reaches"] (spValley K Pt)) (G:CalX P w K mg base 3 "check_round" ["rows"] (spCheckRound CR)) (a8:Cal P w K mg base 5 "lanes" ["reaches"] (spLanes K Pt)) (al:Cal P w K mg base 7 "heights" ["reaches","lane"] (λvs H Q _=>spHeights Pt CN vs H Q E0))
  (F:Fun K "__init__" "Ice.__init__" xi f fd):FnOk P w K mg base (CX1 P w) 8 f fd ["self","reaches","rows"] (spInit C CV CR Pt):=by
 refine Fun.okX F wA ↥29 (λea A outer s H vs Q E hr h=>?_)
 ·obtain ⟨p,dx,r,q,xs,ys,rs,ts,rfl,_⟩:=h
  rfl
 ·obtain ⟨p,dx,r,q,xs,ys,rs,ts,rfl,hp,a4,ac,hq,cv,b1,a6,cd,hT,k,kv,kr⟩:=h
  obtain ⟨ps,g⟩:=hT.ne
  refine ⟨_,(j5 (jV (xn (zN (je ab (hr.mono ⋯) rfl ↥34))) (j9 (xV bP U Y rfl zH rfl (j0 jr j2))) jw)
   (j5 (jX (xD G (hr.mono ⋯) qN rfl ↥52))
   (j5 (uW K (pv 0) (qC (qZ K) rfl nb.b_list cf ↥34))
   (j5 (uW K (pv 0) (qC (qZ K) rfl nb.b_list cf ↥52))
   (j5 (uW K (pv 0) (jG (osc:=(j7 xi)) (ON:=["self","reaches","rows"]) (N:=["lane","reaches"]) (own:=1) (caps:=[1]) ⟨rfl,∅,∅,∅,rfl,∅⟩ rfl rfl rfl (jU rfl nb.b_range (j0 (jb (jg K) rfl nb.b_len aR (j0 (je a8 (hr.mono ⋯) rfl ↥34) j2)) j2)) (λ_ _ _ _ _=>(jc (i:=0) (show aS (["lane","reaches"]:List Str) by decide +kernel) rfl (aP rfl))) ↥14 (λ_ _ _ _ _=>(je al (hr.mono ⋯) rfl (j0 (pv 1) ↥42)))))
   (j5 (uW K (pv 0) yu)
   (j9 (uW K (pv 0) (jG (osc:=(j7 xi)) (ON:=["self","reaches","rows"]) (N:=["slope"]) (own:=1) (caps:=[]) ⟨rfl,∅,∅,∅,rfl,∅⟩ rfl rfl rfl (jT K (xg K (pv 0))) (λ_ _ _ _ _=>(jc (i:=0) (show aS (["slope"]:List Str) by decide +kernel) rfl (aP rfl))) ↥14 (λ_ _ _ _ _=>yu)))))))))),?_⟩
  left
  refine ⟨r,xs,rs,rfl,a4,ac,b1,a6,hT,λH1 X1 T1=>?_⟩
  cases eg:yb rs with
  | false =>
   left
   exact ⟨by show 1<=sizeLine;decide,kv H1 eg X1 T1⟩
  | true =>
   have am:∀{a:Addr} {o:HO},H a=some o->(∀ps,o≠.tbl ps)->H1 a=some o:=λ{a o} h n=>X1 _ _ h (jp h g (n _))
   have c4:=am hp ↥1
   have cL:=am a4 ↥1
   have c1:=am hq ↥1
   have dg:qj H1 xs rs:=ac.keep (jq.tbl X1 g)
   have bn:xo H1 ys ts:=cv.imp λa t e=>am e ↥1
   left
   refine ⟨q,ys,ts,rfl,c1,bn,cd,λH2 b2 Z=>?_,λH2 b2 Z=>kr H2 eg b2 (X1.trans (Ext.of_same Z)) (T1.same Z)⟩
   have L:xM rs:=qt (by unfold yb at eg;rw [bw,bw] at eg;exact eg.2.1)
   have k2:Kp p Pt H H2:=(Kp.of_ext X1).trans (Kp.of_same Z)
   have a5:=Z _ _ c4
   have T2:=T1.same Z
   left
   refine ⟨_,_,rfl,.inl (SqL.of (Z _ _ cL)),λva H3 bd cs s3=>?_⟩
   have bs:=s3 _ _ a5
   have dd:=T2.same s3
   have k3:=k2.trans (Kp.of_same s3)
   obtain ⟨_,b0⟩:=T2.ne
   have dt:=k2.free bd a5 b0
   left
   refine ⟨p,C,dx,_,rfl,bs,T.cl,T.nV,⋯,?_⟩
   have Ta:xb (upd H3 p ↥78) Pt:=uS dd bs
   have ka:=k3.trans (Kp.put (p:=p) (Pt:=Pt) (o:=HO.ins C dx (jt "valley" (V.ref va) [])))
   have pa:upd H3 p ↥78 p=some ↥78:=j6
   have a0:upd H3 p ↥78 va=some (HO.lst xs):=by rw [j8 (j1 a5 bd).symm];exact cs
   clear k2 k3 c4 cL c1 dg bn am X1 T1 Z a5 T2 s3 bs dd cs bd b0
   generalize upd H3 p ↥78=Ha at *
   obtain ⟨_,ap⟩:=Ta.ne
   have cr:va≠Pt:=jp a0 ap ↥4
   have aL:va≠p:=jp a0 pa ↥4
   left
   refine ⟨_,_,rfl,.inl (SqL.of (ka.at hq hp g ↥4 ↥4)),λcy H4 b4 dc s4=>?_⟩
   have br:=s4 _ _ pa
   have T4:=Ta.same s4
   have d0:=ka.free b4 pa ap
   left
   refine ⟨p,C,dx,_,rfl,br,T.cl,T.nC,bM (qh _ _ _) ⋯,?_⟩
   have kb:=(ka.trans (Kp.of_same s4)).trans (Kp.put (p:=p) (Pt:=Pt) (o:=HO.ins C dx (jt "cycle" (V.ref cy) (jt "valley" (V.ref va) []))))
   have Tb:xb (upd H4 p ↥23) Pt:=uS T4 br
   have pb:upd H4 p ↥23 p=some ↥23:=j6
   have cm:upd H4 p ↥23 va=some (HO.lst xs):=by rw [j8 aL];exact s4 _ _ a0
   have a7:upd H4 p ↥23 cy=some (HO.lst ys):=by rw [j8 (j1 pa b4).symm];exact dc
   clear ka Ta pa a0 s4 br T4 b4 dc ap
   generalize upd H4 p ↥23=Hb at *
   obtain ⟨_,an⟩:=Tb.ne
   have db:cy≠Pt:=jp a7 an ↥4
   have b3:cy≠p:=jp a7 pb ↥4
   have pP:p≠Pt:=jp pb an ↥4
   left
   refine ⟨r,xs,rs,rfl,kb.at a4 hp g ↥4 ↥4,ac.keep (jq.kp kb hp g),L,a6,Tb,λo H5 bl ws ho c9 hw hR X5 T5=>?_⟩
   left
   refine ⟨_,_,rfl,.inl (SqL.of c9),?_⟩
   have dk:bl.length=ws.length:=hw.length
   have d2:ws.length<=60:=by
    rw [hR.length]
    unfold ju
    exact aK (bz _ _) (by rw [bG];exact a6)
   refine ⟨(bl.length:Int),rfl,(),(),λacc b=>?_⟩
   obtain ⟨_,l⟩:=T5.ne
   have O:Kp p Pt H H5:=kb.trans (Kp.of_ext X5)
   have B:=X5 _ _ pb pP
   have a9:=X5 _ _ cm cr
   have b5:=X5 _ _ a7 db
   have a3:H5 r=some (.lst xs):=O.at a4 hp g ↥4 ↥4
   have bm:qj H5 xs rs:=ac.keep (jq.kp O hp g)
   have cb:Pt≠acc:=j1 l b
   refine qr (lo:=0) (n:=((bl.length:Int)).toNat) (acc:=acc) (λi σ j=>∃(x:Option V) (zs:List V),σ=[x,some (.ref r)]/\j acc=some (.lst zs)/\zs.length=i/\cz (λv (w:List Int)=>∃a,v=V.ref a/\j a=some (.lst (w.map V.int))/\H5 a=none/\a≠acc) zs ((ws.take i).map (ja rs))/\Kp acc Pt H5 j/\xb j Pt) ?_ ?_ ?_
   ·exact ⟨none,[],rfl,j6,rfl,.nil,Kp.put,T5.extN b Ext.put⟩
   ·rintro i σ j hi ⟨x,zs,rfl,h6,hz,r6,I,T6⟩
    obtain ⟨_,as⟩:=T6.ne
    have iw:i<ws.length:=()
    left
    refine ⟨r,xs,rs,_,rfl,I _ _ a3 (j1 a3 b) (jp a3 l ↥4),bm.keep (λa o h=>I _ _ h (j1 h b) (jp h l ↥4)),L,a6,b1,T6,λt H7 d1 i' ei d3 dT ht dD X7 T7=>?_,λH' hb _ _=>?_⟩
    ·obtain rfl:=hR.unique dT
     obtain rfl:i'=i:=()
     have h7:=X7 _ _ h6 cb.symm
     have ta:t≠acc:=(j1 h6 ht).symm
     have tP:t≠Pt:=(j1 as ht).symm
     refine ⟨zs,h7,jf (),some (.int (0+(i':Int))),zs++[.ref t],rfl,j6,by rw [aw,hz];rfl,?_,?_,?_⟩
     ·rw [qX (ja rs) ws i' (ws.getD i' []) (by rw [ak,aa iw];rfl)]
      refine cN (Paired.mapP r6 λv wy ⟨a,e,J,h0,na⟩=>⟨a,e,?_,h0,na⟩) ⟨t,rfl,by rw [j8 ta];exact dD,I.free ht h6 as,ta⟩
      rw [j8 na]
      exact X7 _ _ J (jp J as ↥4)
     ·exact (I.trans (Kp.of_ext X7)).trans Kp.put
     ·exact T7.ext h7 Ext.put
    ·have:=hR.length
     exact absurd hb ()
   ·rintro σ j ⟨x,zs,rfl,h6,hz,r6,I,T6⟩
    rw [b7,dk,aX] at r6
    have f6:=pmE r6
    have bq:=I _ _ B (j1 B b) pP
    have kc:Kp p Pt H (upd j p ↥132):=λc o h n m=>by
     rw [j8 n]
     have:=O c o h n m
     exact I _ _ this (j1 this b) m
    have b6:acc≠p:=(j1 B b).symm
    have dn:=O.free b B l
    have dp:∀a,V.ref a∈zs->H a=none:=λa z=>O.free (f6 a z).1 B l
    left
    refine ⟨p,C,dx,_,rfl,bq,T.cl,T.nS,bM (aK (qh _ _ _) (eP (qh _ _ _))) ⋯,?_⟩
    have Tc:xb (upd j p ↥132) Pt:=uS T6 bq
    have pc:upd j p ↥132 p=some ↥132:=j6
    have ci:upd j p ↥132 va=some (HO.lst xs):=by rw [j8 aL];exact I _ _ a9 (j1 a9 b) cr
    have da:upd j p ↥132 cy=some (HO.lst ys):=by rw [j8 b3];exact I _ _ b5 (j1 b5 b) db
    have ct:upd j p ↥132 acc=some (HO.lst zs):=by rw [j8 b6];exact h6
    have bk:vm (upd j p ↥132) zs (ws.map (ja rs)):=Paired.mapP r6 λv wy ⟨a,e,J,h0,na⟩=>⟨a,e,by rw [j8 (j1 B h0).symm];exact J⟩
    clear r6 f6 I T6 h6 bq O B a9 b5 a3 bm X5 T5 kb Tb pb cm a7 an cb b ho c9 hw l
    generalize upd j p ↥132=M at *
    left
    intro ye a2
    obtain ⟨_,bv⟩:=Tc.ne
    have dr:=kc.free a2 pc bv
    have ce:ye≠p:=(j1 pc a2).symm
    have s9:jk M (upd M ye (.dK [])):=jk.new a2
    left
    refine ⟨p,C,dx,_,rfl,s9 _ _ pc,T.cl,T.nY,bM (aK (qh _ _ _) (eP (aK (qh _ _ _) (eP (qh _ _ _))))) ⋯,?_⟩
    have D:∀c o,M c=some o->c≠p->↥17 c=some o:=λc o h n=>by rw [j8 n];exact s9 _ _ h
    have kd:Kp p Pt H ↥17:=(kc.trans (Kp.of_same s9)).trans Kp.put
    have Td:xb ↥17 Pt:=uS (Tc.same s9) (s9 _ _ pc)
    have pd: ↥17 p=some (HO.ins C dx (jt "years" (V.ref ye) ↥0)):=j6
    have ds:=D _ _ ci aL
    have dV:=D _ _ da b3
    have a1:=D _ _ ct b6
    have ch: ↥17 ye=some (.dK []):=by rw [j8 ce];exact j6
    have bi:vm ↥17 zs (ws.map (ja rs)):=Paired.mapP bk λv wy ⟨a,e,J⟩=>⟨a,e,D _ _ J (jp J pc ↥4)⟩
    clear D kc Tc pc ci da ct bk a2 bv s9
    generalize ↥17=Hd at *
    obtain ⟨_,bt⟩:=Td.ne
    left
    refine ⟨p,C,dx,_,_,rfl,pd,T.cl,T.nS,(by rw [jC,if_neg ∅,jC,if_pos rfl]),?_⟩
    left
    refine ⟨⟨_,SqL.of a1⟩,λle R=>?_⟩
    have dv:le≠p:=(j1 pd R).symm
    have dy:=kd.free R pd bt
    have zl:zs.length<=60:=()
    refine jO (K:=K) (a:=acc) (xs:=zs) (acc:=le) (λi σ He=>∃(x:Option V) (lds:List ↥56),σ=[x]/\He le=some (.lst (lds.map λx=>V.ref x.1))/\lds.length=i/\(∀x∈lds,He x.1=some (.dK x.2)/\x.2=[]/\Hd x.1=none/\x.1≠le)/\(lds.map (·.1)).Nodup/\Ext le Hd He) ?_ ?_ ?_ ?_
    ·exact ⟨none,[],rfl,j6,rfl,(λx z=>by cases z),lP,Ext.put⟩
    ·rintro i σ He hi ⟨x,lds,rfl,he,hl,X,nn,e⟩
     exact SqL.of (e _ _ a1 (j1 a1 R))
    ·rintro i v σ He hv ⟨x,lds,rfl,he,hl,X,nn,e⟩
     have hi:=(List.getElem?_eq_some_iff.mp hv).1
     left
     intro d ae
     have dl:d≠le:=(j1 he ae).symm
     refine ⟨_,(by rw [j8 (cF dl)];exact he),by rw [ag];exact jf (),some v,lds++[(d,[])],rfl,(by rw [j6,aq];rfl),(by rw [aw,hl];rfl),λy hy=>?_,?_,λc o hc n=>?_⟩
     ·rcases List.mem_append.mp hy with z | z
      ·obtain ⟨h1,h2,h3,h4⟩:=X y z
       exact ⟨by rw [j8 h4,j8 (j1 h1 ae)];exact h1,h2,h3,h4⟩
      ·obtain rfl:y=(d,[]):=by simpa using z
       exact ⟨by rw [j8 dl];exact j6,rfl,e.free ae dl,dl⟩
     ·rw [aq]
      refine kt nn λz=>?_
      obtain ⟨y,hy,ey⟩:=List.mem_map.mp z
      have:=(X y hy).1
      rw [ey,ae] at this
      cases this
     ·rw [j8 n,j8 (j1 (e c o hc n) ae)]
      exact e c o hc n
    ·rintro σ He ⟨x,lds,rfl,he,hl,X,nn,e⟩
     have c2:=e _ _ pd (j1 pd R)
     left
     refine ⟨p,C,dx,_,rfl,c2,T.cl,T.nL,bM (aK (qh _ _ _) (eP (aK (qh _ _ _) (eP (aK (qh _ _ _) (eP (qh _ _ _))))))) ⋯,?_⟩
     have u:∀c o,Hd c=some o->c≠p->upd He p (HO.ins C dx (jt "leaps" (V.ref le) (jt "years" (V.ref ye) ↥0))) c=some o:=λc o h n=>by rw [j8 n];exact e _ _ h (j1 h R)
     have kf:Kp p Pt H (upd He p (HO.ins C dx (jt "leaps" (V.ref le) (jt "years" (V.ref ye) ↥0)))):=λc o h n m=>u c o (kd c o h n m) n
     have dF:∀x∈lds,x.1≠p:=λx S=>(j1 pd (X x S).2.2.1).symm
     refine k _ { dx:=dx,va:=va,cy:=cy,sl:=acc,ye:=ye,le:=le,xs:=xs,ys:=ys,zs:=zs,lds:=lds,kvs:=[],rs:=rs,rows:=ts,slopes:=ws.map (ja rs) } eg b2 ⟨⟨j6,u _ _ ds aL,ac.keep (jq.kp kf hp g),u _ _ dV b3,cv.imp λa t e=>kf.at e hp g ↥4 ↥4,u _ _ a1 b6,Paired.mapP bi λv wy ⟨a,e,J⟩=>⟨a,e,u _ _ J (jp J pd ↥4)⟩,u _ _ ch ce,(by rw [j8 dv];exact he),λx S=>by rw [j8 (dF x S)];exact (X x S).1⟩,kf,dt,d0,dn,dr,dy,dp,rfl,λx S=>⟨kd.free (X x S).2.2.1 pd bt,(X x S).2.1⟩,hl.trans (aV bi),nn,λx S=>(j1 ch (X x S).2.2.1).symm,ws,hR,rfl⟩ rfl rfl rfl rfl (uS (Td.extN R e) c2)
inductive spCheckTold (CY:Addr) (vs:List V) (H:Hp) (Q:VK) (E:XK):Prop
 | mk (y:Int) (_:vs=[.int y]) (_:(0<=y->y<=99->Q .non H)/\(y<0\/99<y->E (.ref CY) none H))
theorem Jj:FnScope ["year"] ["year"] (j7 yY):=by walk_at "s"
theorem Jf (j:mg "LAST_TOLD" = some (.int 99 u0)) (G:mg "BadYear" = some (.ref U)) (z:dE K U [.type "ValueError",.type "Exception",.type "BaseException",.type "object"] "ValueError.__new__" = true) (F:Fun K "check_told" "check_told" yY f fd):FnOk P w K mg base (CX1 P w) 1 f fd ["year"] (spCheckTold U):=by
 refine Fun.okX F Jj (λc H Q E h=>?_) (λd A outer s H c Q E e h=>?_)
 ·obtain ⟨y,rfl,_⟩:=h
  rfl
 ·obtain ⟨y,rfl,k,a⟩:=h
  refine ⟨_,(j9 (jV (xn (xj qA qA j4 (pv 0) (qW (v:=V.int 99) rfl j ⟨_,rfl⟩))) (j9 (xV bP z G rfl zH rfl (j0 jr j2))) jw)),?_⟩
  left
  refine qv (λb=>?_) (λb=>?_)
  ·left
   refine zF (λh1=>?_) (λh1=>?_)
   ·left
    exact ⟨by show 1<=sizeLine;decide,a (.inr ())⟩
   ·left
    exact k b h1
  ·left
   refine ue ?_
   left
   exact ⟨by show 1<=sizeLine;decide,a (.inl ())⟩
theorem IceAt.years {p:Addr}{g:IceG}{kvs:List (Key×V)}(I:IceAt C H p g) (j:∀x∈g.lds,x.1≠g.ye) (e:Ext g.ye H H') (h:H' g.ye=some (.dK kvs)):IceAt C H' p { g with kvs:=kvs }:=by
 have f:∀{c:Addr} {o:HO},H c=some o->o≠.dK g.kvs->H' c=some o:=λh n=>e _ _ h (jp h I.ye n)
 exact ⟨f I.ob ↥4,f I.va ↥4,I.rs.keep λ_ _ q=>f q ↥4,f I.cy ↥4,I.rows.imp λ_ _ q=>f q ↥4,f I.sl ↥4,Paired.mapP I.slopes λv w ⟨a,d,q⟩=>⟨a,d,f q ↥4⟩,h,f I.le ↥4,λx b=>e _ _ (I.lds x b) (j x b)⟩
inductive spTell (C CY CW:Addr) (vs:List V) (H:Hp) (Q:VK) (E:XK):Prop
 | mk (p t:Addr) (g:IceG) (y:Int) (r:T3) (_:vs=[.ref p,.int y,.ref t]) (_:IceAt C H p g) (_:(∀x∈g.lds,x.1≠g.ye)) (_:H t=some (yS r)) (_:g.kvs.length<=1000) (_:(∀H',0<=y->y<=99->good r=true->Ext g.ye H H'->IceAt C H' p { g with kvs:=xk g.kvs (.inl y) (.ref t) }->Q .non H')) (_:(y<0\/99<y->E (.ref CY) none H)) (_:(0<=y->y<=99->good r=false->E (.ref CW) none H))
theorem Qz:FnScope ["self","year","row"] ["self","year","row"] (j7 vq):=by walk_at "s"
theorem Q7 (nb:Nb2 mg) (T:IceC K C) (z:mg "BadWeather" = some (.ref Y)) (j:dE K Y [.type "ValueError",.type "Exception",.type "BaseException",.type "object"] "ValueError.__new__" = true) (U:CalX P w K mg base 1 "check_told" ["year"] (spCheckTold CY)) (G:Cal P w K mg base 1 "is_weather" ["row"] spGood) (F:Fun K "tell" "Ice.tell" vq f fd):FnOk P w K mg base (CX1 P w) 2 f fd ["self","year","row"] (spTell C CY Y):=by
 refine Fun.okX F Qz (λd H Q E h=>?_) (λo A outer s H d Q E a h=>?_)
 ·obtain ⟨p,t,g,y,r,rfl,_⟩:=h
  rfl
 ·obtain ⟨p,t,g,y,r,rfl,I,l,i,m,k,e,kw⟩:=h
  refine ⟨_,(j5 (jX (xD U (a.mono ⋯) qN rfl ↥34))
   (j5 (jV (xn (zN (je G (a.mono ⋯) rfl ↥52))) ↥131 jw)
   (j9 (yJ (jM a) (xg K (pv 0)) (pv 1) (pv 2) rfl)))),?_⟩
  left
  refine ⟨λb h1=>?_,λn=>e n⟩
  left
  refine ⟨t,r,rfl,i,?_⟩
  cases c:good r with
  | false =>
   left
   exact ⟨by show 1<=sizeLine;decide,kw b h1 c⟩
  | true =>
   left
   refine ⟨p,C,g.dx,_,_,rfl,I.ob,T.cl,T.nY,yM _ _ _ _ _,?_⟩
   left
   refine ⟨g.ye,_,rfl,kE.k (k:=.inl y) I.ye (jf m),?_⟩
   exact k _ b h1 c Ext.put (I.years l Ext.put j6)
noncomputable def vA (l:List ↥56) (n:Nat) (kvs:List (Key×V)):List ↥56:=l.set n ((l.getD n (0,[])).1,kvs)
theorem Yc (l:List ↥56) (n:Nat) (kvs:List (Key×V)):(vA l n kvs).map (λx=>V.ref x.1)=l.map λx=>V.ref x.1:=by
 unfold vA
 rw [List.map_set]
 by_cases h:n<l.length
 ·rw [ak,aa h]
  refine iD λi=>?_
  rw [iG]
  by_cases e:n=i
  ·subst e
   rw [if_pos rfl,ag,if_pos h,ax,aa h]
   rfl
  ·rw [if_neg e]
 ·rw [List.set_eq_of_length_le (by rw [ag];right)]
theorem IceAt.leap {p:Addr}{g:IceG}{n:Nat}{a:Addr}{kvs:List (Key×V)}(I:IceAt C H p g) (j:g.lds[n]? = some (a,kvs)) (U:∀x∈g.lds,x.1≠g.ye) (G:(g.lds.map (·.1)).Nodup) (e:Ext a H H') (h:H' a=some (.dK kvs')):IceAt C H' p { g with lds:=vA g.lds n kvs' }:=by
 have l:=aA j
 have s:=I.lds _ l
 have f:∀{c:Addr} {o:HO},H c=some o->(∀z,o≠.dK z)->H' c=some o:=λh n=>e _ _ h (jp h s (n _))
 have A:n<g.lds.length:=(List.getElem?_eq_some_iff.mp j).1
 refine ⟨f I.ob ↥1,f I.va ↥1,I.rs.keep λ_ _ q=>f q ↥1,f I.cy ↥1,I.rows.imp λ_ _ q=>f q ↥1,f I.sl ↥1,Paired.mapP I.slopes λv w ⟨a,t,q⟩=>⟨a,t,f q ↥1⟩,e _ _ I.ye (λz=>U _ l z.symm),(by show H' g.le=_;rw [Yc];exact f I.le ↥1),λx r=>?_⟩
 have k:x∈vA g.lds n kvs':=r
 obtain ⟨i,hi,ex⟩:=List.mem_iff_getElem.mp k
 have u:i<g.lds.length:=by unfold vA at hi;rw [iZ] at hi;exact hi
 have b:(vA g.lds n kvs')[i]? = some x:=by rw [aa hi,ex]
 unfold vA at b
 rw [iG] at b
 by_cases d:n=i
 ·rw [if_pos d,if_pos ()] at b
  rw [<- aI b,ak,j]
  exact h
 ·rw [if_neg d] at b
  refine e _ _ (I.lds x (aA b)) λz=>d ?_
  have h1:(g.lds.map (·.1))[n]? = some a:=by rw [ax,j];rfl
  have h2:(g.lds.map (·.1))[i]? = some a:=by rw [ax,b,<- z];rfl
  have m:=(List.getElem?_eq_some_iff.mp h1).1
  have y:=(List.getElem?_eq_some_iff.mp h2).1
  exact (List.getElem?_inj m G).mp (h1.trans h2.symm)
inductive spSurge (C CN CY CS:Addr) (vs:List V) (H:Hp) (Q:VK) (E:XK):Prop
 | mk (p:Addr) (g:IceG) (l y m:Int) (_:vs=[.ref p,.int l,.int y,.int m]) (_:IceAt C H p g) (_:g.lds.length=g.slopes.length) (_:(∀x∈g.lds,x.1≠g.ye)) (_:(g.lds.map (·.1)).Nodup) (_:(∀x∈g.lds,x.2.length<=1000)) (_:(∀H' a kvs,0<=l->l< ↥18->0<=y->y<=99->1<=m->m<=9->g.lds[l.toNat]? = some (a,kvs)->Ext a H H'->IceAt C H' p { g with lds:=vA g.lds l.toNat (xk kvs (.inl y) (.int m)) }->Q .non H')) (_: ↥45) (_:(0<=l->l< ↥18->y<0\/99<y->E (.ref CY) none H)) (_:(0<=l->l< ↥18->0<=y->y<=99->m<1\/9<m->E (.ref CS) none H))
theorem Jm:FnScope ["self","lane","year","many"] ["self","lane","year","many"] (j7 yP):=by walk_at "s"
theorem Jl (nb:Nb2 mg) (T:IceC K C) (ab:Cls K C) (z:mg "GREATEST_SURGE" = some (.int 9 u0)) (Y:mg "BadSurge" = some (.ref CS)) (U:dE K CS [.type "ValueError",.type "Exception",.type "BaseException",.type "object"] "ValueError.__new__" = true) (j:CalMX P w K mg base 1 C "check_lane" ["self","lane"] (spCheckLane C CN)) (G:CalX P w K mg base 1 "check_told" ["year"] (spCheckTold CY)) (F:Fun K "surge" "Ice.surge" yP f fd):FnOk P w K mg base (CX1 P w) 2 f fd ["self","lane","year","many"] (spSurge C CN CY CS):=by
 refine Fun.okX F Jm (λq H Q E h=>?_) (λJ A outer s H q Q E c h=>?_)
 ·obtain ⟨p,g,l,y,m,rfl,_⟩:=h
  rfl
 ·obtain ⟨p,g,l,y,m,rfl,I,D,x,r,B,k,u,t,ks⟩:=h
  refine ⟨_,(j5 (jX (zU (pv 0) ab j (c.mono ⋯) qN ↥34))
   (j5 (jX (xD G (c.mono ⋯) qN rfl ↥52))
   (j5 (jV (xn (xj qA qA j4 (pv 3) (qW (v:=V.int 9) rfl z ⟨_,rfl⟩))) (j9 (xV bP U Y rfl zH rfl (j0 jr j2))) jw)
   (j9 (yJ (jM c) ↥73 (pv 2) (pv 3) rfl))))),?_⟩
  left
  refine ⟨p,g.dx,_,rfl,I.ob,qx ∅,?_⟩
  left
  refine ⟨p,g,l,rfl,I,λa b=>?_,λd=>u d⟩
  left
  refine ⟨λe h1=>?_,λd=>t a b d⟩
  have hi:l.toNat<g.lds.length:=()
  left
  refine qv (λn=>?_) (λn=>?_)
  ·left
   refine zF (λi=>?_) (λi=>?_)
   ·left
    exact ⟨by show 1<=sizeLine;decide,ks a b e h1 (.inr ())⟩
   ·left
    refine ⟨p,C,g.dx,_,_,rfl,I.ob,T.cl,T.nL,uD _ _ _ _ _,?_⟩
    left
    refine ⟨_,_,_,_,rfl,rfl,SqL.of I.le,qo a (v:=V.ref (g.lds[l.toNat]'hi).1) (by rw [ax,aa hi];rfl),?_⟩
    left
    have o:=I.lds _ (bQ hi)
    refine ⟨_,_,rfl,kE.k (k:=.inl y) o (jf (B _ (bQ hi))),?_⟩
    exact k _ _ _ a b e h1 n i (aa hi) Ext.put (I.leap (aa hi) x r Ext.put j6)
  ·left
   refine ue ?_
   left
   exact ⟨by show 1<=sizeLine;decide,ks a b e h1 (.inl ())⟩
noncomputable def kvI (q:Int×Int):Key×V:=(.inl q.1,.int q.2)
noncomputable def jR:List (Int×Int)->Int->Int
 | [],_=>0
 | q::r,y=>if q.1=y then q.2 else jR r y
theorem zg:∀(ns:List (Int×Int)) (y:Int),y∈ns.map (·.1)->qG (ns.map kvI) (.inl y)=some (.int (jR ns y))
 | [],y,h=>by cases h
 | q::r,y,h=>by
  rw [aU]
  unfold qG jR
  by_cases e:q.1=y
  ·subst e
   simp [kvI,ph]
  ·have h':y∈r.map (·.1):=by
    rcases List.mem_cons.mp h with z | z
    ·exact absurd z.symm e
    ·exact z
   have a:=zg r y h'
   unfold qG at a
   simp [kvI,ph,e] at a ⊢
   exact a
theorem Xe:∀(ns:List (Int×Int)),(↥82).Nodup->(↥82).map (λy=>(y,jR ns y))=ns
 | [],_=>rfl
 | q::r,a=>by
  rw [aU] at a ⊢
  obtain ⟨h1,h2⟩:=List.nodup_cons.mp a
  rw [aU]
  have e:jR (q::r) q.1=q.2:=by unfold jR;rw [if_pos rfl]
  rw [e]
  refine congrArg (q :: ·) ?_
  conv=>rhs;rw [<- Xe r h2]
  refine ez λy c=>?_
  have b:¬q.1=y:=λz=>h1 (z ▸ c)
  show (y,jR (q::r) y)=_
  conv=>lhs;unfold jR
  rw [if_neg b]
inductive spSurgesI (C CN:Addr) (vs:List V) (H:Hp) (Q:VK) (E:XK):Prop
 | mk (p:Addr) (g:IceG) (l:Int) (_:vs=[.ref p,.int l]) (_:IceAt C H p g) (_:g.lds.length=g.slopes.length) (_: ↥45) (_:(0<=l->l< ↥18->∃(a:Addr) (ns:List (Int×Int)),g.lds[l.toNat]? = some (a,ns.map kvI)/\ (↥82).Nodup/\ns.length<64 /\
  ∀o H' out (ms:List (Int×Int)),H o=none->H' o=some (.lst out)->cz (λv (m:Int×Int)=>∃b,v=V.ref b/\H' b=some (.tup [.int m.1,.int m.2])) out ms->jk H H'->ms.Perm ns->(↥111).Pairwise (· <= ·)->Q (.ref o) H'))
theorem gy:FnScope ["self","lane"] ["self","lane"] (j7 zo):=by walk_at "s"
theorem gj (nb:Nb2 mg) (T:IceC K C) (U:Cls K C) (j:CalMX P w K mg base 1 C "check_lane" ["self","lane"] (spCheckLane C CN)) (F:Fun K "surges" "Ice.surges" zo f fd):FnOk P w K mg base (CX1 P w) 2 f fd ["self","lane"] (spSurgesI C CN):=by
 refine Fun.okX F gy ↥29 (λap A outer s H vs Q E hr h=>?_)
 ·obtain ⟨p,g,l,rfl,_⟩:=h
  rfl
 ·obtain ⟨p,g,l,rfl,I,al,kx,k⟩:=h
  refine ⟨_,(j5 (jX (zU (pv 0) U j (hr.mono ⋯) qN ↥34))
   (j9 (jj (jG (osc:=(j7 zo)) (ON:=["self","lane"]) (N:=["year","lane","self"]) (own:=1) (caps:=[1,0]) ⟨rfl,∅,∅,∅,rfl,∅⟩ rfl rfl rfl (jT K (jb (wf K rfl) rfl nb.b_sorted nW (j0 ↥73 j2))) (λ_ _ _ _ _=>(jc (i:=0) (show aS (["year","lane","self"]:List Str) by decide +kernel) rfl (aP rfl))) ↥14 (λ_ _ _ _ _=>(qa (j0 (pv 0) (j0 (jy (jM hr) (jm (jd K) (xg K (pv 2)) (pv 1) (λ_ _=>rfl)) (pv 0) (λ_ _=>rfl)) j2)))))))),?_⟩
  left
  refine ⟨p,g.dx,_,rfl,I.ob,qx ∅,?_⟩
  left
  refine ⟨p,g,l,rfl,I,λl0 l1=>?_,λY=>kx Y⟩
  obtain ⟨a,r,Z,nd,O,k⟩:=k l0 l1
  have hi:=(List.getElem?_eq_some_iff.mp Z).1
  have hm:=I.lds _ (aA Z)
  have M:atI (g.lds.map λx=>V.ref x.1) l=some (.ref a):=qo l0 (by rw [ax,Z];rfl)
  left
  refine ⟨p,C,g.dx,_,_,rfl,I.ob,T.cl,T.nL,uD _ _ _ _ _,?_⟩
  left
  refine ⟨_,_,_,_,rfl,rfl,SqL.of I.le,M,?_⟩
  refine ⟨a,r.map kvI,r.map (·.1),rfl,hm,by rw [bW,bW];rfl,by rw [ag];exact O,λo H1 ks ho G s1 X hs=>?_⟩
  have am:ks.length<64:=by rw [X.length_eq,ag];exact O
  refine ⟨o,rfl,⟨_,SqL.of G⟩,λacc t=>?_⟩
  refine jO (K:=K) (a:=o) (xs:=ks.map V.int) (acc:=acc) (λi σ H2=>∃(x:Option V) (d:List V),σ=[x,some (.int l),some (.ref p)]/\H2 acc=some (.lst d)/\d.length=i/\cz (λv (m:Int×Int)=>∃b,v=V.ref b/\H2 b=some (.tup [.int m.1,.int m.2])) d ((ks.take i).map λy=>(y,jR r y))/\Ext acc H1 H2) ?_ ?_ ?_ ?_
  ·exact ⟨none,[],rfl,j6,rfl,.nil,Ext.put⟩
  ·rintro i σ H2 hi ⟨x,d,rfl,h2,R,D,B⟩
   exact SqL.of (B _ _ G (j1 G t))
  ·rintro i v σ H2 hv ⟨x,d,rfl,h2,R,D,B⟩
   obtain ⟨y,rfl,S⟩:=xG hv
   have an:=(List.getElem?_eq_some_iff.mp S).1
   have ac:y∈r.map (·.1):=X.mem_iff.mp (aA S)
   have J:jk H H2:=λc o u=>B _ _ (s1 _ _ u) (j1 (s1 _ _ u) t)
   have I2:=I.same J
   left
   refine ⟨p,C,g.dx,_,_,rfl,I2.ob,T.cl,T.nL,uD _ _ _ _ _,?_⟩
   left
   refine ⟨_,_,_,_,rfl,rfl,SqL.of I2.le,M,?_⟩
   left
   refine ⟨a,.int (jR r y),rfl,by rw [<- zg r y ac];exact qM.k (k:=.inl y) (J _ _ hm),?_⟩
   left
   refine ⟨by show 2<=sizeLine;decide,λb H3 Y ae L=>?_⟩
   have h3:=L _ _ h2
   have ab:b≠acc:=(j1 h2 Y).symm
   refine ⟨d,h3,jf (),some (.int y),d++[.ref b],rfl,j6,by rw [aw,R];rfl,?_,λc o u n=>by rw [j8 n];exact L _ _ (B c o u n)⟩
   rw [qX (λy=>(y,jR r y)) ks i y S]
   exact cN (Paired.mapP D λv m ⟨c,e,q⟩=>⟨c,e,by rw [j8 (jp (L _ _ q) h3 ↥4)];exact L _ _ q⟩) ⟨b,rfl,by rw [j8 ab];exact ae⟩
  ·rintro σ H2 ⟨x,d,rfl,h2,R,D,B⟩
   rw [ag,aX] at D
   have J:jk H H2:=λc o u=>B _ _ (s1 _ _ u) (j1 (s1 _ _ u) t)
   refine k acc H2 d _ (s1.free t) h2 D J ?_ ?_
   ·have:=X.map λy=>(y,jR r y)
    rw [Xe r nd] at this
    exact this
   ·rw [bW]
    have:((λx:Int×Int=>x.1) ∘ λy=>(y,jR r y))=id:=rfl
    rw [this,nZ]
    exact hs
noncomputable def ji (st ad:Int):List (Int×Int)->Int->Int
 | [],a=>if a-ad > st then a-ad else st
 | q::r,a=>if a-ad<q.1 then (if a-ad > st then a-ad else st) else ji q.1 (ad+q.2) r a
inductive spYear  (vs:List V) (H:Hp) (Q:VK) (z_3:XK):Prop
 | mk (L b:Addr) (_:vs=[.ref b]) (_:jY L H b) (_:∀(y:Int) (H':Hp),0<=y->y<=99->jY L H' b->Ext b H H'->Q (.int y) H')
theorem Xw:FnScope ["_law_box_here"] ["_law_box_here"] (j7 um):=by walk_at "s"
theorem UJ {v a b c:Int}(U:0<=v) (h1:v<5) (G:0<=a/\a<=99) (z:0<=b/\b<=99) (j:0<=c/\c<=99):∃n,atI [V.int a,V.int b,V.int c,V.int 99,V.int 0] v=some (V.int n)/\0<=n/\n<=99:=by
 have h:v=0\/v=1\/v=2\/v=3\/v=4:=()
 rcases h with rfl | rfl | rfl | rfl | rfl
 ·exact ⟨a,rfl,G.1,G.2⟩
 ·exact ⟨b,rfl,z.1,z.2⟩
 ·exact ⟨c,rfl,j.1,j.2⟩
 ·exact ⟨99,rfl,⋯,⋯⟩
 ·exact ⟨0,rfl,⋯,⋯⟩
theorem Wj (j:Cal P w K mg base 2 "_law_take" ["_law_box_here","_law_size"] spTakeL) (F:Fun K "_law_year" "_law_year" um f fd):FnOk P w K mg base CX0 3 f fd ["_law_box_here"] spYear:=by
 refine F.ok Xw (λo H Q E h=>?_) (λR A outer s H o Q E d h=>?_)
 ·obtain ⟨L,b,rfl,_⟩:=h
  rfl
 ·obtain ⟨L,b,rfl,B,k⟩:=h
  refine ⟨_,(j9 (jj (jm (jd K) (jD (j0 (je j (d.mono ⋯) rfl ↥15) (j0 (je j (d.mono ⋯) rfl ↥15) (j0 (je j (d.mono ⋯) rfl ↥15) (j0 j4 (j0 j4 j2)))))) (je j (d.mono ⋯) rfl ↥15) (λ_ _=>rfl)))),?_⟩
  left
  refine ⟨L,b,_,rfl,B,⟨⋯,⋯⟩,λr H1 v V O I=>?_⟩
  left
  refine ⟨L,b,_,rfl,O,⟨⋯,⋯⟩,λq H2 p2 U N G=>?_⟩
  left
  refine ⟨L,b,_,rfl,N,⟨⋯,⋯⟩,λp Y p3 T m D=>?_⟩
  left
  refine ⟨by show 5<=sizeLine;decide,λl X z g e=>?_⟩
  left
  refine ⟨L,b,_,rfl,m.same e,⟨⋯,⋯⟩,λS J u t M i=>?_⟩
  obtain ⟨n,C,y,x⟩:=UJ u t (a:=r) (b:=q) (c:=p) ⟨v,()⟩ ⟨p2,()⟩ ⟨p3,()⟩
  refine ⟨_,_,_,_,rfl,rfl,SqL.of (i _ _ g (m.ne z)),C,?_⟩
  exact k n J y x M ((((I.trans G).trans D).trans (Ext.of_same e)).trans i)
inductive spFar  (vs:List V) (H:Hp) (Q:VK) (z_3:XK):Prop
 | mk (L b:Addr) (_:vs=[.ref b]) (_:jY L H b) (_:∀(v:Int) (H':Hp),0<=v->v<10 ^ 40->jY L H' b->Ext b H H'->Q (.int v) H')
theorem Zh:FnScope ["_law_box_here"] ["_law_box_here"] (j7 wz):=by walk_at "s"
theorem Wn {v:Int}(a:0<=v) (b:v<4):∃n,atI [V.int 100,V.int (10 ^ 9),V.int (10 ^ 20),V.int (10 ^ 40-99)] v=some (V.int n)/\0<n/\n<=10 ^ 40:=by
 have h:v=0\/v=1\/v=2\/v=3:=()
 rcases h with rfl | rfl | rfl | rfl
 ·exact ⟨100,rfl,⋯,⋯⟩
 ·exact ⟨10 ^ 9,rfl,⋯,⋯⟩
 ·exact ⟨10 ^ 20,rfl,⋯,⋯⟩
 ·exact ⟨10 ^ 40-99,rfl,⋯,⋯⟩
theorem Gv (U:Nb2 mg) (j:Cal P w K mg base 2 "_law_take" ["_law_box_here","_law_size"] spTakeL) (F:Fun K "_law_far" "_law_far" wz f fd):FnOk P w K mg base CX0 3 f fd ["_law_box_here"] spFar:=by
 refine F.ok Zh (λm H Q E h=>?_) (λN A outer s H m Q E e h=>?_)
 ·obtain ⟨L,b,rfl,_⟩:=h
  rfl
 ·obtain ⟨L,b,rfl,B,k⟩:=h
  refine ⟨_,(j9 (jj (je j (e.mono ⋯) rfl (j0 (pv 0) (j0 (jm (jd K) (jD (j0 j4 (j0 (jh yp j4 j4) (j0 (jh yp j4 j4) (j0 (jh jN (jh yp j4 j4) j4) j2))))) (je j (e.mono ⋯) rfl ↥15) (λ_ _=>rfl)) j2))))),?_⟩
  left
  refine ⟨by show 4<=sizeLine;decide,λl H1 y g s1=>?_⟩
  left
  refine ⟨L,b,_,rfl,B.same s1,⟨⋯,⋯⟩,λv H2 r q J i=>?_⟩
  obtain ⟨n,C,u,t⟩:=Wn r q
  have x:l≠b:=B.ne y
  refine ⟨l,_,v,_,rfl,rfl,SqL.of (i _ _ g x),C,?_⟩
  left
  refine ⟨L,b,n,rfl,J,⟨u,Int.lt_of_le_of_lt t ⋯⟩,λp G a M I D=>?_⟩
  exact k p G a () I (λc o z d=>D _ _ (i _ _ (s1 _ _ z) d) d)
noncomputable def scK (p q j G z:Addr):List (Key×V):=[↥31,↥54,↥85,(.inr "grounds",.ref G),(.inr "leaps",.ref z)]
theorem xR {k:Key}{v:V}{r:List (Key×V)}:qG ((k,v)::r) k=some v:=by
 unfold qG
 rw [mR (p:=λb:Key×V=>decide (b.1=k)) (a:=(k,v)) (decide_eq_true rfl)]
 rfl
theorem jz {k j:Key}{v:V}{r:List (Key×V)}(h:j≠k):qG ((j,v)::r) k=qG r k:=by
 unfold qG
 rw [mS (p:=λb:Key×V=>decide (b.1=k)) (a:=(j,v)) (λz=>h (of_decide_eq_true z))]
theorem Zu (p q j G z:Addr):qG (scK p q j G z) (.inr "reaches")=some (.ref p):=xR
theorem Q0 (p q j G z:Addr):qG (scK p q j G z) (.inr "rows")=some (.ref q):=(jz (show ↥79≠bA (ao "rows") by decide +kernel)).trans (xR)
theorem yD (p q j G z:Addr):qG (scK p q j G z) (.inr "single")=some (.ref j):=(jz (show ↥79≠bA (ao "single") by decide +kernel)).trans ((jz (show (bA (ao "rows"):Key)≠bA (ao "single") by decide +kernel)).trans (xR))
theorem qI (p q z j G:Addr):qG (scK p q z j G) (.inr "grounds")=some (.ref j):=(↥125).trans ((↥97).trans ((↥90).trans (xR)))
theorem vw (p q z G j:Addr):qG (scK p q z G j) (.inr "leaps")=some (.ref j):=(jz (show ↥79≠bA (ao "leaps") by decide +kernel)).trans ((jz (show (bA (ao "rows"):Key)≠bA (ao "leaps") by decide +kernel)).trans ((jz (show (bA (ao "single"):Key)≠bA (ao "leaps") by decide +kernel)).trans ((jz (show (bA (ao "grounds"):Key)≠bA (ao "leaps") by decide +kernel)).trans (xR))))
noncomputable def FrM (M:Addr->Prop) (H H':Hp):Prop:=∀c o,H c=some o->H' c=some o\/(M c/\∃a kvs,o = .dK kvs/\H' c=some (.frz a (.dK kvs)))
theorem FrM.of_same (s:jk H H'):FrM M H H':=λc o h=>.inl (s c o h)
theorem FrM.trans (a:FrM M H H1) (b:FrM M H1 H2):FrM M H H2:=λc o h=>by
 rcases a c o h with h1 | ⟨m,d,kvs,e,h1⟩
 ·exact b c o h1
 ·rcases b c _ h1 with h2 | ⟨_,_,_,f,_⟩
  ·exact .inr ⟨m,d,kvs,e,h2⟩
  ·cases f
theorem FrM.at (f:FrM M H H') (h:H c=some o) (n:∀kvs,o≠.dK kvs):H' c=some o:=by
 rcases f c o h with h1 | ⟨_,a,kvs,e,_⟩
 ·exact h1
 ·exact absurd e (n kvs)
theorem FrM.rd (f:FrM M H H') {kvs:List (Key×V)}(h:Rd H c (.dK kvs)):Rd H' c (.dK kvs):=by
 rcases h with h | ⟨o,h⟩
 ·rcases f c _ h with h1 | ⟨_,a,b,e,h1⟩
  ·exact .inl h1
  ·cases e
   exact .inr ⟨a,h1⟩
 ·exact .inr ⟨o,f.at h ↥1⟩
noncomputable def js (ns:List (Int×Int)) (y:Int):Int:=((ns.filter λq=>decide (q.1<=y)).map (·.2)).sum
theorem yH:∀{ns:List (Int×Int)},(↥82).Nodup->∀{z:Int×Int},z∈ns->jR ns z.1=z.2
 | [],_,z,h=>by cases h
 | q::r,a,z,h=>by
  rw [aU] at a
  obtain ⟨h1,h2⟩:=List.nodup_cons.mp a
  unfold jR
  rcases List.mem_cons.mp h with e | e
  ·rw [e,if_pos rfl]
  ·have ne:¬q.1=z.1:=λw=>h1 (by rw [w];exact bg e)
   rw [if_neg ne]
   exact yH h2 e
theorem Q8 {ns:List (Int×Int)}{i:Nat}(h:(ns.map kvI)[i]? = some q):∃z,ns[i]? = some z/\q=kvI z:=by
 rw [ax] at h
 cases e:ns[i]? with
 | none=>rw [e] at h;cases h
 | some z=>rw [e] at h;cases h;exact ⟨z,rfl,rfl⟩
theorem JG {ns:List (Int×Int)}{y:Int}{H:Hp}{R:Hp->Prop}(h:H a=some (.frz o (.dK (ns.map kvI)))) (nd: (↥82).Nodup) (hl:ns.length<=100) (G:H acc=none)
  (ab:∀H',H' acc=some (.lst (((ns.filter λq=>decide (q.1<=y)).map (·.2)).map V.int))->jk H H'->R H') :
  ∃W:Nat->Nat->L2.St->Hp->Prop,(∃m,W 0 m [none,some (.ref a),some (.int y)] (upd H acc (.lst [])))/\∀i m σ' H',W i m σ' H' ->
   ((Itd a o (ns.map kvI)).stop i H'/\R H')\/((Itd a o (ns.map kvI)).go i H'/\∃Y:L2.St->Hp->Prop,↥40 /\
    ∀x H2,(Itd a o (ns.map kvI)).yld i H' x H2->vJ 0 x σ' H2 λU H3=>Xv (tOp (rI0 λi j=>V.bl (decide (i<=j))) (tVar 0) (tVar 2)) U H3 λok H4=>if ok=true then ZU (tVar 1) (tVar 0) U H4 λv H5=>∃ys,H5 acc=some (.lst ys)/\ys.length<sizeLine/\Y U (upd H5 acc ↥64) else Y U H4):=by
 refine wD (a:=a) (acc:=acc) (o:=o) (kvs:=ns.map kvI) (λi σ H'=>∃x:Option V,σ=[x,some (.ref a),some (.int y)]/\H' acc=some (.lst ((((ns.take i).filter λq=>decide (q.1<=y)).map (·.2)).map V.int))/\Ext acc H H') ⟨none,rfl,j6,Ext.put⟩ ?_ ?_ ?_
 ·rintro i σ H' hi ⟨x,rfl,d,b⟩
  exact b _ _ h (j1 h G)
 ·rintro i q σ H' n ⟨x,rfl,d,b⟩
  obtain ⟨z,e,rfl⟩:=Q8 n
  have g:=aA e
  have hi:i<ns.length:=(↥119).1
  have k:((((ns.take i).filter λq=>decide (q.1<=y)).map (·.2)).map V.int).length<=100:=by
   rw [ag,ag]
   exact aK (bz _ _) (by rw [aG];right)
  have p:=b _ _ h (j1 h G)
  show vJ 0 (V.int z.1) _ _ _
  left
  refine qv (λf=>?_) (λf=>?_)
  ·refine ⟨_,rfl,_,rfl,a,V.int z.2,rfl,?_,_,d,bM k ⋯,_,rfl,?_,b.trans Ext.put⟩
   ·have:=zg ns z.1 (bg g)
    rw [yH nd g] at this
    rw [<- this]
    exact .inl ⟨_,.inl z.1,.inr ⟨o,p⟩,rfl,rfl⟩
   ·rw [j6,aQ,e,c6,bu,bY (by rw [decide_eq_true f]),aq,aq]
    rfl
  ·refine ⟨_,rfl,?_,b⟩
   rw [aQ,e,c6,bu,cc (by rw [decide_eq_false f];exact ar),i0,aJ]
   exact d
 ·rintro σ H' ⟨x,rfl,d,b⟩
  rw [ag,aX] at d
  exact ab H' d λc u l=>b c u l (j1 l G)
inductive spRide  (vs:List V) (H:Hp) (Q:VK) (z_3:XK):Prop
 | mk (M:Addr->Prop) (sd p q sg gl ll a:Addr) (lds:List Addr) (l y:Int) (ns:List (Int×Int)) (_:vs=[.ref sd,.int l,.int y]) (_:H sd=some (.dK (scK p q sg gl ll))) (_:H ll=some (.lst (lds.map V.ref))) (_:0<=l) (_:lds[l.toNat]? = some a) (_:Rd H a (.dK (ns.map kvI))) (_:M a) (_:¬M sd) (_:ns.length<=100) (_: (↥82).Nodup) (_:(∀q∈ns,0<=q.2/\q.2<=9)) (_:∀H',FrM M H H'->Q (.int (y+js ns y)) H')
theorem wQ:FnScope ["_law_scene_here","_law_lane","_law_year_here","_law_leaps"] ["_law_scene_here","_law_lane","_law_year_here"] (j7 ve):=by walk_at "s"
theorem UF (U:Nb2 mg) (F:Fun K "_law_ride" "_law_ride" ve f fd):FnOk P w K mg base CX0 1 f fd ["_law_scene_here","_law_lane","_law_year_here"] spRide:=by
 refine F.ok wQ (λT H Q E h=>?_) (λac A outer s H T Q E O h=>?_)
 ·obtain ⟨M,r,p,q,D,S,x,a,I,l,y,t,rfl,_⟩:=h
  rfl
 ·obtain ⟨M,r,p,q,D,S,x,a,I,l,y,t,rfl,J,R,X,ha,L,hM,ab,g,G,h9,k⟩:=h
  refine ⟨_,(j5 (xa (i:=3) wQ.nd rfl (df rfl) (jm (jd K) (jy (jM O) (pv 0) jr (λ_ _=>rfl)) (pv 1) (λ_ _=>rfl)))
   (j9 (jj (jh jE (pv 2) (jb (kF K rfl) rfl U.b_sum fX (j0 (jG (osc:=(j7 ve)) (ON:=["_law_scene_here","_law_lane","_law_year_here","_law_leaps"]) (N:=["_law_when","_law_leaps","_law_year_here"]) (own:=1) (caps:=[3,2]) ⟨rfl,∅,∅,∅,rfl,∅⟩ rfl rfl rfl (uO (pv 3)) (λ_ _ _ _ _=>(jc (i:=0) (show aS (["_law_when","_law_leaps","_law_year_here"]:List Str) by decide +kernel) rfl (aP rfl))) (λ_ _ _ _ _=>(zw (jA qA (pv 0) (pv 2) (jF _)))) (λ_ _ _ _ _=>(jy (jM O) (pv 1) (pv 0) (λ_ _=>rfl)))) j2)))))),?_⟩
  left
  refine ⟨r,.ref x,rfl,by rw [<- vw p q D S x];exact qM.k (k:=.inr "leaps") J,?_⟩
  left
  refine ⟨_,_,_,_,rfl,rfl,SqL.of R,qo X (v:=V.ref a) (by rw [ax,ha];rfl),?_⟩
  left
  have m:∀(H1:Hp),FrM M H H1->∀acc H2,H2 acc=some (.lst (((t.filter λq=>decide (q.1<=y)).map (·.2)).map V.int))->jk H1 H2->vO [some (.ref r),some (.int l),some (.int y),some (.ref a)] H2 λxs H3=>cI_call_sum K (V.ref acc::xs) H3 λz H4=>rI0 (λi j=>V.int (i+j)) (V.int y) z H4 Q:=λH1 C acc H2 h2 d=>by
   refine ⟨acc,_,rfl,SqL.of h2,?_,λn Z=>?_,?_⟩
   ·rw [ag]
    exact aK (bz _ _) ()
   ·obtain ⟨z,Y,rfl⟩:=List.mem_map.mp Z
    have:=h9 z (List.mem_filter.mp Y).1
    exact ⟨this.1,pZ this.2 ⋯⟩
   ·exact ⟨_,_,rfl,rfl,k H2 (C.trans (FrM.of_same d))⟩
  rcases L with h | ⟨o,h⟩
  ·refine ⟨a,_,rfl,.inl ⟨h,λo acc b=>?_⟩⟩
   have C:FrM M H (upd H a (.frz o (.dK (t.map kvI)))):=λc u B=>by
    by_cases e:c=a
    ·subst e
     rw [h] at B
     cases B
     exact .inr ⟨hM,o,_,rfl,j6⟩
    ·exact .inl (by rw [j8 e];exact B)
   exact JG (a:=a) (o:=o) j6 G g b λH2 h2 d=>m _ C acc H2 h2 d
  ·refine ⟨a,_,rfl,.inr ⟨o,h,λacc b=>?_⟩⟩
   exact JG (a:=a) (o:=o) h G g b λH2 h2 d=>m _ (FrM.of_same (jk.refl H)) acc H2 h2 d
theorem YY (y:Int):js [] y=0:=rfl
theorem qc (q:Int×Int) (r:List (Int×Int)) (y:Int):js (q::r) y=(if q.1<=y then q.2 else 0)+js r y:=by
 unfold js
 rw [rR]
 by_cases h:q.1<=y
 ·rw [decide_eq_true h,if_pos rfl,if_pos h,aU,ee]
 ·rw [decide_eq_false h,if_neg ar,if_neg h,cS]
theorem xI {j:List (Int×Int)}(p:j.Perm ns) (y:Int):js j y=js ns y:=by
 induction p with
 | nil=>rfl
 | cons q _ c=>rw [qc,qc,c]
 | swap a b r=>rw [qc,qc,qc,qc];right
 | trans _ _ a b=>rw [a,b]
theorem wj {ns:List (Int×Int)}(h:∀q∈ns,0<=q.2) (y:Int):0<=js ns y:=by
 induction ns with
 | nil=>exact dm _
 | cons q r a =>
  rw [qc]
  have:=h q (aE ..)
  have:=a λz b=>h z (aC _ b)
  by_cases e:q.1<=y
  ·rw [if_pos e];right
  ·rw [if_neg e];right
noncomputable def qe (ns:List (Int×Int)):Int:=(ns.map (·.2)).sum
theorem Vw {ns:List (Int×Int)}(h:∀q∈ns,0<=q.2) (y:Int):js ns y<=qe ns:=by
 induction ns with
 | nil=>exact dm _
 | cons q r c =>
  rw [qc]
  have a:=h q (aE ..)
  have b:=c λz d=>h z (aC _ d)
  have e:qe (q::r)=q.2+qe r:=by unfold qe;rw [aU,ee]
  by_cases z:q.1<=y
  ·rw [if_pos z];right
  ·rw [if_neg z];right
theorem Zj {ns:List (Int×Int)}{y:Int}(h:∀q∈ns,y<q.1):js ns y=0:=by
 induction ns with
 | nil=>rfl
 | cons q r b =>
  have a:=h q (aE ..)
  rw [qc,if_neg (),b λz c=>h z (aC _ c)]
  rfl
theorem yF:∀(G:List (Int×Int)) (st ad j:Int),(∀q∈G,st<=q.1)->(G.map (·.1)).Pairwise (· <= ·)->st<=ji st ad G j
 | [],st,ad,j,_,_=>by unfold ji;split <;> right
 | q::r,st,ad,j,h,p=>by
  unfold ji
  have a:=h q (aE ..)
  rw [aU,i6] at p
  by_cases e:j-ad<q.1
  ·rw [if_pos e];split <;> right
  ·rw [if_neg e]
   have:=yF r q.1 (ad+q.2) j (λz b=>p.1 _ (bg b)) p.2
   right
theorem yC:∀(G:List (Int×Int)) (st ad j y:Int),(∀q∈G,st<=q.1/\0<=q.2)->(G.map (·.1)).Pairwise (· < ·)->st<=y->(j<=y+ad+js G y↔ji st ad G j<=y)
 | [],st,ad,j,y,_,_,k=>by rw [YY];unfold ji;split <;> right
 | q::r,st,ad,j,y,h,p,k=>by
  have a:=h q (aE ..)
  have i:∀z∈r,0<=z.2:=λz b=>(h z (aC _ b)).2
  rw [aU,i6] at p
  have d:∀z∈r,q.1<z.1:=λz b=>p.1 _ (bg b)
  have l:=wj i y
  rw [qc]
  unfold ji
  by_cases c:q.1<=y
  ·rw [if_pos c]
   by_cases e:j-ad<q.1
   ·rw [if_pos e];split <;> right
   ·rw [if_neg e]
    have f:=yC r q.1 (ad+q.2) j y (λz b=>⟨rf (d z b),i z b⟩) p.2 c
    constructor
    ·intro z;exact f.mp ()
    ·intro z;have:=f.mpr z;right
  ·rw [if_neg c,Zj λz b=>by have:=d z b;right]
   by_cases e:j-ad<q.1
   ·rw [if_pos e];split <;> right
   ·rw [if_neg e]
    have g:=yF r q.1 (ad+q.2) j (λz b=>rf (d z b)) (p.2.imp λh=>rf h)
    right
theorem qH:∀{l:List Int},l.Pairwise (· <= ·)->l.Nodup->l.Pairwise (· < ·)
 | [],_,_=>.nil
 | x::r,p,n=>by
  rw [i6] at p ⊢
  obtain ⟨c,b⟩:=List.nodup_cons.mp n
  refine ⟨λy a=>?_,qH p.2 b⟩
  have:=p.1 y a
  have:x≠y:=λe=>c (e ▸ a)
  right
theorem ZS (lo first gone:Int) (h1:lo<=first):∀n:Nat,(((aM n).map λi:Nat=>lo+(i:Int)).filter λy=>decide (first<=y/\y<gone))=(aM (min (gone-first) (lo+n-first)).toNat).map λi:Nat=>first+(i:Int)
 | 0=>by
  have:(min (gone-first) (lo+(0:Nat)-first)).toNat=0:=()
  rw [this]
  rfl
 | n+1=>by
  rw [bZ,aq,bu,ZS lo first gone h1 n]
  by_cases e:first<=lo+(n:Int)/\lo+(n:Int)<gone
  ·have a:(min (gone-first) (lo+((n+1:Nat):Int)-first)).toNat=(min (gone-first) (lo+(n:Int)-first)).toNat+1:=()
   have b:first+((min (gone-first) (lo+(n:Int)-first)).toNat:Int)=lo+(n:Int):=()
   rw [a,bZ,aq]
   show _++d9 _ [lo+(n:Int)]=_++[first+_]
   rw [b]
   congr 1
   show d9 _ [lo+(n:Int)]=_
   rw [bY (by rw [decide_eq_true e])]
   rfl
  ·have a:(min (gone-first) (lo+((n+1:Nat):Int)-first)).toNat=(min (gone-first) (lo+(n:Int)-first)).toNat:=()
   rw [a]
   show _++d9 _ [lo+(n:Int)]=_
   rw [cc (by rw [decide_eq_false e];exact ar),i0,aJ]
theorem V8 {ns j:List (Int×Int)}(p:j.Perm ns) (s:(j.map (·.1)).Pairwise (· <= ·)) (z: (↥82).Nodup) (h:∀q∈ns,0<=q.1/\0<=q.2) (one len:Int) (Y:1<=len) {lo hi:Int}(G:lo=max 0 (one-qe ns-2)) (U:hi=max 0 one+len+2) :
  (((aM (hi-lo).toNat).map λi:Nat=>lo+(i:Int)).filter λy=>decide ↥136) =
   (aM (ji 0 0 j (one+len)-ji 0 0 j one).toNat).map λi:Nat=>ji 0 0 j one+(i:Int):=by
 have h2:∀q∈ns,0<=q.2:=λq g=>(h q g).2
 have m:∀q∈j,0<=q.1/\0<=q.2:=λq g=>h q (p.mem_iff.mp g)
 have n:(j.map (·.1)).Nodup:=(p.map (·.1)).nodup_iff.mpr z
 have st:=qH s n
 have key:∀f y:Int,0<=y->(f<=y+js ns y↔ji 0 0 j f<=y):=λf y l=>by
  have:=yC j 0 0 f y m st l
  rw [xI p,lB] at this
  exact this
 have r:=yF j 0 0 one (λq g=>(m q g).1) s
 have u:=yF j 0 0 (one+len) (λq g=>(m q g).1) s
 have o:lo<=ji 0 0 j one:=by
  have a:=(key one (ji 0 0 j one) r).mpr (dm _)
  have b:=Vw h2 (ji 0 0 j one)
  right
 have t:ji 0 0 j (one+len)<=hi:=by
  have b:=wj h2 (max 0 (one+len))
  have a:=(key (one+len) (max 0 (one+len)) ()).mp ()
  right
 have e:((aM (hi-lo).toNat).map λi:Nat=>lo+(i:Int)).filter (λy=>decide ↥136) =
   ((aM (hi-lo).toNat).map λi:Nat=>lo+(i:Int)).filter (λy=>decide (ji 0 0 j one<=y/\y<ji 0 0 j (one+len))):=by
  refine rg λy l=>?_
  obtain ⟨i,_,rfl⟩:=List.mem_map.mp l
  have k:0<=lo+(i:Int):=()
  have a:=key one _ k
  have b:=key (one+len) _ k
  refine decide_eq_decide.mpr ?_
  constructor
  ·rintro ⟨c,d⟩
   refine ⟨a.mp (),?_⟩
   have:=mt b.mpr ()
   right
  ·rintro ⟨c,d⟩
   have w:=a.mpr c
   have v:=mt b.mp ()
   right
 rw [e,ZS _ _ _ o]
 congr 2
 have:lo+((hi-lo).toNat:Int)=max lo hi:=()
 right
noncomputable def wB (ns:List (Int×Int)) (one len:Int):List Int :=
 ((aM ((max 0 one+len+2)-max 0 (one-qe ns-2)).toNat).map λi:Nat=>max 0 (one-qe ns-2)+(i:Int)).filter λy=>decide ↥136
inductive spSpanL  (vs:List V) (H:Hp) (Q:VK) (z_3:XK):Prop
 | mk (M:Addr->Prop) (sd p q sg gl ll a:Addr) (lds:List Addr) (l one len:Int) (ns:List (Int×Int)) (_:vs=[.ref sd,.int l,.int one,.int len]) (_:H sd=some (.dK (scK p q sg gl ll))) (_:H ll=some (.lst (lds.map V.ref))) (_:0<=l) (_:lds[l.toNat]? = some a) (_:Rd H a (.dK (ns.map kvI))) (_:M a) (_:¬M sd) (_:ns.length<=100) (_: (↥82).Nodup) (_:(∀q∈ns,0<=q.2/\q.2<=9)) (_:1<=len) (_:len<=100) (_:(wB ns one len=[]->∀H',FrM M H H'->Q .non H')) (_:∀x y t H',(wB ns one len).head? = some x->(wB ns one len).getLast? = some y->FrM M H H'->H' t=some (.tup [.int x,.int y])->Q (.ref t) H')
theorem JM:∀(ns:List (Int×Int)),(∀q∈ns,0<=q.2/\q.2<=9)->qe ns<=9*ns.length
 | [],_=>dm _
 | q::r,h=>by
  have a:=h q (aE ..)
  have b:=JM r λz c=>h z (aC _ c)
  have e:qe (q::r)=q.2+qe r:=by unfold qe;rw [aU,ee]
  rw [e,b9]
  right
theorem FrM.put (f:FrM M H H') (n:H c=none):FrM M H (upd H' c o):=λd u a=>by
 have:d≠c:=λe=>by rw [e,n] at a;cases a
 rw [j8 this]
 exact f d u a
theorem FrM.no (f:FrM M H H') (n:H' c=none):H c=none:=by
 cases e:H c with
 | none=>rfl
 | some o =>
  rcases f c o e with h | ⟨_,_,_,_,h⟩
  ·rw [n] at h;cases h
  ·rw [n] at h;cases h
theorem zZ:FnScope ["_law_scene_here","_law_lane","_law_one","_law_length","_law_whole_here","_law_years","_law_year_here"] ["_law_scene_here","_law_lane","_law_one","_law_length"] (j7 vf):=by walk_at "s"
theorem kS {U:List Addr}{l:Int}{ns:List (Int×Int)}{H:Hp}{R:Hp->Prop}(Y:H sd=some (.dK (scK p q sg gl ll))) (ab:H ll=some (.lst (U.map V.ref))) (l0:0<=l) (ac:U[l.toNat]? = some a) (h:H a=some (.frz o (.dK (ns.map kvI)))) (nd: (↥82).Nodup) (hl:ns.length<=100) (j:H acc=none)
  (ae:∀H',H' acc=some (.lst ((ns.map (·.2)).map V.int))->jk H H'->R H') :
  ∃W:Nat->Nat->L2.St->Hp->Prop,(∃m,W 0 m [none,some (.int l),some (.ref sd)] (upd H acc (.lst [])))/\∀i m σ' H',W i m σ' H' ->
   ((Itd a o (ns.map kvI)).stop i H'/\R H')\/((Itd a o (ns.map kvI)).go i H'/\∃NX:L2.St->Hp->Prop,↥39 /\
    ∀x H2,(Itd a o (ns.map kvI)).yld i H' x H2->vJ 0 x σ' H2 λG H3=>WD G H3 λok H4=>if ok=true then ZU (tOp (rIxL K) (ZU (tVar 2) (tC (V.str (ao "leaps")))) (tVar 1)) (tVar 0) G H4 λv H5=>∃ys,H5 acc=some (.lst ys)/\ys.length<sizeLine/\NX G (upd H5 acc ↥64) else NX G H4):=by
 refine wD (a:=a) (acc:=acc) (o:=o) (kvs:=ns.map kvI) (λi σ H'=>∃x:Option V,σ=[x,some (.int l),some (.ref sd)]/\H' acc=some (.lst (((ns.take i).map (·.2)).map V.int))/\Ext acc H H') ⟨none,rfl,j6,Ext.put⟩ ?_ ?_ ?_
 ·rintro i σ H' hi ⟨x,rfl,d,b⟩
  exact b _ _ h (j1 h j)
 ·rintro i u σ H' r ⟨x,rfl,d,b⟩
  obtain ⟨z,e,rfl⟩:=Q8 r
  have f:=aA e
  have hi:i<ns.length:=(↥119).1
  have g:(((ns.take i).map (·.2)).map V.int).length<=100:=by
   rw [ag,ag,aG]
   right
  have s:=b _ _ h (j1 h j)
  show vJ 0 (V.int z.1) _ _ _
  left
  refine ⟨sd,.ref ll,rfl,by rw [<- vw p q sg gl ll];exact qM.k (k:=.inr "leaps") (b _ _ Y (j1 Y j)),?_⟩
  left
  refine ⟨_,_,_,_,rfl,rfl,SqL.of (b _ _ ab (j1 ab j)),qo l0 (v:=V.ref a) (by rw [ax,ac];rfl),?_⟩
  left
  refine ⟨a,V.int z.2,rfl,?_,_,d,bM g ⋯,_,rfl,?_,b.trans Ext.put⟩
  ·have:=zg ns z.1 (bg f)
   rw [yH nd f] at this
   rw [<- this]
   exact .inl ⟨_,.inl z.1,.inr ⟨o,s⟩,rfl,rfl⟩
  ·rw [j6,aQ,e,c6,aq,aq]
   rfl
 ·rintro σ H' ⟨x,rfl,d,b⟩
  rw [ag,aX] at d
  exact ae H' d λc u n=>b c u n (j1 n j)
theorem Uh (U:Nb2 mg) (G:Cal P w K mg base 1 "_law_ride" ["_law_scene_here","_law_lane","_law_year_here"] spRide) (F:Fun K "_law_span" "_law_span" vf f fd):FnOk P w K mg base CX0 2 f fd ["_law_scene_here","_law_lane","_law_one","_law_length"] spSpanL:=by
 refine F.ok zZ ↥29 (λa7 A outer s H vs Q E hr h=>?_)
 ·obtain ⟨M,j,p,q,O,T,L,a,ab,l,one,len,d,rfl,_⟩:=h
  rfl
 ·obtain ⟨M,j,p,q,O,T,L,a,ab,l,one,len,d,rfl,B,C,l0,ha,S,hM,J,I,nd,h9,a6,a5,kn,k⟩:=h
  refine ⟨_,(zp (jo 4 zZ.nd (jb (kF K rfl) rfl U.b_sum fX (j0 (jG (osc:=(j7 vf)) (ON:=["_law_scene_here","_law_lane","_law_one","_law_length","_law_whole_here","_law_years","_law_year_here"]) (N:=["_law_year_here","_law_lane","_law_scene_here"]) (own:=1) (caps:=[1,0]) ⟨rfl,∅,∅,∅,rfl,∅⟩ rfl rfl rfl (uO ↥99) (λ_ _ _ _ _=>(jc (i:=0) (show aS (["_law_year_here","_law_lane","_law_scene_here"]:List Str) by decide +kernel) rfl (aP rfl))) ↥14 (λ_ _ _ _ _=>(jy (jM hr) (jm (jd K) (jy (jM hr) (pv 2) jr (λ_ _=>rfl)) (pv 1) (λ_ _=>rfl)) (pv 0) (λ_ _=>rfl)))) j2)))
   (j5 (jo 5 zZ.nd (jD j2))
   (j5 (xf bp rfl (vX rfl U.b_range (j0 (jb (qO rfl) rfl U.b_max fg (j0 j4 (j0 (jh jN (jh jN (pv 2) (pv 4)) j4) j2))) (j0 (jh jE (jh jE (jb (qO rfl) rfl U.b_max fg (j0 j4 ↥52)) (pv 3)) j4) j2))) (jc (i:=6) zZ.nd rfl (aP rfl)) (j9 (jV (xj qA vg j4 (jh jN (je G (hr.mono ⋯) rfl (j0 (pv 0) (j0 (pv 1) (j0 (pv 6) j2)))) (pv 2)) (pv 3)) (j9 (jX (zS K bK bI bJ qq (pv 5) (j0 (pv 6) j2)))) jw)))
   (j5 (jV (jA xW (jb (jg K) rfl U.b_len aR (j0 (pv 5) j2)) j4 (jF _)) (j9 (jj ur)) jw)
   (j9 (jj (qa (j0 (jm (jd K) (pv 5) j4 (λ_ _=>rfl)) (j0 (jm (jd K) (pv 5) (vi zB j4) (λ_ _=>rfl)) j2))))))))),?_⟩
  refine ⟨λσ H1=>σ=[some (.ref j),some (.int l),some (.int one),some (.int len),some (.int (qe d)),none,none]/\FrM M H H1,?_,?_⟩
  ·left
   refine ⟨j,.ref L,rfl,by rw [<- vw p q O T L];exact qM.k (k:=.inr "leaps") B,?_⟩
   left
   refine ⟨_,_,_,_,rfl,rfl,SqL.of C,qo l0 (v:=V.ref a) (by rw [ax,ha];rfl),?_⟩
   have X:∀(H1:Hp),FrM M H H1->∀acc H2,H2 acc=some (.lst ((d.map (·.2)).map V.int))->jk H1 H2->cI_call_sum K [V.ref acc] H2 λz H3=>([some (.ref j),some (.int l),some (.int one),some (.int len),some z,none,none]:L2.St)=[some (.ref j),some (.int l),some (.int one),some (.int len),some (.int (qe d)),none,none]/\FrM M H H3:=λH1 g acc H2 h2 R=>by
    refine ⟨acc,_,rfl,SqL.of h2,by rw [ag];right,λn hn=>?_,rfl,g.trans (FrM.of_same R)⟩
    obtain ⟨z,hz,rfl⟩:=List.mem_map.mp hn
    have:=h9 z hz
    exact ⟨this.1,pZ this.2 ⋯⟩
   rcases S with h | ⟨o,h⟩
   ·refine ⟨a,_,rfl,.inl ⟨h,λo acc D=>?_⟩⟩
    have g:FrM M H (upd H a (.frz o (.dK (d.map kvI)))):=λc u hc=>by
     by_cases e:c=a
     ·subst e
      rw [h] at hc
      cases hc
      exact .inr ⟨hM,o,_,rfl,j6⟩
     ·exact .inl (by rw [j8 e];exact hc)
    exact kS (K:=K) (a:=a) (o:=o) (by rcases g _ _ B with z | ⟨z,_⟩;exact z;exact absurd z J) (g.at C ↥1) l0 ha j6 nd I D λH2 h2 R=>X _ g acc H2 h2 R
   ·refine ⟨a,_,rfl,.inr ⟨o,h,λacc D=>?_⟩⟩
    exact kS (K:=K) (a:=a) (o:=o) B C l0 ha h nd I D λH2 h2 R=>X _ (FrM.of_same (jk.refl H)) acc H2 h2 R
  rintro σ H1 ⟨rfl,g⟩
  have a3:H1 j=some (.dK (scK p q O T L)):=by
   rcases g _ _ B with z | ⟨z,_⟩
   ·exact z
   ·exact absurd z J
  have a4:=g.at C ↥1
  have a2:=g.rd S
  left
  refine ⟨aN _,λY H3 an al s3=>?_⟩
  left
  refine ⟨_,_,rfl,?_⟩
  left
  refine ⟨_,_,rfl,?_⟩
  left
  have a0:(if one-qe d-2 > 0 then one-qe d-2 else 0)=max 0 (one-qe d-2):=by split <;> right
  have a1:(if one > 0 then one else 0)+len+2=max 0 one+len+2:=by split <;> right
  refine ⟨_,_,rfl,?_⟩
  rw [a0,a1]
  refine qY (λi σ H2=>∃x:Option V,σ=[some (.ref j),some (.int l),some (.int one),some (.int len),some (.int (qe d)),some (.ref Y),x]/\FrM M H H2/\H2 Y=some (.lst ((↥49).map V.int))) ?_ ?_ ?_
  ·exact ⟨none,rfl,g.trans (FrM.of_same s3),al⟩
  ·rintro i σ H2 hi ⟨x,rfl,m,h2⟩
   have am:H2 j=some (.dK (scK p q O T L)):=by
    rcases m _ _ B with z | ⟨z,_⟩
    ·exact z
    ·exact absurd z J
   left
   refine ⟨M,j,p,q,O,T,L,a,ab,l,_,d,rfl,am,m.at C ↥1,l0,ha,m.rd S,hM,J,I,nd,h9,λH4 f4=>?_⟩
   have h4:=f4.at h2 ↥1
   left
   have step:∀b:Bool,(decide (0<=max 0 (one-qe d-2)+(i:Int)+js d (max 0 (one-qe d-2)+(i:Int))-one/\max 0 (one-qe d-2)+(i:Int)+js d (max 0 (one-qe d-2)+(i:Int))-one<len))=b ->
     (((aM (i+1)).map λi:Nat=>max 0 (one-qe d-2)+(i:Int)).filter λy=>decide (0<=y+js d y-one/\y+js d y-one<len))=↥49++(if b then [max 0 (one-qe d-2)+(i:Int)] else []):=λb hb=>by
    rw [bZ,aq,bu]
    congr 1
    show d9 _ [max 0 (one-qe d-2)+(i:Int)]=_
    rw [rR,hb]
    cases b <;> rfl
   have aL:((↥49).map V.int).length<=2000:=by
    rw [ag]
    refine aK (bz _ _) ?_
    rw [ag,bG]
    have:=JM d h9
    right
   have ap:H Y=none:=g.no an
   refine qv (λh1=>?_) (λh1=>?_)
   ·left
    refine qv (λh2=>?_) (λh2=>?_)
    ·left
     refine ⟨.inl ⟨rfl,_,SqL.of h4⟩,?_⟩
     left
     refine ⟨_,_,_,rfl,rfl,h4,bM aL ⋯,?_⟩
     refine ⟨_,rfl,(m.trans f4).put ap,?_⟩
     rw [j6,step true (decide_eq_true ⟨h1,h2⟩),aq]
     rfl
    ·left
     refine ⟨m.trans f4,?_⟩
     rw [step false (decide_eq_false λz=>h2 z.2)]
     simpa using h4
   ·left
    refine ⟨m.trans f4,?_⟩
    rw [step false (decide_eq_false λz=>h1 z.1)]
    simpa using h4
  ·rintro σ H2 ⟨x,rfl,m,h2⟩
   rw [show (((aM (max 0 one+len+2-max 0 (one-qe d-2)).toNat).map λi:Nat=>max 0 (one-qe d-2)+(i:Int)).filter λy=>decide (0<=y+js d y-one/\y+js d y-one<len))=wB d one len from rfl] at h2
   left
   refine ⟨Y,_,rfl,.inl (SqL.of h2),?_⟩
   left
   rw [ag]
   cases ey:wB d one len with
   | nil =>
    refine qv (λz=>?_) (λz=>absurd rfl z)
    exact kn ey H2 m
   | cons Z r =>
    refine qv (λz=>?_) (λz=>?_)
    ·rw [b9] at z
     have:=V.int.inj z
     right
    rw [ey] at h2
    left
    refine ⟨_,_,_,_,rfl,rfl,SqL.of h2,qo ⋯ (v:=V.int Z) rfl,?_⟩
    obtain ⟨ac,y1,e⟩:∃ac y1,Z::r=ac++[y1]:=⟨_,_,(List.dropLast_concat_getLast (List.cons_ne_nil Z r)).symm⟩
    have ae:=h2
    rw [e,aq] at ae
    left
    refine ⟨_,_,_,_,rfl,rfl,SqL.of ae,w9 _ _,?_⟩
    left
    refine ⟨by show 2<=sizeLine;decide,λt H5 ht as s5=>?_⟩
    exact k Z y1 t H5 (by rw [ey];rfl) (by rw [ey,e,List.getLast?_concat]) (m.trans (FrM.of_same s5)) as
theorem ZK {lo:Int}{n:Nat}(h:0<n):((aM n).map λi:Nat=>lo+(i:Int)).head? = some lo:=by
 obtain ⟨m,rfl⟩:∃m,n=m+1:=⟨n-1,()⟩
 rw [List.range_succ_eq_map]
 simp
theorem Zz {lo:Int}{n:Nat}(h:0<n):((aM n).map λi:Nat=>lo+(i:Int)).getLast? = some (lo+n-1):=by
 obtain ⟨m,rfl⟩:∃m,n=m+1:=⟨n-1,()⟩
 rw [bZ,aq]
 simp
 right
inductive spCheckAsked (CY:Addr) (vs:List V) (H:Hp) (Q:VK) (E:XK):Prop
 | mk (y:Int) (_:vs=[.int y]) (_:(0<=y->y<=10 ^ 40->Q .non H)/\(y<0\/10 ^ 40<y->E (.ref CY) none H))
theorem kH:FnScope ["year"] ["year"] (j7 yh):=by walk_at "s"
theorem gv (j:mg "LAST_ASKED" = some (.int 10000000000000000000000000000000000000000 u0)) (G:mg "BadYear" = some (.ref U)) (z:dE K U [.type "ValueError",.type "Exception",.type "BaseException",.type "object"] "ValueError.__new__" = true) (F:Fun K "check_asked" "check_asked" yh f fd):FnOk P w K mg base (CX1 P w) 1 f fd ["year"] (spCheckAsked U):=by
 refine Fun.okX F kH (λc H Q E h=>?_) (λd A outer s H c Q E e h=>?_)
 ·obtain ⟨y,rfl,_⟩:=h
  rfl
 ·obtain ⟨y,rfl,k,a⟩:=h
  refine ⟨_,(j9 (jV (xn (xj qA qA j4 (pv 0) (qW (v:=V.int 10000000000000000000000000000000000000000) rfl j ⟨_,rfl⟩))) (j9 (xV bP z G rfl zH rfl (j0 jr j2))) jw)),?_⟩
  left
  refine qv (λb=>?_) (λb=>?_)
  ·left
   refine zF (λh1=>?_) (λh1=>?_)
   ·left
    exact ⟨by show 1<=sizeLine;decide,a (.inr ())⟩
   ·left
    exact k b h1
  ·left
   refine ue ?_
   left
   exact ⟨by show 1<=sizeLine;decide,a (.inl ())⟩
noncomputable def Zy (g:IceG) (l:Int) (ns:List (Int×Int)):Prop:=0<=l/\l< ↥18/\(∃a,g.lds[l.toNat]? = some (a,ns.map kvI))/\ (↥82).Nodup/\ns.length<64/\∀q∈ns,0<=q.2/\q.2<=9
noncomputable def kvA (z:Int×Addr):Key×V:=(.inl z.1,.ref z.2)
noncomputable def zi {α:Type}(l:List (Int×α)) (y:Int) (a:α):List (Int×α):=if (l.any λz=>decide (z.1=y))=true then l.map (λz=>if z.1=y then (z.1,a) else z) else l++[(y,a)]
theorem kI {α:Type}(f:α->V) (l:List (Int×α)) (y:Int) (a:α):xk (l.map λz=>↥62) (.inl y) (f a)=(zi l y a).map λz=>↥62:=by
 have e:∀z:Int,decide ((eR z:Key)=eR y)=decide (z=y):=λz=>decide_eq_decide.mpr ⟨λh=>fD h,λh=>by rw [h]⟩
 have d:((l.map λz=>↥62).any λc=>decide (c.1=(eR y:Key)))=l.any λz=>decide (z.1=y):=by
  rw [List.any_map]
  congr 1
  funext z
  exact e z.1
 unfold xk zi
 rw [d]
 by_cases h:(l.any λz=>decide (z.1=y))=true
 ·rw [if_pos h,if_pos h,bW,bW]
  refine ez λz _=>?_
  show (if (eR z.1:Key)=eR y then _ else _)=_
  by_cases b:z.1=y
  ·rw [if_pos (by rw [b])]
   show _=(λz:Int×α=>↥62) (if z.1=y then (z.1,a) else z)
   rw [if_pos b]
  ·rw [if_neg (λw=>b (fD w))]
   show _=(λz:Int×α=>↥62) (if z.1=y then (z.1,a) else z)
   rw [if_neg b]
 ·rw [if_neg h,if_neg h,aq]
  rfl
theorem gG {α:Type}{l:List (Int×α)}{y:Int}{a:α}{z:Int×α}(h:z∈zi l y a):z∈l\/z=(y,a):=by
 unfold zi at h
 by_cases c:(l.any λz=>decide (z.1=y))=true
 ·rw [if_pos c] at h
  obtain ⟨u,b,e⟩:=List.mem_map.mp h
  by_cases q:u.1=y
  ·rw [if_pos q,q] at e
   exact .inr e.symm
  ·rw [if_neg q] at e
   exact .inl (e ▸ b)
 ·rw [if_neg c] at h
  rcases List.mem_append.mp h with q | q
  ·exact .inl q
  ·exact .inr (by simpa using q)
theorem uM {α:Type}(l:List (Int×α)) (y:Int) (a:α):(zi l y a).length<=l.length+1:=by
 unfold zi
 split
 ·rw [ag];right
 ·rw [aw];exact au _
theorem gz {α:Type}{l:List (Int×α)}{y:Int}{a:α}(h:(l.map (·.1)).Nodup):((zi l y a).map (·.1)).Nodup:=by
 unfold zi
 by_cases c:(l.any λz=>decide (z.1=y))=true
 ·rw [if_pos c,bW]
  have:(l.map ((λx=>x.1) ∘ λz=>if z.1=y then (z.1,a) else z))=l.map (·.1):=ez λz _=>by
   show (if z.1=y then (z.1,a) else z).1=z.1
   split <;> rfl
  rw [this]
  exact h
 ·rw [if_neg c,aq]
  refine kt h λz=>c ?_
  obtain ⟨u,b,e⟩:=List.mem_map.mp z
  exact List.any_eq_true.mpr ⟨u,b,decide_eq_true e⟩
structure ScN where
 p:Addr
 q:Addr
 sg:Addr
 gl:Addr
 ll:Addr
 xs:List V
 ys:List V
 zs:List V
 rs:List Rch
 ts:List T3
 ws:List (List Int)
 sk:List (Int×Addr)
 lds:List ↥121
structure ScAt (H:Hp) (sd:Addr) (c:ScN):Prop where
 sd:H sd=some (.dK (scK c.p c.q c.sg c.gl c.ll))
 p:H c.p=some (.lst c.xs)
 rv:qj H c.xs c.rs
 q:H c.q=some (.lst c.ys)
 r3:xo H c.ys c.ts
 gl:H c.gl=some (.lst c.zs)
 gi:vm H c.zs (c.ws.map (ja c.rs))
 ll:H c.ll=some (.lst (c.lds.map λx=>V.ref x.1))
 sg:Rd H c.sg (.dK (c.sk.map kvA))
 sk:∀z∈c.sk,∃t,H z.2=some (yS t)/\good t=true
 ld:∀x∈c.lds,Rd H x.1 (.dK (x.2.map kvI))
structure ScOk (b:Addr) (c:ScN):Prop where
 gr:Grown c.rs
 l1:1<=c.rs.length
 l8:c.rs.length<=8
 t1:1<=c.ts.length
 t2:c.ts.length<=12
 tg:c.ts.all good=true
 ro:qm c.rs c.ws
 ldl:c.lds.length=c.ws.length
 nd:(c.lds.map (·.1)).Nodup
 ns:∀x∈c.lds,x.1≠c.sg
 pb:c.p≠b
 qb:c.q≠b
 gb:c.gl≠b
 lb:c.ll≠b
 zb:V.ref b∉c.zs
 k1:(c.sk.map (·.1)).Nodup
 k2:∀z∈c.sk,0<=z.1/\z.1<=99
 k3:c.sk.length<=10
 m1:∀x∈c.lds,(x.2.map (·.1)).Nodup
 m2:∀x∈c.lds,∀z∈x.2,0<=z.1/\z.1<=99/\1<=z.2/\z.2<=9
 m3:∀x∈c.lds,x.2.length<=10
noncomputable def Fr3 (N M:Addr->Prop) (H H':Hp):Prop:=∀c o,H c=some o->¬N c->H' c=some o\/(M c/\∃a kvs,o = .dK kvs/\H' c=some (.frz a (.dK kvs)))
theorem Fr3.at {N:Addr->Prop}(f:Fr3 N M H H') (h:H c=some o) (n:¬N c) (d:∀kvs,o≠.dK kvs):H' c=some o:=by
 rcases f c o h n with h1 | ⟨_,a,kvs,e,_⟩
 ·exact h1
 ·exact absurd e (d kvs)
theorem Fr3.rd {N:Addr->Prop}(f:Fr3 N M H H') {kvs:List (Key×V)}(n:¬N c) (h:Rd H c (.dK kvs)):Rd H' c (.dK kvs):=by
 rcases h with h | ⟨o,h⟩
 ·rcases f c _ h n with h1 | ⟨_,a,b,e,h1⟩
  ·exact .inl h1
  ·cases e
   exact .inr ⟨a,h1⟩
 ·exact .inr ⟨o,f.at h n ↥1⟩
theorem pmM {α β:Type}{F G:α->β->Prop}:∀{l₁:List α}{j:List β},cz F l₁ j->(∀v∈l₁,∀w,F v w->G v w)->cz G l₁ j
 | _,_,.nil,_=>.nil
 | _,_,.cons q r,h=>.cons (h _ (aE ..) _ q) (pmM r λv a=>h v (aC _ a))
theorem ScAt.keep {N:Addr->Prop}{sd:Addr}{c:ScN}(S:ScAt H sd c) (f:Fr3 N M H H') (nT:∀a xs,H a=some (.tup xs)->¬N a) (j:¬N sd) (G:¬M sd) (np:¬N c.p) (Y:¬N c.q) (ng:¬N c.gl) (nl:¬N c.ll) (U:∀a,V.ref a∈c.zs->¬N a) (ns:¬N c.sg) (nd:∀x∈c.lds,¬N x.1):ScAt H' sd c:=by
 have t:∀a xs,H a=some (.tup xs)->H' a=some (.tup xs):=λa xs h=>f.at h (nT a xs h) ↥1
 refine ⟨?_,f.at S.p np ↥1,S.rv.keep t,f.at S.q Y ↥1,S.r3.imp λ_ _ h=>t _ _ h,f.at S.gl ng ↥1,pmM S.gi λv i w ⟨a,d,q⟩=>⟨a,d,f.at q (U a (d ▸ i)) ↥1⟩,f.at S.ll nl ↥1,f.rd ns S.sg,λz e=>?_,λx b=>f.rd (nd x b) (S.ld x b)⟩
 ·rcases f _ _ S.sd j with z | ⟨z,_⟩
  ·exact z
  ·exact absurd z G
 ·obtain ⟨u,k,g⟩:=S.sk z e
  exact ⟨u,t _ _ k,g⟩
theorem ScAt.same {sd:Addr}(S:ScAt H sd c) (s:jk H H'):ScAt H' sd c :=
 S.keep (N:=λ_=>False) (M:=λ_=>False) (λc o h _=>.inl (s c o h)) (λ_ _ _ z=>z) id id id id id id (λ_ _=>id) id (λ_ _=>id)
theorem ScAt.ext {b:Addr}{sd:Addr}(S:ScAt H sd c) (O:ScOk b c) (B:jY L H b) (e:Ext b H H'):ScAt H' sd c:=by
 obtain ⟨_,_,_,_,_,d,_⟩:=B
 have f:∀{a:Addr} {kvs:List (Key×V)},Rd H a (.dK kvs)->¬a=b:=λh z=>by
  rcases h with h | ⟨o,h⟩
  ·exact absurd z (jp h d ↥4)
  ·exact absurd z (jp h d ↥4)
 exact S.keep (N:=λa=>a=b) (M:=λ_=>False) (λc o h n=>.inl (e c o h n)) (λa xs h z=>absurd z (jp h d ↥4)) (jp S.sd d ↥4) id O.pb O.qb O.gb O.lb (λa h z=>O.zb (z ▸ h)) (f S.sg) λx g=>f (S.ld x g)
noncomputable def ScN.D (c:ScN) (a:Addr):Prop:=a=c.sg\/∃x∈c.lds,x.1=a
theorem WV {p q j U G:Addr}{α:Type}{f:α->V}{l:List (Int×α)}:scK p q j U G≠l.map λz=>↥62:=λz=>by
 cases l with
 | nil=>cases z
 | cons u r =>
  have:=congrArg (λl=>l.head?.map (·.1)) z
  cases this
theorem Y6 {H:Hp}{sd a p q j G ll:Addr}{α:Type}{f:α->V}{l:List (Int×α)}(h:H sd=some (.dK (scK p q j G ll))) (r:Rd H a (.dK (l.map λz=>↥62))):a≠sd:=λz=>by
 subst z
 rcases r with r | ⟨o,r⟩
 ·rw [r] at h
  have e:l.map (λz=>↥62)=scK p q j G ll:=by injection h with h;injection h
  exact WV e.symm
 ·rw [r] at h
  cases h
theorem ScAt.nD {sd:Addr}(S:ScAt H sd c):¬c.D sd:=λz=>by
 rcases z with z | ⟨x,a,e⟩
 ·exact Y6 (f:=V.ref) S.sd S.sg z.symm
 ·exact Y6 (f:=V.int) S.sd (S.ld x a) e
structure ScB (L b:Addr) (H H2:Hp) (sd:Addr) (c:ScN):Prop where
 S:ScAt H2 sd c
 O:ScOk b c
 r1:H2 c.sg=some (.dK (c.sk.map kvA))
 r2:∀x∈c.lds,H2 x.1=some (.dK (x.2.map kvI))
 B:jY L H2 b
 X:Ext b H H2
 f1:H c.sg=none
 f2:∀x∈c.lds,H x.1=none
theorem ScB.take {b:Addr}{j:Addr}(S:ScB L b H H2 j c) (B:jY L G b) (X:Ext b H2 G):ScB L b H G j c:=by
 have a:∃xs,H2 b=some (.lst xs):=by
  obtain ⟨_,_,_,_,_,a,_⟩:=S.B
  exact ⟨_,a⟩
 obtain ⟨_,a⟩:=a
 exact ⟨S.S.ext S.O S.B X,S.O,X _ _ S.r1 (jp S.r1 a ↥4),λx d=>X _ _ (S.r2 x d) (jp (S.r2 x d) a ↥4),B,S.X.trans X,S.f1,S.f2⟩
theorem ScB.same {b:Addr}{j:Addr}(S:ScB L b H H2 j c) (s:jk H2 z):ScB L b H z j c:=S.take (S.B.same s) (Ext.of_same s)
theorem zk (B:jY L j b) (e:Ext b j Hb):jq j Hb:=by
 obtain ⟨f,a,r,c,d,h1,_⟩:=B
 exact jq.lst e h1
theorem ScB.single {b:Addr}{G:Addr}{y:Int}(S:ScB L b H H2 G c) (Y:0<=y) (U:y<=99) (ht:H2 t=some (yS r)) (hg:good r=true) (hl:c.sk.length+1<=10) :
  ScB L b H (upd H2 c.sg (.dK (xk (c.sk.map kvA) (.inl y) (.ref t)))) G { c with sk:=zi c.sk y t }:=by
 have e:xk (c.sk.map kvA) (.inl y) (.ref t)=(zi c.sk y t).map kvA:=kI V.ref c.sk y t
 rw [e]
 have i:∀{a:Addr} {o:HO},H2 a=some o->(∀kvs,o≠.dK kvs)->(upd H2 c.sg (.dK ((zi c.sk y t).map kvA))) a=some o:=λh n=>by rw [j8 (jp h S.r1 (n _))];exact h
 have s:G≠c.sg:=(Y6 (f:=V.ref) S.S.sd S.S.sg).symm
 have k:∃xs,H2 b=some (.lst xs):=by
  obtain ⟨_,_,_,_,_,k,_⟩:=S.B
  exact ⟨_,k⟩
 obtain ⟨_,k⟩:=k
 have l:∃xs,H2 L=some (.lst xs):=by
  obtain ⟨_,_,_,_,_,_,_,l,_⟩:=S.B
  exact ⟨_,l⟩
 obtain ⟨_,l⟩:=l
 refine ⟨⟨by rw [j8 s];exact S.S.sd,i S.S.p ↥1,S.S.rv.keep λ_ _ h=>i h ↥1,i S.S.q ↥1,S.S.r3.imp λ_ _ h=>i h ↥1,i S.S.gl ↥1,pmM S.S.gi λv E w ⟨a,D,q⟩=>⟨a,D,i q ↥1⟩,i S.S.ll ↥1,.inl j6,λz m=>?_,λx j=>.inl (by rw [j8 (S.O.ns x j)];exact S.r2 x j)⟩,?_,j6,λx j=>by rw [j8 (S.O.ns x j)];exact S.r2 x j,S.B.put (jp S.r1 k ↥4) (jp S.r1 l ↥4),λd o A n=>?_,S.f1,S.f2⟩
 ·rcases gG m with z | z
  ·obtain ⟨u,C,g⟩:=S.S.sk _ z
   exact ⟨u,i C ↥1,g⟩
  ·subst z
   exact ⟨r,i ht ↥1,hg⟩
 ·have O:=S.O
  exact ⟨O.gr,O.l1,O.l8,O.t1,O.t2,O.tg,O.ro,O.ldl,O.nd,O.ns,O.pb,O.qb,O.gb,O.lb,O.zb,gz O.k1,λz m=>by
   rcases gG m with q | q
   ·exact O.k2 z q
   ·subst q;exact ⟨Y,U⟩,aK (uM _ _ _) hl,O.m1,O.m2,O.m3⟩
 ·rw [j8 (j1 A S.f1)]
  exact S.X d o A n
theorem wa {α β:Type}{l:List (α×β)}{n:Nat}{a:α}{u v:β}(j:(l.map (·.1)).Nodup) (U:l[n]? = some (a,u)) {x:α×β}(G:x∈l.set n (a,v)):x=(a,v)\/(x∈l/\x.1≠a):=by
 obtain ⟨i,hi,e⟩:=List.mem_iff_getElem.mp G
 have b:i<l.length:=by rw [iZ] at hi;exact hi
 obtain ⟨d,c⟩:=List.getElem?_eq_some_iff.mp U
 by_cases q:n=i
 ·subst q
  rw [List.getElem_set_self] at e
  exact .inl e.symm
 ·rw [List.getElem_set_ne q] at e
  refine .inr ⟨e ▸ bQ b,λz=>q ?_⟩
  have h1:(l.map (·.1))[n]'(by rw [ag];exact d)=(l.map (·.1))[i]'(by rw [ag];exact b):=by
   rw [eM,eM,c,e,z]
  rcases Nat.lt_trichotomy n i with g | g | g
  ·exact absurd h1 (List.pairwise_iff_getElem.mp j n i _ _ g)
  ·exact g
  ·exact absurd h1.symm (List.pairwise_iff_getElem.mp j i n _ _ g)
theorem Y1 {α β:Type}{l:List (α×β)}{n:Nat}{a:α}{u v:β}(j:l[n]? = some (a,u)):(l.set n (a,v)).map (·.1)=l.map (·.1):=by
 obtain ⟨b,c⟩:=List.getElem?_eq_some_iff.mp j
 rw [List.map_set]
 refine iD λi=>?_
 rw [iG]
 by_cases q:n=i
 ·subst q
  rw [if_pos rfl,if_pos (by rw [ag];exact b),ax,j]
  rfl
 ·rw [if_neg q]
theorem ScB.leap {b:Addr}{U a:Addr}{n:Nat}{y m:Int}{ns:List (Int×Int)}(S:ScB L b H H2 U c) (G:c.lds[n]? = some (a,ns)) (y0:0<=y) (Y:y<=99) (m0:1<=m) (m1:m<=9) (hl:ns.length+1<=10) :
  ScB L b H (upd H2 a (.dK (xk (ns.map kvI) (.inl y) (.int m)))) U { c with lds:=c.lds.set n (a,zi ns y m) }:=by
 have e:xk (ns.map kvI) (.inl y) (.int m)=(zi ns y m).map kvI:=kI V.int ns y m
 rw [e]
 have k:=aA G
 have t:=S.r2 _ k
 have j:∀{d:Addr} {o:HO},H2 d=some o->(∀kvs,o≠.dK kvs)->(upd H2 a (.dK ((zi ns y m).map kvI))) d=some o:=λh n=>by rw [j8 (jp h t (n _))];exact h
 have D:U≠a:=(Y6 (f:=V.int) S.S.sd (S.S.ld _ k)).symm
 have r:∃xs,H2 b=some (.lst xs):=by
  obtain ⟨_,_,_,_,_,r,_⟩:=S.B
  exact ⟨_,r⟩
 obtain ⟨_,r⟩:=r
 have s:∃xs,H2 L=some (.lst xs):=by
  obtain ⟨_,_,_,_,_,_,_,s,_⟩:=S.B
  exact ⟨_,s⟩
 obtain ⟨_,s⟩:=s
 have fs:=Y1 (v:=zi ns y m) G
 have I: (↥153).map (λx=>V.ref x.1)=c.lds.map λx=>V.ref x.1:=by
  have:=congrArg (List.map V.ref) fs
  rw [bW,bW] at this
  exact this
 have C:c.sg≠a:=(S.O.ns _ k).symm
 have r2:∀x∈c.lds.set n (a,zi ns y m),(upd H2 a (.dK ((zi ns y m).map kvI))) x.1=some (.dK (x.2.map kvI)):=λx i=>by
  rcases wa S.O.nd G i with z | ⟨z,w⟩
  ·subst z
   exact j6
  ·rw [j8 w]
   exact S.r2 x z
 have mem:∀x∈c.lds.set n (a,zi ns y m),∃l∈c.lds,l.1=x.1:=λx i=>by
  have:x.1∈ (↥153).map (·.1):=bg i
  rw [fs] at this
  exact List.mem_map.mp this
 have O:=S.O
 refine ⟨⟨by rw [j8 D];exact S.S.sd,j S.S.p ↥1,S.S.rv.keep λ_ _ h=>j h ↥1,j S.S.q ↥1,S.S.r3.imp λ_ _ h=>j h ↥1,j S.S.gl ↥1,pmM S.S.gi λv M w ⟨a,K,q⟩=>⟨a,K,j q ↥1⟩,?_,.inl (by show upd _ _ _ c.sg=_;rw [j8 C];exact S.r1),λz J=>?_,λx i=>.inl (r2 x i)⟩,⟨O.gr,O.l1,O.l8,O.t1,O.t2,O.tg,O.ro,?_,?_,?_,O.pb,O.qb,O.gb,O.lb,O.zb,O.k1,O.k2,O.k3,?_,?_,?_⟩,(by show upd _ _ _ c.sg=_;rw [j8 C];exact S.r1),r2,S.B.put (jp t r ↥4) (jp t s ↥4),λd o E n=>?_,S.f1,?_⟩
 ·show _=some (HO.lst ((↥153).map λx=>V.ref x.1))
  rw [I]
  exact j S.S.ll ↥1
 ·obtain ⟨u,A,g⟩:=S.S.sk _ J
  exact ⟨u,j A ↥1,g⟩
 ·show (↥153).length=_
  rw [iZ]
  exact O.ldl
 ·show ((↥153).map (·.1)).Nodup
  rw [fs]
  exact O.nd
 ·intro x i
  obtain ⟨l,h1,h2⟩:=mem x i
  rw [<- h2]
  exact O.ns l h1
 ·intro x i
  rcases wa S.O.nd G i with z | ⟨z,w⟩
  ·subst z;exact gz (O.m1 _ k)
  ·exact O.m1 x z
 ·intro x i
  rcases wa S.O.nd G i with z | ⟨z,w⟩
  ·subst z
   intro u A
   rcases gG A with q | q
   ·exact O.m2 _ k u q
   ·subst q;exact ⟨y0,Y,m0,m1⟩
  ·exact O.m2 x z
 ·intro x i
  rcases wa S.O.nd G i with z | ⟨z,w⟩
  ·subst z;exact aK (uM _ _ _) hl
  ·exact O.m3 x z
 ·rw [j8 (j1 E (S.f2 _ k))]
  exact S.X d o E n
 ·intro x i
  obtain ⟨l,h1,h2⟩:=mem x i
  rw [<- h2]
  exact S.f2 l h1
theorem put4 :xk (xA [] [↥31,↥54,↥85]) (.inr "grounds") (.ref z)=[(↥31:Key×V),↥54,↥85,(.inr "grounds",.ref z)]:=by
 have d:(xk [] (.inr "reaches") (.ref p):List (Key×V))=[↥31]:=yE _ vE
 have c:xk [(↥31:Key×V)] (.inr "rows") (.ref q)=[↥31,↥54]:=yE _ ((jz (show ↥79≠bA (ao "rows") by decide +kernel)).trans vE)
 have b:xk [(↥31:Key×V),↥54] (.inr "single") (.ref j)=[↥31,↥54,↥85]:=yE _ ((jz (show ↥79≠bA (ao "single") by decide +kernel)).trans ((jz (show (bA (ao "rows"):Key)≠bA (ao "single") by decide +kernel)).trans vE))
 have a:xk [(↥31:Key×V),↥54,↥85] (.inr "grounds") (.ref z)=[(↥31:Key×V),↥54,↥85,(.inr "grounds",.ref z)]:=yE _ ((↥125).trans ((↥97).trans ((↥90).trans vE)))
 have e:xA [] [(↥31:Key×V),↥54,↥85]=[↥31,↥54,↥85]:=by
  show xk (xk (xk ([]:List (Key×V)) (.inr "reaches") (.ref p)) (.inr "rows") (.ref q)) (.inr "single") (.ref j)=_
  rw [d,c,b]
 rw [e,a]
theorem put5 :xk [(↥31:Key×V),↥54,↥85,(.inr "grounds",.ref z)] (.inr "leaps") (.ref ll)=scK p q j z ll :=
 yE _ ((jz (show ↥79≠bA (ao "leaps") by decide +kernel)).trans ((jz (show (bA (ao "rows"):Key)≠bA (ao "leaps") by decide +kernel)).trans ((jz (show (bA (ao "single"):Key)≠bA (ao "leaps") by decide +kernel)).trans ((jz (show (bA (ao "grounds"):Key)≠bA (ao "leaps") by decide +kernel)).trans vE))))
theorem QL (p q z j:Addr):qG [(↥31:Key×V),↥54,(.inr "single",.ref z),(.inr "grounds",.ref j)] (.inr "grounds")=some (.ref j):=(↥125).trans ((↥97).trans ((↥90).trans xR))
theorem ZP {rs:List Rch}(G:Grown rs):∀r∈rs,r.2.length<=12:=λr a=>by
 obtain ⟨i,hi,e⟩:=List.mem_iff_getElem.mp a
 have:=JW G.ok (aa hi)
 rw [e] at this
 unfold okR at this
 rw [bw,bw] at this
 have:=of_decide_eq_true this.1.2
 right
theorem Uu {v:Int}(a:0<=v) (b:v<3):∃n,atI [V.int 1,V.int 4,V.int 9] v=some (V.int n)/\0<n/\n<=9:=by
 have h:v=0\/v=1\/v=2:=()
 rcases h with rfl | rfl | rfl
 ·exact ⟨1,rfl,(),()⟩
 ·exact ⟨4,rfl,(),()⟩
 ·exact ⟨9,rfl,(),()⟩
theorem UT {v:Int}(a:0<=v) (b:v<3):∃n,atI [V.int 1,V.int 3,V.int 7] v=some (V.int n)/\0<n/\n<=7:=by
 have h:v=0\/v=1\/v=2:=()
 rcases h with rfl | rfl | rfl
 ·exact ⟨1,rfl,(),()⟩
 ·exact ⟨3,rfl,(),()⟩
 ·exact ⟨7,rfl,(),()⟩
theorem GU {v:Int}(a:0<=v) (b:v<2):∃n,atI [V.int 2,V.int 9] v=some (V.int n)/\0<n/\n<=9:=by
 have h:v=0\/v=1:=()
 rcases h with rfl | rfl
 ·exact ⟨2,rfl,(),()⟩
 ·exact ⟨9,rfl,(),()⟩
theorem Jy (L:xM rs) (h:1<=rs.length):1<=(ju rs).length:=by
 have:(rs.length-1)∈ju rs:=by
  refine List.mem_filter.mpr ⟨List.mem_range.mpr (),?_⟩
  unfold jZ
  rw [decide_eq_false]
  ·rfl
  ·intro z
   have:=ZJ L z
   right
 exact iC this
inductive spScene  (vs:List V) (H:Hp) (Q:VK) (z_3:XK):Prop
 | mk (L b:Addr) (_:vs=[.ref b]) (_:jY L H b) (_:∀sd H' c,jY L H' b->Ext b H H'->ScAt H' sd c->ScOk b c->Q (.ref sd) H')
theorem xu:FnScope ["_law_box_here","_law_reaches_here","_law_scene_here","_law_turn","_law_lane"] ["_law_box_here"] (j7 zt):=by walk_at "s"
theorem Vo (nb:Nb2 mg) (j:Cal P w K mg base 2 "_law_take" ["_law_box_here","_law_size"] spTakeL) (Y:Cal P w K mg base 4 "_law_reaches" ["_law_box_here"] spReachesL) (ac:Cal P w K mg base 4 "_law_round" ["_law_box_here"] spRoundMade) (ab:Cal P w K mg base 1 "_law_ground" ["_law_reaches_here","_law_road"] (spGround K)) (ae:Cal P w K mg base 1 "_law_roads" ["_law_reaches_here"] (spRoadsL K)) (G:Cal P w K mg base 3 "_law_year" ["_law_box_here"] spYear) (U:Cal P w K mg base 3 "_law_weather" ["_law_box_here"] spWeather)
  (F:Fun K "_law_scene" "_law_scene" zt f fd):FnOk P w K mg base CX0 5 f fd ["_law_box_here"] spScene:=by
 refine F.ok xu ↥29 (λeg A outer s H vs Q E m h=>?_)
 ·obtain ⟨L,b,rfl,_⟩:=h
  rfl
 ·obtain ⟨L,b,rfl,B,k⟩:=h
  refine ⟨_,(j5 (xa (i:=1) xu.nd rfl (df rfl) (je Y (m.mono ⋯) rfl ↥42))
   (j5 (jo 2 xu.nd (UZ (gY jr (pv 1) (gY jr (je ac (m.mono ⋯) rfl ↥42) (gY jr yu Wp))) rfl rfl (λz=>by cases z) ⋯))
   (j5 (yJ (jM m) (pv 2) jr (jG (osc:=(j7 zt)) (ON:=["_law_box_here","_law_reaches_here","_law_scene_here","_law_turn","_law_lane"]) (N:=["_law_road","_law_reaches_here"]) (own:=1) (caps:=[1]) ⟨rfl,∅,∅,∅,rfl,∅⟩ rfl rfl rfl (jT K (je ae (m.mono ⋯) rfl ↥34)) (λ_ _ _ _ _=>(jc (i:=0) (show aS (["_law_road","_law_reaches_here"]:List Str) by decide +kernel) rfl (aP rfl))) ↥14 (λ_ _ _ _ _=>(je ab (m.mono ⋯) rfl (j0 (pv 1) ↥42)))) rfl)
   (zp (yJ (jM m) (pv 2) jr (jG (osc:=(j7 zt)) (ON:=["_law_box_here","_law_reaches_here","_law_scene_here","_law_turn","_law_lane"]) (N:=["_law_ground_here"]) (own:=1) (caps:=[]) ⟨rfl,∅,∅,∅,rfl,∅⟩ rfl rfl rfl (jT K ↥154) (λ_ _ _ _ _=>(jc (i:=0) (show aS (["_law_ground_here"]:List Str) by decide +kernel) rfl (aP rfl))) ↥14 (λ_ _ _ _ _=>yu)) rfl)
   (zp (xf bp rfl (jU rfl nb.b_range (j0 (je j (m.mono ⋯) rfl (j0 (pv 0) (j0 (jm (jd K) (jD ↥122) (je j (m.mono ⋯) rfl ↥15) (λ_ _=>rfl)) j2))) j2)) (jc (i:=3) xu.nd rfl (aP rfl)) (j9 (yJ (jM m) ↥154 (je G (m.mono ⋯) rfl ↥42) (je U (m.mono ⋯) rfl ↥42) rfl)))
   (j5 (xf bp rfl (jU rfl nb.b_range (j0 (je j (m.mono ⋯) rfl (j0 (pv 0) (j0 (jm (jd K) (jD ↥122) (je j (m.mono ⋯) rfl ↥15) (λ_ _=>rfl)) j2))) j2)) (jc (i:=3) xu.nd rfl (aP rfl)) (j5 (jo 4 xu.nd (je j (m.mono ⋯) rfl (j0 (pv 0) (j0 (jb (jg K) rfl nb.b_len aR (j0 ↥154 j2)) j2))))
   (j9 (yJ (jM m) (jm (jd K) ↥154 (pv 4) (λ_ _=>rfl)) (je G (m.mono ⋯) rfl ↥42) (jh jE j4 (je j (m.mono ⋯) rfl (j0 (pv 0) (j0 (jm (jd K) (jD (j0 j4 (j0 j4 j2))) (je j (m.mono ⋯) rfl ↥15) (λ_ _=>rfl)) j2)))) rfl))))
   (j9 (jj (pv 2))))))))),?_⟩
  left
  refine ⟨L,b,rfl,B,λp H1 xs rs B1 X1 hp bv r1 g1 l1 l8=>?_⟩
  have pb:p≠b:=B.ne hp
  left
  intro sd C
  have al:sd≠b:=B1.ne C
  have a3:H sd=none:=X1.free C al
  left
  have Ba:jY L (upd H1 sd (.dK [])) b:=B1.put al (B1.neL C)
  refine ⟨L,b,rfl,Ba,λq Hb ys ts Bb Xb hq bt bm a6 dc=>?_⟩
  have qb:q≠b:=Ba.ne hq
  have ct:q≠sd:=λz=>by rw [z,j6] at hq;cases hq
  have am:Hb sd=some (.dK []):=Xb _ _ j6 al
  have pB:Hb p=some (.lst xs):=Xb _ _ (by rw [j8 (j1 bv C)];exact bv) pb
  have rB:qj Hb xs rs:=(r1.keep (jq.same (jk.new C))).keep (zk Ba Xb)
  have XB:Ext b H Hb:=(X1.trans (Ext.new C)).trans Xb
  left
  intro g as
  have cm:g≠b:=Bb.ne as
  have cr:H g=none:=XB.free as cm
  have ap:g≠sd:=(j1 am as).symm
  left
  refine ⟨by rw [j8 ap.symm];exact am,[↥31,↥54,(.inr "single",.ref g)],rfl,by show 3<=15;decide,?_⟩
  have sC:jk Hb (upd Hb g (.dK [])):=jk.new as
  have nD:∀{a:Addr} {o:HO},Hb a=some o->a≠sd->↥5 a=some o:=λh n=>by rw [j8 n];exact sC _ _ h
  have dD: ↥5 sd=some (.dK (xA [] [↥31,↥54,(.inr "single",.ref g)])):=j6
  have pD:=nD pB (jp pB am ↥4)
  have rD:qj ↥5 xs rs:=rB.keep λ_ _ h=>nD h (jp h am ↥4)
  have qD:=nD bt ct
  have bq:xo ↥5 ys ts:=bm.imp λ_ _ h=>nD h (jp h am ↥4)
  have bl: ↥5 g=some (.dK []):=by rw [j8 ap];exact j6
  have BD:jY L ↥5 b:=(Bb.same sC).put al (B1.neL C)
  have XD:Ext b H ↥5:=λc o h n=>nD (XB c o h n) (j1 h a3)
  clear nD sC as am pB rB XB bt bm Bb Xb hq Ba
  generalize ↥5=Hd at *
  have Ld:=qt g1.ok
  left
  refine ⟨p,xs,rs,rfl,pD,rD,Ld,(),λl He br ws D J w1 hR s1=>?_⟩
  left
  refine ⟨⟨_,SqL.of J⟩,λgl M=>?_⟩
  have a8:br.length=ws.length:=aV w1
  have db:ws.length<=6:=by rw [hR.length];exact g1.heads
  have a9:∀r∈rs,r.2.length<=100:=λr m=>aK (ZP g1 r m) ⋯
  have BE:=BD.same s1
  have dr:gl≠b:=BE.ne M
  refine jO (K:=K) (a:=l) (xs:=br) (acc:=gl) (λi σ H2=>∃(x:Option V) (zs:List V),σ=[x,some (.ref p)]/\H2 gl=some (.lst zs)/\zs.length=i/\cz (λv (w:List Int)=>∃a,v=V.ref a/\H2 a=some (.lst (w.map V.int))/\He a=none/\a≠gl) zs ((ws.take i).map (ja rs))/\Ext gl He H2) ?_ ?_ ?_ ?_
  ·exact ⟨none,[],rfl,j6,rfl,.nil,Ext.put⟩
  ·rintro i σ H2 hi ⟨x,zs,rfl,h2,Z,r2,e2⟩
   exact SqL.of (e2 _ _ J (j1 J M))
  ·rintro i v σ H2 hv ⟨x,zs,rfl,h2,Z,r2,e2⟩
   obtain ⟨wy,a5,a,rfl,b0⟩:=Paired.get w1 hv
   have hi:=(List.getElem?_eq_some_iff.mp a5).1
   obtain ⟨x',a4,b3⟩:=hR.mem (aA a5)
   have dp:=e2 _ _ b0 (j1 b0 M)
   have bs:=s1 _ _ pD
   have ec:=uQ Ld x' (xP a4)
   have:=xP a4
   left
   refine ⟨p,a,xs,rs,wy,rfl,e2 _ _ bs (j1 bs M),(rD.keep (jq.same s1)).keep (jq.new e2 M),a9,dp,by rw [b3];exact zv Ld x' (xP a4),by rw [b3];right,λt H3 ht dd s3=>?_⟩
   have ta:t≠gl:=(j1 h2 ht).symm
   refine ⟨zs,s3 _ _ h2,jf (),some (.ref a),zs++[.ref t],rfl,j6,by rw [aw,Z];rfl,?_,λc o hc n=>by rw [j8 n];exact s3 _ _ (e2 c o hc n)⟩
   rw [qX (ja rs) ws i wy a5]
   exact cN (Paired.mapP r2 λv wy ⟨a,e,I,h0,na⟩=>⟨a,e,by rw [j8 na];exact s3 _ _ I,h0,na⟩) ⟨t,rfl,by rw [j8 ta];exact dd,e2.free ht ta,ta⟩
  rintro σ H2 ⟨x,zs,rfl,h2,Z,r2,e2⟩
  rw [a8,aX] at r2
  have b2:vm H2 zs (ws.map (ja rs)):=Paired.mapP r2 λv wy ⟨a,e,I,h0,na⟩=>⟨a,e,I⟩
  have zb:V.ref b∉zs:=λz=>by
   obtain ⟨_,a,e,_,h0,_⟩:=pm r2 _ z
   cases e
   exact absurd rfl (BE.ne h0)
  have s2:jk Hd H2:=λc o hc=>e2 _ _ (s1 _ _ hc) (j1 (s1 _ _ hc) M)
  have ed:Hd gl=none:=s1.free M
  left
  refine ⟨sd,_,rfl,kE.k (k:=.inr "grounds") (s2 _ _ dD) (jf (aK (yt _ _) (by show 0+3<=1000;decide))),?_⟩
  rw [put4]
  have nF:∀{a:Addr} {o:HO},H2 a=some o->(∀kvs,o≠.dK kvs)->(upd H2 sd ↥3) a=some o:=λh n=>by rw [j8 (jp h (s2 _ _ dD) (n _))];exact h
  have dF:(upd H2 sd ↥3) sd=some ↥3:=j6
  have pF:=nF (s2 _ _ pD) ↥1
  have qF:=nF (s2 _ _ qD) ↥1
  have rF:qj (upd H2 sd ↥3) xs rs:=rD.keep λ_ _ h=>nF (s2 _ _ h) ↥1
  have bn:xo (upd H2 sd ↥3) ys ts:=bq.imp λ_ _ h=>nF (s2 _ _ h) ↥1
  have gF:=nF h2 ↥1
  have b1:vm (upd H2 sd ↥3) zs (ws.map (ja rs)):=Paired.mapP b2 λv wy ⟨a,e,I⟩=>⟨a,e,nF I ↥1⟩
  have a2:(upd H2 sd ↥3) g=some (.dK []):=by rw [j8 ap];exact s2 _ _ bl
  have BF:jY L (upd H2 sd ↥3) b:=(BD.same s2).put al (B1.neL C)
  have XF:Ext b H (upd H2 sd ↥3):=λc o h n=>by rw [j8 (j1 h a3)];exact s2 _ _ (XD c o h n)
  clear nF b2 s2 h2 r2 e2 BE M s1 w1 J D pD rD qD bq bl BD XD dD a9
  generalize (upd H2 sd ↥3)=Hf at *
  have da:zs.length<=6:=()
  refine ⟨λσ H5=>∃c,σ=[some (.ref b),some (.ref p),some (.ref sd),none,none]/\ScB L b H H5 sd c/\c.sk=[]/\∀x∈c.lds,x.2=[],?_,?_⟩
  ·left
   refine ⟨sd,.ref gl,rfl,by rw [<- QL p q g gl];exact qM.k (k:=.inr "grounds") dF,?_⟩
   left
   refine ⟨⟨_,SqL.of gF⟩,λle J=>?_⟩
   have c1:le≠b:=BF.ne J
   refine jO (K:=K) (a:=gl) (xs:=zs) (acc:=le) (λi σ He=>∃(x:Option V) (lds:List ↥121),σ=[x]/\He le=some (.lst (lds.map λx=>V.ref x.1))/\lds.length=i/\(∀x∈lds,He x.1=some (.dK [])/\x.2=[]/\Hf x.1=none/\x.1≠le)/\(lds.map (·.1)).Nodup/\Ext le Hf He) ?_ ?_ ?_ ?_
   ·exact ⟨none,[],rfl,j6,rfl,(λx z=>by cases z),lP,Ext.put⟩
   ·rintro i σ He hi ⟨x,lds,rfl,he,D,R,nn,e⟩
    exact SqL.of (e _ _ gF (j1 gF J))
   ·rintro i v σ He hv ⟨x,lds,rfl,he,D,R,nn,e⟩
    have hi:=(List.getElem?_eq_some_iff.mp hv).1
    left
    intro d aL
    have dl:d≠le:=(j1 he aL).symm
    refine ⟨_,(by rw [j8 (cF dl)];exact he),by rw [ag];exact jf (),some v,lds++[(d,[])],rfl,(by rw [j6,aq];rfl),(by rw [aw,D];rfl),λy hy=>?_,?_,λc o hc n=>?_⟩
    ·rcases List.mem_append.mp hy with z | z
     ·obtain ⟨h1,h2,h3,h4⟩:=R y z
      exact ⟨by rw [j8 h4,j8 (j1 h1 aL)];exact h1,h2,h3,h4⟩
     ·obtain rfl:y=(d,[]):=by simpa using z
      exact ⟨by rw [j8 dl];exact j6,rfl,e.free aL dl,dl⟩
    ·rw [aq]
     refine kt nn λz=>?_
     obtain ⟨y,hy,ey⟩:=List.mem_map.mp z
     have:=(R y hy).1
     rw [ey,aL] at this
     cases this
    ·rw [j8 n,j8 (j1 (e c o hc n) aL)]
     exact e c o hc n
   ·rintro σ He ⟨x,lds,rfl,he,D,R,nn,e⟩
    have T:jk Hf He:=λc o h=>e c o h (j1 h J)
    left
    refine ⟨sd,_,rfl,kE.k (k:=.inr "leaps") (T _ _ dF) (by show 4<sizeLine;decide),?_⟩
    rw [put5]
    have nG:∀{a:Addr} {o:HO},He a=some o->(∀kvs,o≠.dK kvs)->(upd He sd (.dK (scK p q g gl le))) a=some o:=λh n=>by rw [j8 (jp h (T _ _ dF) (n _))];exact h
    have lG:∀x∈lds,(upd He sd (.dK (scK p q g gl le))) x.1=some (.dK (x.2.map kvI)):=λx u=>by
     obtain ⟨h1,h2,h3,h4⟩:=R x u
     rw [j8 (j1 dF h3).symm,h2]
     exact h1
    have bk:(upd He sd (.dK (scK p q g gl le))) g=some (.dK []):=by rw [j8 ap];exact T _ _ a2
    refine ⟨⟨p,q,g,gl,le,xs,ys,zs,rs,ts,ws,[],lds⟩,rfl,⟨⟨j6,nG (T _ _ pF) ↥1,rF.keep λ_ _ h=>nG (T _ _ h) ↥1,nG (T _ _ qF) ↥1,bn.imp λ_ _ h=>nG (T _ _ h) ↥1,nG (T _ _ gF) ↥1,Paired.mapP b1 λv wy ⟨a,e,I⟩=>⟨a,e,nG (T _ _ I) ↥1⟩,nG he ↥1,.inl bk,(λz Z=>by cases Z),λx u=>.inl (lG x u)⟩,
     ⟨g1,l1,l8,a6.1,a6.2,dc,hR,D.trans (Z.trans a8),nn,λx u=>(j1 a2 (R x u).2.2.1).symm,pb,qb,dr,c1,zb,lP,(λz Z=>by cases Z),aN _,(λx u=>by rw [(R x u).2.1];exact lP),(λx u=>by rw [(R x u).2.1];intro z Z;cases Z),(λx u=>by rw [(R x u).2.1];exact aN _)⟩,bk,lG,(BF.same T).put al (B1.neL C),λc o h n=>?_,cr,λx u=>?_⟩,rfl,λx u=>(R x u).2.1⟩
    ·rw [j8 (j1 h a3)]
     exact T _ _ (XF c o h n)
    ·exact XF.free (R x u).2.2.1 (BF.ne (R x u).2.2.1)
  rintro σ H5 ⟨c,rfl,S5,k5,l5⟩
  clear dF pF qF rF bn gF b1 a2 BF XF zb a8 db Z da
  refine ⟨λσ H6=>∃(x:Option V) (c:ScN),σ=[some (.ref b),some (.ref p),some (.ref sd),x,none]/\ScB L b H H6 sd c/\∀x∈c.lds,x.2=[],?_,?_⟩
  ·left
   refine ⟨by show 3<=sizeLine;decide,λl6 H6 dn ch s6=>?_⟩
   have S6:=S5.same s6
   have c4:l6≠b:=S5.B.ne dn
   left
   refine ⟨L,b,_,rfl,S6.B,⟨⋯,⋯⟩,λv7 H7 p7 q7 B7 X7=>?_⟩
   have S7:=S6.take B7 X7
   obtain ⟨n,hn,n0,n1⟩:=Uu p7 q7
   refine ⟨_,_,_,_,rfl,rfl,SqL.of (X7 _ _ ch c4),hn,?_⟩
   left
   refine ⟨L,b,_,rfl,S7.B,⟨n0,()⟩,λv8 H8 p8 q8 B8 X8=>?_⟩
   have S8:=S7.take B8 X8
   left
   refine ⟨(),(),?_⟩
   refine qY (λi σ H2=>∃(x:Option V) (c:ScN),σ=[some (.ref b),some (.ref p),some (.ref sd),x,none]/\ScB L b H H2 sd c/\c.sk.length<=i/\∀x∈c.lds,x.2=[]) ?_ ?_ ?_
   ·exact ⟨none,c,rfl,S8,by rw [k5];exact au _,l5⟩
   ·rintro i σ H2 hi ⟨x,c,rfl,S,hk,D⟩
    left
    refine ⟨L,b,rfl,S.B,λt H9 r B9 X9 ht hg=>?_⟩
    have S9:=S.take B9 X9
    left
    refine ⟨sd,.ref c.sg,rfl,by rw [<- yD c.p c.q c.sg c.gl c.ll];exact qM.k (k:=.inr "single") S9.S.sd,?_⟩
    left
    refine ⟨L,b,rfl,S9.B,λy dv y0 y1 bd a0=>?_⟩
    have an:=S9.take bd a0
    refine ⟨c.sg,_,rfl,kE.k (k:=.inl y) an.r1 (by rw [ag];exact jf (by have:=an.O.k3;right)),?_⟩
    exact ⟨_,{ c with sk:=zi c.sk y t },rfl,an.single y0 y1 (a0 _ _ ht (S9.B.ne_tup ht)) hg (),aK (uM _ _ _) (),D⟩
   ·rintro σ H2 ⟨x,c,rfl,S,hk,D⟩
    exact ⟨x,c,rfl,S,D⟩
  clear S5 k5 l5
  rintro σ H6 ⟨x,c,rfl,S6,l6⟩
  left
  refine ⟨by show 3<=sizeLine;decide,λl7 H7 dk ce s7=>?_⟩
  have S7:=S6.same s7
  have c2:l7≠b:=S6.B.ne dk
  left
  refine ⟨L,b,_,rfl,S7.B,⟨⋯,⋯⟩,λv8 H8 p8 q8 B8 X8=>?_⟩
  have S8:=S7.take B8 X8
  obtain ⟨n,hn,n0,n1⟩:=UT p8 q8
  refine ⟨_,_,_,_,rfl,rfl,SqL.of (X8 _ _ ce c2),hn,?_⟩
  left
  refine ⟨L,b,_,rfl,S8.B,⟨n0,()⟩,λv9 H9 p9 q9 B9 X9=>?_⟩
  have S9:=S8.take B9 X9
  left
  refine ⟨(),(),?_⟩
  refine qY (λi σ H2=>∃(x y:Option V) (c:ScN),σ=[some (.ref b),some (.ref p),some (.ref sd),x,y]/\ScB L b H H2 sd c/\∀x∈c.lds,x.2.length<=i) ?_ ?_ ?_
  ·exact ⟨x,none,c,rfl,S9,λx u=>by rw [l6 x u];exact au _⟩
  ·rintro i σ H2 hi ⟨x,y',c,rfl,S,D⟩
   have eb:1<=c.ws.length:=by
    rw [S.O.ro.length]
    exact Jy (qt S.O.gr.ok) S.O.l1
   have d3:c.zs.length=c.ws.length:=(aV S.S.gi).trans (ag _)
   have ea:c.ws.length<=6:=by rw [S.O.ro.length];exact S.O.gr.heads
   left
   refine ⟨sd,.ref c.gl,rfl,by rw [<- qI c.p c.q c.sg c.gl c.ll];exact qM.k (k:=.inr "grounds") S.S.sd,?_⟩
   left
   refine ⟨c.gl,_,rfl,.inl (SqL.of S.S.gl),?_⟩
   left
   refine ⟨L,b,_,rfl,S.B,⟨(),()⟩,λln dv cL d2 bd a0=>?_⟩
   have an:=S.take bd a0
   left
   refine ⟨by show 2<=sizeLine;decide,λc9 ek ci bi cs=>?_⟩
   have cb:=an.same cs
   have cd:c9≠b:=an.B.ne ci
   left
   refine ⟨L,b,_,rfl,cb.B,⟨⋯,⋯⟩,λdV ej cy cv dT b4=>?_⟩
   have b6:=cb.take dT b4
   obtain ⟨n,hn,n0,n1⟩:=GU cy cv
   refine ⟨_,_,_,_,rfl,rfl,SqL.of (b4 _ _ bi cd),hn,?_⟩
   left
   refine ⟨L,b,_,rfl,b6.B,⟨n0,()⟩,λcl ei d1 d0 dy dt=>?_⟩
   have a1:=b6.take dy dt
   left
   have dg:ln.toNat<c.lds.length:=by rw [S.O.ldl];right
   obtain ⟨⟨a,ns⟩,I⟩:∃z,c.lds[ln.toNat]? = some z:=⟨_,aa dg⟩
   refine ⟨sd,.ref c.ll,rfl,by rw [<- vw c.p c.q c.sg c.gl c.ll];exact qM.k (k:=.inr "leaps") a1.S.sd,?_⟩
   left
   refine ⟨_,_,_,_,rfl,rfl,SqL.of a1.S.ll,qo cL (v:=V.ref a) (by rw [ax,I];rfl),?_⟩
   left
   refine ⟨L,b,rfl,a1.B,λy eh y0 y1 dx ds=>?_⟩
   have b5:=a1.take dx ds
   have a7:=D _ (aA I)
   refine ⟨a,_,rfl,kE.k (k:=.inl y) (b5.r2 _ (aA I)) (by rw [ag];exact jf (by have:ns.length<=i:=a7;right)),?_⟩
   have a7:ns.length<=i:=a7
   refine ⟨_,_,{ c with lds:=c.lds.set ln.toNat (a,zi ns y (1+cl)) },rfl,b5.leap I y0 y1 () () (),λx u=>?_⟩
   rcases wa S.O.nd I u with z | ⟨z,_⟩
   ·subst z
    exact aK (uM _ _ _) ()
   ·exact Nat.le_succ_of_le (D x z)
  ·rintro σ H2 ⟨x,y',c,rfl,S,D⟩
   left
   exact k sd H2 c S.B S.X S.S S.O
theorem IceNew.made {p dx:Addr}{H:Hp}(j:H p=none) (G:H dx=none) (I:IceNew C Pt (upd (upd H dx o) p o') H' p g):IceNew C Pt H H' p g:=by
 have s:jk H (upd (upd H dx o) p o'):=λc u h=>by rw [j8 (j1 h j),j8 (j1 h G)];exact h
 exact ⟨I.at_,λc u h n m=>I.keep c u (s c u h) n m,s.free I.va,s.free I.cy,s.free I.sl,s.free I.ye,s.free I.le,λa z=>s.free (I.zs a z),I.kvs,λx b=>⟨s.free (I.lds x b).1,(I.lds x b).2⟩,I.ll,I.nd,I.ny,I.sl2⟩
structure IceFr (H:Hp) (p:Addr) (g:IceG):Prop where
 p:H p=none
 va:H g.va=none
 cy:H g.cy=none
 sl:H g.sl=none
 ye:H g.ye=none
 le:H g.le=none
 zs:∀a,V.ref a∈g.zs->H a=none
 lds:∀x∈g.lds,H x.1=none
theorem IceAt.stay {p:Addr}{j:Hp}(I:IceAt C H2 p g) (F:IceFr H p g) (f:∀a o,H2 a=some o->H a=none->j a=some o) (t:jq H2 j):IceAt C j p g :=
 ⟨f _ _ I.ob F.p,f _ _ I.va F.va,I.rs.keep t,f _ _ I.cy F.cy,I.rows.imp λ_ _ q=>t _ _ q,f _ _ I.sl F.sl,pmM I.slopes λv d w ⟨a,c,q⟩=>⟨a,c,f _ _ q (F.zs a (c ▸ d))⟩,f _ _ I.ye F.ye,f _ _ I.le F.le,λx b=>f _ _ (I.lds x b) (F.lds x b)⟩
theorem Fr3.ext {N:Addr->Prop}(f:Fr3 N M H H2) (e:Ext a H2 H3) (j:H a=none):Fr3 N M H H3:=λc o h n=>by
 have ca:c≠a:=j1 h j
 rcases f c o h n with q | ⟨m,b,kvs,d,q⟩
 ·exact .inl (e _ _ q ca)
 ·exact .inr ⟨m,b,kvs,d,e _ _ q ca⟩
theorem Fr3.same {N:Addr->Prop}(f:Fr3 N M H H2) (e:jk H2 H3):Fr3 N M H H3:=λc o h n=>by
 rcases f c o h n with q | ⟨m,a,kvs,b,q⟩
 ·exact .inl (e _ _ q)
 ·exact .inr ⟨m,a,kvs,b,e _ _ q⟩
theorem Fr3.frz {N:Addr->Prop}{j:Obj}{kvs:List (Key×V)}(f:Fr3 N M H H2) (h:H2 a=some (.dK kvs)) (m:M a):Fr3 N M H (upd H2 a (.frz j (.dK kvs))):=λc o b n=>by
 by_cases e:c=a
 ·subst e
  rcases f c o b n with q | ⟨_,g,d,i,q⟩
  ·rw [h] at q
   cases q
   exact .inr ⟨m,j,kvs,rfl,j6⟩
  ·rw [h] at q
   cases q
 ·rw [j8 e]
  exact f c o b n
theorem Yx {H:Hp}(h:H a=some (.dK kvs)):jq H (upd H a (.frz j (.dK kvs))):=λc xs q=>by rw [j8 (jp q h ↥4)];exact q
theorem Wq (T:xb H Pt) (h:H a=some (.dK kvs)):xb (upd H a (.frz j (.dK kvs))) Pt:=by
 rcases T with q | ⟨c,q,b⟩
 ·exact .inl (by rw [j8 (jp q h ↥4)];exact q)
 ·exact .inr ⟨c,by rw [j8 (jp q h ↥4)];exact q,by rw [j8 (jp b h ↥4)];exact b⟩
theorem Xz (T:xb H Pt) (h:H a=some (.dK kvs)) (e:Ext a H H'):xb H' Pt:=by
 rcases T with q | ⟨c,q,b⟩
 ·exact .inl (e _ _ q (jp q h ↥4))
 ·exact .inr ⟨c,e _ _ q (jp q h ↥4),e _ _ b (jp b h ↥4)⟩
theorem WW {ns:List (Int×Addr)}{i:Nat}(h:(ns.map kvA)[i]? = some q):∃z,ns[i]? = some z/\q=kvA z:=by
 rw [ax] at h
 cases e:ns[i]? with
 | none=>rw [e] at h;cases h
 | some z=>rw [e] at h;cases h;exact ⟨z,rfl,rfl⟩
theorem Jr:∀{ns:List (Int×Addr)},(↥82).Nodup->∀{z:Int×Addr},z∈ns->qG (ns.map kvA) (.inl z.1)=some (.ref z.2)
 | [],_,z,h=>by cases h
 | q::r,a,z,h=>by
  rw [aU] at a
  obtain ⟨h1,h2⟩:=List.nodup_cons.mp a
  rw [aU]
  rcases List.mem_cons.mp h with e | e
  ·subst e
   exact xR
  ·have ne:¬q.1=z.1:=λw=>h1 (by rw [w];exact bg e)
   show qG ((.inl q.1,.ref q.2)::r.map kvA) (.inl z.1)=_
   rw [jz (λw=>ne (fD w))]
   exact Jr h2 e
theorem VF {α:Type}{l:List (Int×α)}{y:Int}{a:α}(h:y∉l.map (·.1)):zi l y a=l++[(y,a)]:=by
 unfold zi
 rw [if_neg]
 intro z
 obtain ⟨u,b,e⟩:=List.any_eq_true.mp z
 exact h (of_decide_eq_true e ▸ bg b)
theorem XW {α:Type}{l:List (Int×α)}(G:(l.map (·.1)).Nodup) {i:Nat}{z:Int×α}(h:l[i]? = some z):z.1∉(l.take i).map (·.1):=λm=>by
 obtain ⟨hi,e⟩:=List.getElem?_eq_some_iff.mp h
 obtain ⟨u,b,d⟩:=List.mem_map.mp m
 obtain ⟨j,c,a⟩:=List.mem_iff_getElem.mp b
 rw [aG] at c
 rw [lZ] at a
 have h1:(l.map (·.1))[j]'(by rw [ag];right)=(l.map (·.1))[i]'(by rw [ag];exact hi):=by rw [eM,eM,a,e,d]
 exact absurd h1 (List.pairwise_iff_getElem.mp G j i _ _ ())
theorem Xo {α:Type}{f:α->V}{l:List (Int×α)}(j:(l.map (·.1)).Nodup) {i:Nat}{z:Int×α}(h:l[i]? = some z):xk ((l.take i).map λz=>↥62) (.inl z.1) (f z.2)=(l.take (i+1)).map λz=>↥62:=by
 rw [kI f,VF (XW j h),aQ,h]
 rfl
structure LdN (g0:List ↥56) (cl:List ↥121) (i n:Nat) (lds:List ↥56):Prop where
 fst:lds.map (·.1)=g0.map (·.1)
 at_:∀j x,lds[j]? = some x->∃y,cl[j]? = some y/\x.2=(if j<i then y.2 else if j=i then y.2.take n else []).map kvI
theorem LdN.len {j:List ↥56}{G:List ↥121}{i n:Nat}(h:LdN z G i n j):j.length=z.length:=by
 have:=congrArg nJ h.fst
 rwa [ag,ag] at this
theorem LdN.next {lds:List ↥56}{z:List ↥121}{i n:Nat}(h:LdN Y z i n lds) (G:z[i]? = some y) (U:y.2.length<=n):LdN Y z (i+1) 0 lds:=⟨h.fst,λj x d=>by
 obtain ⟨u,c,e⟩:=h.at_ j x d
 refine ⟨u,c,?_⟩
 rw [e]
 by_cases a:j<i
 ·rw [if_pos a,if_pos ()]
 ·rw [if_neg a]
  by_cases b:j=i
  ·subst b
   rw [G] at c
   cases c
   rw [if_pos rfl,if_pos (),aZ U]
  ·rw [if_neg b,if_neg ()]
   split
   ·rfl
   ·rfl⟩
theorem LdN.put {G:List ↥56}{Y:List ↥121}{i n:Nat}{a:Addr}{kvs:List (Key×V)}(h:LdN g0 Y i n G) (hy:Y[i]? = some y) (nd:(y.2.map (·.1)).Nodup) (hz:y.2[n]? = some z) (U:G[i]? = some (a,kvs)):LdN g0 Y i (n+1) (vA G i (xk kvs (.inl z.1) (.int z.2))):=by
 obtain ⟨u,g,e⟩:=h.at_ i _ U
 rw [hy] at g
 cases g
 rw [if_neg (cp i),if_pos rfl] at e
 have k:xk kvs (.inl z.1) (.int z.2)=(y.2.take (n+1)).map kvI:=by
  rw [show kvs=(y.2.take n).map kvI from e]
  exact Xo (f:=V.int) nd hz
 refine ⟨?_,λj x d=>?_⟩
 ·rw [<- h.fst]
  unfold vA
  rw [ak,U]
  exact Y1 U
 ·unfold vA at d
  rw [iG] at d
  by_cases b:i=j
  ·subst b
   rw [if_pos rfl,if_pos (List.getElem?_eq_some_iff.mp U).1] at d
   cases d
   exact ⟨y,hy,by rw [if_neg (cp i),if_pos rfl];exact k⟩
  ·rw [if_neg b] at d
   obtain ⟨u,g,e⟩:=h.at_ j x d
   refine ⟨u,g,?_⟩
   rw [e]
   by_cases c:j<i
   ·rw [if_pos c,if_pos c]
   ·rw [if_neg c,if_neg c,if_neg (λq=>b q.symm),if_neg (λq=>b q.symm)]
theorem ScAt.fr {Pt sd:Addr}{H H':Hp}{c:ScN}(S:ScAt H sd c) (T:xb H Pt) (f:Fr3 (λa=>a=Pt) c.D H H'):ScAt H' sd c:=by
 obtain ⟨ps,g⟩:=T.ne
 have n:∀{a:Addr} {o:HO},H a=some o->(∀ps,o≠.tbl ps)->¬a=Pt:=λh q=>jp h g (q _)
 have b:∀{a:Addr} {kvs:List (Key×V)},Rd H a (.dK kvs)->¬a=Pt:=λh=>by
  rcases h with h | ⟨o,h⟩
  ·exact n h ↥1
  ·exact n h ↥1
 exact S.keep f (λa xs h=>n h ↥1) (n S.sd ↥1) S.nD (n S.p ↥1) (n S.q ↥1) (n S.gl ↥1) (n S.ll ↥1) (λa h=>by
  obtain ⟨w,i,e,q⟩:=pm S.gi _ h
  cases e
  exact n q ↥1) (b S.sg) λx d=>b (S.ld x d)
theorem ScAt.inD {sd:Addr}(S:ScAt H sd c) (h:c.D a):∃o,H a=some o:=by
 have r:∃kvs,Rd H a (.dK kvs):=by
  rcases h with h | ⟨x,b,e⟩
  ·exact ⟨_,h ▸ S.sg⟩
  ·exact ⟨_,e ▸ S.ld x b⟩
 obtain ⟨_,r | ⟨o,r⟩⟩:=r
 ·exact ⟨_,r⟩
 ·exact ⟨_,r⟩
theorem Um (f:Fz a kvs o H H4):jq H H4:=λc xs q=>by
 rcases f.2 with rfl | ⟨h,rfl⟩
 ·exact q
 ·exact Yx h c xs q
theorem Ee (f:Fz a kvs o H2 H4) (r:Fr3 N M H H2) (m:M a):Fr3 N M H H4:=by
 rcases f.2 with rfl | ⟨h,rfl⟩
 ·exact r
 ·exact r.frz h m
theorem GG (f:Fz a kvs o H j) (T:xb H Pt):xb j Pt:=by
 rcases f.2 with rfl | ⟨h,rfl⟩
 ·exact T
 ·exact Wq T h
structure MdI (C Pt p:Addr) (c:ScN) (H H2:Hp) (g:IceG):Prop where
 I:IceAt C H2 p g
 F:IceFr H p g
 R:Fr3 (λa=>a=Pt) c.D H H2
 T:xb H2 Pt
theorem MdI.frz {p j:Addr}{kvs:List (Key×V)}(M:MdI C Pt p c H H2 g) (S:ScAt H j c) (h:c.D a) (f:Fz a kvs o H2 z):MdI C Pt p c H z g:=by
 obtain ⟨_,e⟩:=S.inD h
 exact ⟨M.I.stay M.F (λb u d n=>f.at d (j1 e n).symm) (Um f),M.F,Ee f M.R h,GG f M.T⟩
theorem MdI.same {p:Addr}(M:MdI C Pt p c H H2 g) (s:jk H2 j):MdI C Pt p c H j g:=⟨M.I.same s,M.F,M.R.same s,M.T.same s⟩
theorem LdN.mem {z j:List ↥56}{U:List ↥121}{i n:Nat}(h:LdN z U i n j) {x:Addr×List (Key×V)}(G:x∈j):∃y∈z,y.1=x.1:=by
 have:x.1∈z.map (·.1):=h.fst ▸ bg G
 obtain ⟨y,a,e⟩:=List.mem_map.mp this
 exact ⟨y,a,e⟩
inductive spMade (C Pt:Addr) (vs:List V) (H:Hp) (Q:VK) (z_3:XK):Prop
 | mk (sd b:Addr) (c:ScN) (_:vs=[.ref sd]) (_:ScAt H sd c) (_:ScOk b c) (_:xb H Pt) (_:∀p H' g,IceAt C H' p g->IceFr H p g->Fr3 (λa=>a=Pt) c.D H H'->xb H' Pt->g.rs=c.rs->g.rows=c.ts->g.slopes=c.ws.map (ja c.rs)->g.kvs=c.sk.map kvA->g.lds.length=c.lds.length->(∀(l:Nat) x,g.lds[l]? = some x->∃y,c.lds[l]? = some y/\x.2=y.2.map kvI)->(∀x∈g.lds,x.1≠g.ye)->(g.lds.map (·.1)).Nodup->Q (.ref p) H')
theorem xL:FnScope ["_law_scene_here","_law_ice","_law_year_here","_law_lane","_law_leaps"] ["_law_scene_here"] (j7 uq):=by walk_at "s"
theorem UL {CR:Addr}(nb:Nb2 mg) (ac:Cls K C) (aL:MakX P w K mg base 8 C "Ice" ["self","reaches","rows"] (spInit C CV CR Pt)) (Y:CalMX P w K mg base 2 C "tell" ["self","year","row"] (spTell C CY CW)) (U:CalMX P w K mg base 2 C "surge" ["self","lane","year","many"] (spSurge C CN CY CS)) (F:Fun K "_law_made" "_law_made" uq f fd):FnOk P w K mg base CX0 10 f fd ["_law_scene_here"] (spMade C Pt):=by
 refine F.ok xL ↥29 (λbv A outer s H vs Q E J h=>?_)
 ·obtain ⟨N,b,c,rfl,_⟩:=h
  rfl
 ·obtain ⟨N,b,c,rfl,S,O,T,k⟩:=h
  refine ⟨_,(j5 (jo 1 xL.nd (UX aL (J.mono ⋯) Qq rfl (j0 (qC (qZ K) rfl nb.b_list cf (j0 ↥105 j2)) (j0 (qC (qZ K) rfl nb.b_list cf (j0 ↥105 j2)) j2))))
   (j5 (xf bp rfl (uO ↥105) (jc (i:=2) xL.nd rfl (aP rfl)) (j9 (jX (zU (pv 1) ac Y (J.mono ⋯) Qq (j0 (pv 2) (j0 (jy (jM J) ↥105 (pv 2) (λ_ _=>rfl)) j2))))))
   (j5 (xf bp rfl (Qg K rfl nb.b_enumerate (j0 ↥105 j2)) (qS (n:=2) K rfl (jn (jc (i:=3) xL.nd rfl (aP rfl)) (jn (jc (i:=4) xL.nd rfl (aP rfl)) qz))) (j9 (xf bp rfl (uO (pv 4)) (jc (i:=2) xL.nd rfl (aP rfl)) (j9 (jX (zU (pv 1) ac U (J.mono ⋯) Qq (j0 (pv 3) (j0 (pv 2) (j0 (jy (jM J) (pv 4) (pv 2) (λ_ _=>rfl)) j2)))))))))
   (j9 (jj (pv 1)))))),?_⟩
  left
  refine ⟨N,.ref c.p,rfl,by rw [<- Zu c.p c.q c.sg c.gl c.ll];exact qM.k (k:=.inr "reaches") S.sd,?_⟩
  refine ⟨_,_,rfl,.inl (SqL.of S.p),λl1 H1 br as s1=>?_⟩
  have S1:=S.same s1
  left
  refine ⟨N,.ref c.q,rfl,by rw [<- Q0 c.p c.q c.sg c.gl c.ll];exact qM.k (k:=.inr "rows") S1.sd,?_⟩
  refine ⟨_,_,rfl,.inl (SqL.of S1.q),λl2 H2 bq ap s2=>?_⟩
  have S2:=S1.same s2
  have G:=s1.trans s2
  left
  intro p dx hp hd bt
  have s3:jk H2 (upd (upd H2 dx (.own p)) p (.ins C dx [])):=λc u h=>by rw [j8 (j1 h hp),j8 (j1 h hd)];exact h
  have S3:=S2.same s3
  have bn:gr c.ts=true:=by
   have:=O.t1
   have:=O.t2
   unfold gr
   rw [decide_eq_true (),O.tg]
   rfl
  have eg:=O.gr.good O.l1 O.l8
  refine ⟨p,dx,l1,l2,c.xs,c.ys,c.rs,c.ts,rfl,j6,s3 _ _ (s2 _ _ as),S3.rv,s3 _ _ ap,S3.r3,λr J=>aK (ZP O.gr r J) ⋯,aK O.l8 ⋯,aK O.t2 ⋯,(T.same G).same s3,λH4 g _ _ I e1 e2 e3 e4 T4=>?_,(λH' z _ _=>by rw [eg] at z;cases z),(λH' _ z _ _=>by rw [bn] at z;cases z)⟩
  have I:=I.made hp hd
  obtain ⟨ws,hR,ae⟩:=I.sl2
  rw [e1] at hR ae
  obtain rfl:=hR.unique O.ro
  have d:IceFr H p g:=⟨G.free hp,G.free I.va,G.free I.cy,G.free I.sl,G.free I.ye,G.free I.le,λa z=>G.free (I.zs a z),λx B=>G.free (I.lds x B).1⟩
  have M4:MdI C Pt p c H H4 g:=⟨I.at_,d,λa o h n=>.inl (I.keep a o (G _ _ h) (j1 h d.p) n),T4⟩
  have a1:g.lds.length=c.lds.length:=by rw [I.ll,ae,ag,O.ldl]
  have a0:=I.nd
  have al:=I.ny
  have a7:=I.kvs
  have a6:∀x∈g.lds,x.2=[]:=λx B=>(I.lds x B).2
  clear I S3 s3 S2 ap as S1 T4
  refine ⟨rfl,?_⟩
  have S4:=S.fr T M4.R
  left
  refine ⟨N,.ref c.sg,rfl,by rw [<- yD c.p c.q c.sg c.gl c.ll];exact qM.k (k:=.inr "single") S4.sd,?_⟩
  have an:c.D c.sg:=.inl rfl
  refine JN (kvs:=c.sk.map kvA) S4.sg (λo i σ H5=>∃x:Option V,σ=[some (.ref N),some (.ref p),x,none,none]/\H5 c.sg=some (.frz o (.dK (c.sk.map kvA)))/\MdI C Pt p c H H5 { g with kvs:=(c.sk.take i).map kvA }) ?_ ?_ ?_ ?_
  ·intro o H5 f5
   refine ⟨none,rfl,f5.1,?_⟩
   have:=M4.frz S an f5
   have e:g={ g with kvs:=(c.sk.take 0).map kvA }:=by
    show g={ g with kvs:=[] }
    rw [<- a7]
   rw [<- e]
   exact this
  ·rintro o i σ H5 hi ⟨x,rfl,h5,L⟩
   exact h5
  ·rintro o i u σ H5 hq ⟨x,rfl,h5,L⟩
   obtain ⟨z,hz,rfl⟩:=WW hq
   have X:=aA hz
   have hi:i<c.sk.length:=(List.getElem?_eq_some_iff.mp hz).1
   have bm:=O.k3
   have S5:=S.fr T L.R
   obtain ⟨r,bd,bk⟩:=S5.sk z X
   obtain ⟨y0,y1⟩:=O.k2 z X
   show vJ 2 (V.int z.1) _ _ _
   left
   refine ⟨p,g.dx,_,rfl,L.I.ob,qx ∅,?_⟩
   left
   refine ⟨N,.ref c.sg,rfl,by rw [<- yD c.p c.q c.sg c.gl c.ll];exact qM.k (k:=.inr "single") S5.sd,?_⟩
   left
   refine ⟨c.sg,.ref z.2,rfl,(by rw [<- Jr O.k1 X];exact .inl ⟨_,.inl z.1,.inr ⟨o,h5⟩,rfl,rfl⟩),?_⟩
   refine ⟨p,z.2,_,z.1,r,rfl,L.I,al,bd,(by rw [ag,aG];right),λH6 _ _ _ X6 I6=>?_,λM=>absurd M (),λ_ _ M=>by rw [bk] at M;cases M⟩
   have e:xk ((c.sk.take i).map kvA) (.inl z.1) (.ref z.2)=(c.sk.take (i+1)).map kvA:=Xo (f:=V.ref) O.k1 hz
   obtain ⟨_,a5⟩:=S.inD an
   refine ⟨_,rfl,X6 _ _ h5 (j1 a5 d.ye),?_⟩
   rw [<- e]
   exact ⟨I6,⟨d.p,d.va,d.cy,d.sl,d.ye,d.le,d.zs,d.lds⟩,L.R.ext X6 d.ye,Xz L.T L.I.ye X6⟩
  ·rintro o σ H5 ⟨x,rfl,h5,L⟩
   rw [ag,aX] at L
   have S5:=S.fr T L.R
   left
   refine ⟨N,.ref c.ll,rfl,by rw [<- vw c.p c.q c.sg c.gl c.ll];exact qM.k (k:=.inr "leaps") S5.sd,?_⟩
   left
   refine ⟨⟨_,SqL.of S5.ll⟩,?_⟩
   refine XC (K:=K) (a:=c.ll) (xs:=c.lds.map λx=>V.ref x.1) (λi σ H6=>∃(x y z:Option V) (lds:List ↥56),σ=[some (.ref N),some (.ref p),x,y,z]/\MdI C Pt p c H H6 { g with kvs:=c.sk.map kvA,lds:=lds }/\LdN g.lds c.lds i 0 lds) ?_ ?_ ?_ ?_
   ·refine ⟨x,none,none,g.lds,rfl,L,rfl,λj x B=>?_⟩
    have hj:=(List.getElem?_eq_some_iff.mp B).1
    obtain ⟨y,m⟩:∃y,c.lds[j]? = some y:=⟨_,aa ()⟩
    refine ⟨y,m,?_⟩
    rw [a6 x (aA B),if_neg (mY _)]
    split <;> rfl
   ·rintro i σ H6 hi ⟨x,y,z,lds,rfl,M6,L6⟩
    exact SqL.of (S.fr T M6.R).ll
   ·rintro i v σ H6 t hv ⟨x,y,z,lds,rfl,M6,L6⟩ ht
    rw [ax] at hv
    obtain ⟨⟨a,ns⟩,m,ev⟩:=Option.map_eq_some_iff.mp hv
    subst ev
    have M7:=M6.same (jk.new (o:=.tup [.int i,.ref a]) ht)
    left
    refine ⟨t,_,rfl,SqT.of j6,rfl,?_⟩
    refine ⟨_,_,rfl,_,_,rfl,rfl,?_⟩
    left
    clear M6
    generalize upd H6 t (.tup [.int i,.ref a])=H7 at *
    have S7:=S.fr T M7.R
    have X:=aA m
    have a2:c.D a:=.inr ⟨_,X,rfl⟩
    obtain ⟨_,bl⟩:=S.inD a2
    refine JN (kvs:=ns.map kvI) (S7.ld _ X) (λo n σ H8=>∃(x:Option V) (lds:List ↥56),σ=[some (.ref N),some (.ref p),x,some (.int i),some (.ref a)]/\H8 a=some (.frz o (.dK (ns.map kvI)))/\MdI C Pt p c H H8 { g with kvs:=c.sk.map kvA,lds:=lds }/\LdN g.lds c.lds i n lds) ?_ ?_ ?_ ?_
    ·intro o H8 f8
     exact ⟨x,lds,rfl,f8.1,M7.frz S a2 f8,L6⟩
    ·rintro o n σ H8 hn ⟨x,lds,rfl,h8,Z,L8⟩
     exact h8
    ·clear L6 M7 S7
     rintro o n u σ H8 hq ⟨x,lds,rfl,h8,Z,L8⟩
     obtain ⟨z,hz,rfl⟩:=Q8 hq
     have am:=aA hz
     obtain ⟨y0,y1,m0,m1⟩:=O.m2 _ X z am
     have bi:=L8.len
     have bs:i<lds.length:=by
      have:=(List.getElem?_eq_some_iff.mp m).1
      right
     have a8:g.slopes.length=lds.length:=by rw [ae,ag,bi,a1,O.ldl]
     show vJ 2 (V.int z.1) _ _ _
     left
     refine ⟨p,g.dx,_,rfl,Z.I.ob,qx ∅,?_⟩
     left
     refine ⟨a,.int z.2,rfl,(by rw [<- yH (O.m1 _ X) am,<- zg ns z.1 (bg am)];exact .inl ⟨_,.inl z.1,.inr ⟨o,h8⟩,rfl,rfl⟩),?_⟩
     refine ⟨p,_,(i:Int),z.1,z.2,rfl,Z.I,a8.symm,(λx B=>by obtain ⟨y,m,e⟩:=L8.mem B;rw [<- e];exact al y m),(by show (lds.map (·.1)).Nodup;rw [L8.fst];exact a0),(λx B=>?_),λH9 a9 a4 _ _ _ _ _ _ ab X9 I9=>?_,(λM=>absurd M (by show ¬((i:Int)<0\/ ↥18<=i);right)),(λ_ _ M=>absurd M ()),λ_ _ _ _ M=>absurd M ()⟩
     ·obtain ⟨j,hj,ex⟩:=List.mem_iff_getElem.mp B
      obtain ⟨y,m,e⟩:=L8.at_ j x (by rw [aa hj,ex])
      have bm:=O.m3 y (aA m)
      rw [e,ag]
      split
      ·right
      ·split
       ·rw [aG];right
       ·exact aN _
     ·have ab:lds[i]? = some (a9,a4):=ab
      have L9:=L8.put m (O.m1 _ X) hz ab
      have a3:H a9=none:=Z.F.lds _ (aA ab)
      refine ⟨_,_,rfl,X9 _ _ h8 (j1 bl a3),⟨I9,⟨d.p,d.va,d.cy,d.sl,d.ye,d.le,d.zs,λx B=>?_⟩,Z.R.ext X9 a3,Xz Z.T (Z.I.lds _ (aA ab)) X9⟩,L9⟩
      obtain ⟨y,m,e⟩:=L9.mem B
      rw [<- e]
      exact d.lds y m
    ·rintro o σ H8 ⟨x,lds,rfl,h8,Z,L8⟩
     exact ⟨x,_,_,lds,rfl,Z,L8.next m (by rw [ag];exact au _)⟩
   ·rintro σ H6 ⟨x,y,z,lds,rfl,M6,L6⟩
    left
    refine k p H6 _ M6.I M6.F M6.R M6.T e1 e2 ae rfl (L6.len.trans a1) (λl x B=>?_) (λx B=>?_) (by show (lds.map (·.1)).Nodup;rw [L6.fst];exact a0)
    ·obtain ⟨y,m,e⟩:=L6.at_ l x B
     refine ⟨y,m,?_⟩
     rw [e,if_pos (by rw [ag];exact (List.getElem?_eq_some_iff.mp m).1)]
    ·obtain ⟨y,m,e⟩:=L6.mem B
     rw [<- e]
     exact al y m
theorem wN (h:yb rs=true):1<=rs.length/\rs.length<=8/\wo rs=true/\∀ws,qm rs ws->∀w∈ws,(ja rs w).length<=30:=by
 unfold yb at h
 rw [bw,bw,bw] at h
 obtain ⟨h1,h2,_,d⟩:=h
 have h1:=of_decide_eq_true h1
 refine ⟨(),(),h2,λws c w b=>?_⟩
 obtain ⟨x,a,e⟩:=c.mem b
 have:=of_decide_eq_true (List.all_eq_true.mp d x a)
 have g:=J6 rs w
 rw [<- e] at this
 right
theorem gQ (G:Grown rs) {ws:List (List Int)}(R:qm rs ws) {w:List Int}(j:w∈ws):1<=(ja rs w).length:=by
 obtain ⟨x,b,e⟩:=R.mem j
 have a:=xP b
 have o:=JW G.ok (aa a)
 unfold okR at o
 rw [bw,bw] at o
 have o:=of_decide_eq_true o.1.2
 have c:yi rs ((x:Int)).toNat=(rs[x]'a).2:=by
  unfold yi
  rw [b7,ak,aa a]
  rfl
 rw [e,yd (qt G.ok) a]
 unfold ja
 rw [aU,m6,aw,c]
 right
theorem UW (B:jY L j b) (e:Ext b j z) (T:xb j Pt):xb z Pt:=by
 obtain ⟨f,a,r,c,d,h1,_⟩:=B
 exact T.ext h1 e
structure Lw (C L b sd p:Addr) (c:ScN) (g:IceG) (H0 H:Hp):Prop where
 B:jY L H b
 S:ScAt H sd c
 I:IceAt C H p g
 O:ScOk b c
 F:IceFr H0 p g
 B0:jY L H0 b
 S0:ScAt H0 sd c
theorem Lw.same {b j p:Addr}(W:Lw C L b j p c g H0 H) (s:jk H H'):Lw C L b j p c g H0 H':=⟨W.B.same s,W.S.same s,W.I.same s,W.O,W.F,W.B0,W.S0⟩
theorem Lw.take {b j p:Addr}(W:Lw C L b j p c g H0 H) (B:jY L H' b) (X:Ext b H H'):Lw C L b j p c g H0 H' :=
 ⟨B,W.S.ext W.O W.B X,W.I.stay W.F (λa o h n=>X a o h (W.B0.ne n)) (zk W.B X),W.O,W.F,W.B0,W.S0⟩
theorem Lw.fr {b j p:Addr}(W:Lw C L b j p c g H0 H) (f:FrM c.D H H'):Lw C L b j p c g H0 H':=by
 refine ⟨?_,?_,W.I.stay W.F (λa o h n=>?_) (λa xs h=>f.at h ↥1),W.O,W.F,W.B0,W.S0⟩
 ·obtain ⟨e,a,r,c,d,h1,h2,k,i⟩:=W.B
  exact ⟨e,a,r,c,d,f.at h1 ↥1,h2,f.at k ↥1,i⟩
 ·exact W.S.keep (N:=λ_=>False) (λc o h _=>f c o h) (λ_ _ _ z=>z) id W.S.nD id id id id (λ_ _=>id) id (λ_ _=>id)
 ·rcases f a o h with z | ⟨m,_⟩
  ·exact z
  ·obtain ⟨_,q⟩:=W.S0.inD m
   rw [n] at q
   cases q
theorem Lw.start {C L b G p Pt:Addr}{c:ScN}{g:IceG}{H2 H3:Hp}(Y:ScAt H2 G c) (O:ScOk b c) (B2:jY L H2 b) (U:xb H2 Pt) (I3:IceAt C H3 p g) (F3:IceFr H2 p g) (j:Fr3 (λa=>a=Pt) c.D H2 H3):Lw C L b G p c g H2 H3:=by
 refine ⟨?_,Y.fr U j,I3,O,F3,B2,Y⟩
 obtain ⟨ps,e⟩:=U.ne
 obtain ⟨h,a,r,c,d,h1,h2,f,i⟩:=B2
 exact ⟨h,a,r,c,d,j.at h1 (jp h1 e ↥4) ↥1,h2,j.at f (jp f e ↥4) ↥1,i⟩
structure Lk (c:ScN) (g:IceG):Prop where
 rs:g.rs=c.rs
 rows:g.rows=c.ts
 sl:g.slopes=c.ws.map (ja c.rs)
 kv:g.kvs=c.sk.map kvA
 ll:g.lds.length=c.lds.length
 ld:∀(l:Nat) x,g.lds[l]? = some x->∃y,c.lds[l]? = some y/\x.2=y.2.map kvI
 ny:∀x∈g.lds,x.1≠g.ye
 nd:(g.lds.map (·.1)).Nodup
structure LaneF (c:ScN) (g:IceG) (ln:Int) (wy:List Int) (da:Addr) (dn:List (Int×Int)):Prop where
 way:c.ws[ln.toNat]? = some wy
 sl:g.slopes.getD ln.toNat []=ja c.rs wy
 g1:1<=(ja c.rs wy).length
 g30:(ja c.rs wy).length<=30
 cd:c.lds[ln.toNat]? = some (da,dn)
 D:c.D da
 nd:(dn.map (·.1)).Nodup
 b:∀q∈dn,0<=q.1/\q.1<=99/\1<=q.2/\q.2<=9
 l10:dn.length<=10
 at_:Zy g ln dn
 l0:0<=ln
 l1:ln< ↥18
theorem Lk.lane {b:Addr}(k:Lk c g) (O:ScOk b c) {j:Int}(U:0<=j) (h1:j<(c.ws.length:Int)):∃Y G dn,LaneF c g j Y G dn:=by
 have hi:j.toNat<c.ws.length:=()
 have f:=aa hi
 have l:g.slopes[j.toNat]? = some (ja c.rs (c.ws[j.toNat]'hi)):=by rw [k.sl,ax,f];rfl
 have r:g.slopes.length=c.ws.length:=by rw [k.sl,ag]
 obtain ⟨⟨G,dn⟩,e⟩:∃z,c.lds[j.toNat]? = some z:=⟨_,aa (by rw [O.ldl];right)⟩
 have a:=aA e
 obtain ⟨⟨n,dk⟩,d⟩:∃z,g.lds[j.toNat]? = some z:=⟨_,aa (by rw [k.ll,O.ldl];right)⟩
 obtain ⟨_,h,o⟩:=k.ld _ _ d
 rw [e] at h
 cases h
 obtain rfl:dk=dn.map kvI:=o
 have i:=bQ hi
 have m:dn.length<=10:=O.m3 _ a
 exact ⟨_,G,dn,f,by rw [ak,l];rfl,gQ O.gr O.ro i,(wN (O.gr.good O.l1 O.l8)).2.2.2 c.ws O.ro _ i,e,.inr ⟨_,a,rfl⟩,O.m1 _ a,O.m2 _ a,m,⟨U,(),⟨n,d⟩,O.m1 _ a,(),λq p=>by have:=O.m2 _ a q p;right⟩,U,()⟩
theorem LaneF.pos {z:Int}{j:List (Int×Int)}(L:LaneF c g z G U j):∀q∈j,0<=q.1/\0<=q.2:=λq a=>by have:=L.b q a;right
theorem XV {ns:List (Int×Int)}(h:∀q∈ns,0<=q.2) {y z:Int}(j:y<=z):js ns y<=js ns z:=by
 induction ns with
 | nil=>exact dm _
 | cons q r c =>
  rw [qc,qc]
  have a:=h q (aE ..)
  have b:=c λz d=>h z (aC _ d)
  by_cases e:q.1<=y
  ·rw [if_pos e,if_pos ()];right
  ·rw [if_neg e]
   split <;> right
theorem vU {ns j:List (Int×Int)}(p:j.Perm ns) (s:(j.map (·.1)).Pairwise (· <= ·)) (z: (↥82).Nodup) (h:∀q∈ns,0<=q.1/\0<=q.2) (one len y:Int) (G:0<=y): ↥136↔(ji 0 0 j one<=y/\y<ji 0 0 j (one+len)):=by
 have i:∀q∈j,0<=q.1/\0<=q.2:=λq g=>h q (p.mem_iff.mp g)
 have f:(j.map (·.1)).Nodup:=(p.map (·.1)).nodup_iff.mpr z
 have st:=qH s f
 have key:∀e:Int,(e<=y+js ns y↔ji 0 0 j e<=y):=λe=>by
  have:=yC j 0 0 e y i st G
  rw [xI p,lB] at this
  exact this
 have a:=key one
 have b:=key (one+len)
 constructor
 ·rintro ⟨c,d⟩
  refine ⟨a.mp (),?_⟩
  have:=mt b.mpr ()
  right
 ·rintro ⟨c,d⟩
  have l:=a.mpr c
  have k:=mt b.mp ()
  right
theorem vD {ns j:List (Int×Int)}(p:j.Perm ns) (s:(j.map (·.1)).Pairwise (· <= ·)) (h:∀q∈ns,0<=q.1/\0<=q.2) (goal:Int):0<=ji 0 0 j goal:=yF j 0 0 goal (λq a=>(h q (p.mem_iff.mp a)).1) s
theorem kj {ns j:List (Int×Int)}(p:j.Perm ns) (s:(j.map (·.1)).Pairwise (· <= ·)) (G: (↥82).Nodup) (h:∀q∈ns,0<=q.1/\0<=q.2) (one len:Int) (U:ji 0 0 j one<ji 0 0 j (one+len)):ji 0 0 j (one+len)-1-ji 0 0 j one<len:=by
 have d:=vD p s h one
 have a:=(vU p s G h one len _ d).mpr ⟨dm _,U⟩
 have b:=(vU p s G h one len (ji 0 0 j (one+len)-1) ()).mpr ⟨(),()⟩
 have m:=XV (λq c=>(h q c).2) (y:=ji 0 0 j one) (z:=ji 0 0 j (one+len)-1) ()
 right
inductive spSpot  (vs:List V) (H:Hp) (Q:VK) (z_3:XK):Prop
 | mk (L b sd:Addr) (c:ScN) (_:vs=[.ref b,.ref sd]) (_:jY L H b) (_:ScAt H sd c) (_:ScOk b c) (_:1<=c.ws.length) (_:c.ws.length<=6) (_:(∀w∈c.ws,1<=(ja c.rs w).length/\(ja c.rs w).length<=30)) (_:∀(ln n:Int) (w:List Int) (t:Addr) (H':Hp),0<=ln->ln<(c.ws.length:Int)->c.ws[ln.toNat]? = some w->0<=n->n<((ja c.rs w).length:Int)->jY L H' b->Ext b H H'->H t=none->H' t=some (.tup [.int ln,.int n])->Q (.ref t) H')
theorem wO:FnScope ["_law_box_here","_law_scene_here","_law_lane"] ["_law_box_here","_law_scene_here"] (j7 uy):=by walk_at "s"
theorem Uw (z:Nb2 mg) (j:Cal P w K mg base 2 "_law_take" ["_law_box_here","_law_size"] spTakeL) (F:Fun K "_law_spot" "_law_spot" uy f fd):FnOk P w K mg base CX0 3 f fd ["_law_box_here","_law_scene_here"] spSpot:=by
 refine F.ok wO (λM H Q E h=>?_) (λal A outer s H M Q E a h=>?_)
 ·obtain ⟨L,b,i,c,rfl,_⟩:=h
  rfl
 ·obtain ⟨L,b,i,c,rfl,B,S,O,ac,ab,T,k⟩:=h
  have Z:c.zs.length=c.ws.length:=(aV S.gi).trans (ag _)
  refine ⟨_,(j5 (jo 2 wO.nd (je j (a.mono ⋯) rfl (j0 (pv 0) (j0 (jb (jg K) rfl z.b_len aR (j0 (jy (jM a) (pv 1) jr (λ_ _=>rfl)) j2)) j2))))
   (j9 (jj (qa (j0 (pv 2) (j0 (je j (a.mono ⋯) rfl (j0 (pv 0) (j0 (jb (jg K) rfl z.b_len aR (j0 (jm (jd K) (jy (jM a) (pv 1) jr (λ_ _=>rfl)) (pv 2) (λ_ _=>rfl)) j2)) j2))) j2)))))),?_⟩
  left
  refine ⟨i,.ref c.gl,rfl,by rw [<- qI c.p c.q c.sg c.gl c.ll];exact qM.k (k:=.inr "grounds") S.sd,?_⟩
  left
  refine ⟨c.gl,_,rfl,.inl (SqL.of S.gl),?_⟩
  left
  refine ⟨L,b,_,rfl,B,⟨(),()⟩,λu H1 d Y X l=>?_⟩
  have m:=S.ext O B l
  have hi:u.toNat<c.zs.length:=()
  obtain ⟨gw,g,D,G,C⟩:=Paired.get m.gi (aa hi)
  rw [ax] at g
  obtain ⟨o,e,rfl⟩:=Option.map_eq_some_iff.mp g
  have ae:=T o (aA e)
  left
  refine ⟨i,.ref c.gl,rfl,by rw [<- qI c.p c.q c.sg c.gl c.ll];exact qM.k (k:=.inr "grounds") m.sd,?_⟩
  left
  refine ⟨_,_,_,_,rfl,rfl,SqL.of m.gl,qo d (v:=V.ref D) (by rw [aa hi,G]),?_⟩
  left
  refine ⟨D,_,rfl,.inl (SqL.of C),?_⟩
  rw [ag]
  left
  refine ⟨L,b,_,rfl,X,⟨(),()⟩,λn H2 R N J I=>?_⟩
  left
  refine ⟨by show 2<=sizeLine;decide,λt U y x r=>?_⟩
  have tb:t≠b:=J.ne y
  exact k u n o t U d () e R N (J.same r) ((l.trans I).trans (Ext.of_same r)) (l.free (I.free y tb) tb) x
noncomputable def chg (t:T3) (h:Int):Int:=if t.1<=h then t.2.1 else-t.2.2
inductive spChange  (vs:List V) (H:Hp) (Q:VK) (z_3:XK):Prop
 | mk (p:Addr) (t:T3) (h:Int) (_:vs=[.ref p,.int h]) (_:H p=some (yS t)) (_:Q (.int (chg t h)) H)
theorem vZ:FnScope ["row","height","line","snow","sun"] ["row","height"] (j7 gk):=by walk_at "s"
theorem YO (F:Fun K "change" "change" gk f fd):FnOk P w K mg base CX0 1 f fd ["row","height"] spChange:=by
 refine F.ok vZ (λa H Q E h=>?_) (λc A outer s H a Q E d h=>?_)
 ·obtain ⟨p,t,h,rfl,_⟩:=h
  rfl
 ·obtain ⟨p,t,h,rfl,b,k⟩:=h
  unfold chg at k
  refine ⟨_,(j5 (zj (pv 0) (qS (n:=3) K rfl (jn (jc (i:=2) vZ.nd rfl (aP rfl)) (jn (jc (i:=3) vZ.nd rfl (aP rfl)) (jn (jc (i:=4) vZ.nd rfl (aP rfl)) qz)))))
   (j5 (jV (jA XG (pv 1) (pv 2) (jF _)) (j9 (jj (pv 3))) jw)
   (j9 (jj (vi zB (pv 4)))))),?_⟩
  left
  refine ⟨p,_,rfl,SqT.of b,rfl,?_⟩
  refine ⟨_,_,rfl,_,_,rfl,_,_,rfl,rfl,?_⟩
  left
  refine qv (λh1=>?_) (λh1=>?_)
  ·left
   rw [if_pos h1] at k
   exact k
  ·left
   rw [if_neg h1] at k
   exact k
inductive spWish  (vs:List V) (H:Hp) (Q:VK) (z_3:XK):Prop
 | mk (p:Addr) (t:T3) (h:Int) (_:vs=[.ref p,.int h]) (_:H p=some (yS t)) (_:Q (.int (chg t h)) H)
theorem XR:FnScope ["_law_row_here","_law_height"] ["_law_row_here","_law_height"] (j7 uu):=by walk_at "s"
theorem Wf (F:Fun K "_law_wish" "_law_wish" uu f fd):FnOk P w K mg base CX0 1 f fd ["_law_row_here","_law_height"] spWish:=by
 refine F.ok XR (λb H Q E h=>?_) (λc A outer s H b Q E d h=>?_)
 ·obtain ⟨p,t,h,rfl,_⟩:=h
  rfl
 ·obtain ⟨p,t,h,rfl,a,k⟩:=h
  unfold chg at k
  have a:H p=some (.tup [.int t.1,.int t.2.1,.int t.2.2]):=a
  refine ⟨_,(j5 (jV (jA vg (pv 1) ↥66 (jF _)) (j9 (jj (jh jN j4 ↥66))) jw)
   (j9 (jj ↥66))),?_⟩
  left
  refine qv (λh1=>?_) (λh1=>?_)
  ·left
   rw [if_neg (),show-t.2.2=0-t.2.2 by right] at k
   exact k
  ·left
   rw [if_pos ()] at k
   exact k
noncomputable def xY (H:Hp) (sk:List (Int×Addr)) (wr:List (Int×T3)):Prop:=cz (λ(z:Int×Addr) (q:Int×T3)=>z.1=q.1/\H z.2=some (yS q.2)) sk wr
theorem xY.keep {sk:List (Int×Addr)}(h:xY H sk wr) (t:jq H H'):xY H' sk wr:=Paired.mapP h λ_ _ ⟨e,q⟩=>⟨e,t _ _ q⟩
theorem xY.of {H:Hp}:∀{sk:List (Int×Addr)},(∀z∈sk,∃t,H z.2=some (yS t)/\good t=true)->∃wr,xY H sk wr
 | [],_=>⟨[],.nil⟩
 | z::r,h=>by
  obtain ⟨t,c,_⟩:=h z (aE ..)
  obtain ⟨wr,a⟩:=xY.of (sk:=r) λu b=>h u (aC _ b)
  exact ⟨(z.1,t)::wr,.cons ⟨rfl,c⟩ a⟩
noncomputable def qV (wr:List (Int×T3)) (ts:List T3) (y:Int):T3 :=
 match wr.find? λq=>decide (q.1=y) with
 | some q=>q.2
 | none=>ts.getD (y % ↥110).toNat (0,0,0)
theorem hV {H:Hp}:∀{sk:List (Int×Addr)}{wr:List (Int×T3)},xY H sk wr->∀y:Int,
  (∃a q,qG (sk.map kvA) (.inl y)=some (.ref a)/\(wr.find? λq=>decide (q.1=y))=some q/\H a=some (yS q.2))\/(qG (sk.map kvA) (.inl y)=none/\(wr.find? λq=>decide (q.1=y))=none)
 | _,_,.nil,y=>.inr ⟨rfl,rfl⟩
 | z::sk,q::wr,.cons ⟨e,h⟩ r,y=>by
  rw [aU]
  by_cases c:z.1=y
  ·subst c
   exact .inl ⟨z.2,q,xR,by rw [mR (by rw [decide_eq_true e.symm])],h⟩
  ·have d:qG (kvA z::sk.map kvA) (.inl y)=qG (sk.map kvA) (.inl y):=jz λw=>c (fD w)
   have b:((q::wr).find? λq=>decide (q.1=y))=wr.find? λq=>decide (q.1=y):=mS (by rw [decide_eq_false (by rw [<- e];exact c)];exact ar)
   rw [d,b]
   exact hV r y
theorem Vm (r:xo H ys ts) (h1:1<=ts.length) (y:Int):∃a,atI ys (y % (ys.length:Int))=some (.ref a)/\H a=some (yS (ts.getD (y % ↥110).toNat (0,0,0))):=by
 have e:ys.length=ts.length:=r.length
 have b:(0:Int)<ts.length:=()
 have c:=dQ y (show ↥110≠0 by right)
 have h:=dh y b
 have hi:(y % ↥110).toNat<ys.length:=()
 obtain ⟨t,d,a,g,f⟩:=r.get (aa hi)
 refine ⟨a,?_,?_⟩
 ·rw [e]
  exact qo c (by rw [aa hi,g])
 ·rw [ak,d]
  exact f
inductive spSky (C:Addr) (vs:List V) (H:Hp) (Q:VK) (z_3:XK):Prop
 | mk (p:Addr) (g:IceG) (y:Int) (sk:List (Int×Addr)) (wr:List (Int×T3)) (_:vs=[.ref p,.int y]) (_:IceAt C H p g) (_:g.kvs=sk.map kvA) (_:xY H sk wr) (_:1<=g.rows.length) (_:g.rows.length<=1000) (_:∀t,H t=some (yS (qV wr g.rows y))->Q (.ref t) H)
theorem QO:FnScope ["self","year"] ["self","year"] (j7 ux):=by walk_at "s"
theorem Xh (z:Nb2 mg) (T:IceC K C) (F:Fun K "sky" "Ice.sky" ux f fd):FnOk P w K mg base CX0 1 f fd ["self","year"] (spSky C):=by
 refine F.ok QO (λl H Q E h=>?_) (λt A outer s H l Q E o h=>?_)
 ·obtain ⟨p,g,y,i,wr,rfl,_⟩:=h
  rfl
 ·obtain ⟨p,g,y,i,wr,rfl,I,r,n,h1,h2,k⟩:=h
  have b:H g.ye=some (.dK (i.map kvA)):=by rw [<- r];exact I.ye
  obtain ⟨m,j,c⟩:=Vm I.rows h1 y
  refine ⟨_,(j9 (jj (gf (jM o) (xg K (pv 0)) (pv 1) (jm (jd K) (xg K (pv 0)) (jh zE (pv 1) (jb (jg K) rfl z.b_len aR (j0 (xg K (pv 0)) j2))) (λ_ _=>rfl)) ⟨rfl,rfl,rfl,rfl⟩))),?_⟩
  left
  refine ⟨p,C,g.dx,_,_,rfl,I.ob,T.cl,T.nY,yM _ _ _ _ _,?_⟩
  left
  refine ⟨.inl ⟨_,.inl b⟩,?_⟩
  left
  refine ⟨p,C,g.dx,_,_,rfl,I.ob,T.cl,T.nC,uE _ _ _ _ _,?_⟩
  left
  refine ⟨p,C,g.dx,_,_,rfl,I.ob,T.cl,T.nC,uE _ _ _ _ _,?_⟩
  left
  refine ⟨g.cy,_,rfl,.inl (SqL.of I.cy),?_⟩
  have u:g.ys.length=g.rows.length:=I.rows.length
  left
  refine ⟨_,_,_,_,rfl,rfl,SqL.of I.cy,j,?_⟩
  rcases hV n y with ⟨a,q,e,d,h⟩ | ⟨e,d⟩
  ·refine ⟨some (.ref a),by rw [<- e];exact qM.k (k:=.inl y) b,?_⟩
   exact k a (by unfold qV;rw [d];exact h)
  ·refine ⟨none,by rw [<- e];exact qM.k (k:=.inl y) b,?_⟩
   exact k m (by unfold qV;rw [d];exact c)
inductive spRowL  (vs:List V) (H:Hp) (Q:VK) (z_3:XK):Prop
 | mk (sd:Addr) (c:ScN) (y:Int) (wr:List (Int×T3)) (_:vs=[.ref sd,.int y]) (_:ScAt H sd c) (_:xY H c.sk wr) (_:1<=c.ts.length) (_:c.ts.length<=1000) (_:∀t,H t=some (yS (qV wr c.ts y))->Q (.ref t) H)
theorem XU:FnScope ["_law_scene_here","_law_year_here"] ["_law_scene_here","_law_year_here"] (j7 ww):=by walk_at "s"
theorem G8 (z:Nb2 mg) (F:Fun K "_law_row" "_law_row" ww f fd):FnOk P w K mg base CX0 1 f fd ["_law_scene_here","_law_year_here"] spRowL:=by
 refine F.ok XU (λl H Q E h=>?_) (λo A outer s H l Q E b h=>?_)
 ·obtain ⟨d,c,y,wr,rfl,_⟩:=h
  rfl
 ·obtain ⟨d,c,y,wr,rfl,S,n,h1,h2,k⟩:=h
  refine ⟨_,(j5 (jV (WY (WO (jM b) (pv 1) ↥155) ↥63) (j9 (jj (jy (jM b) ↥155 (pv 1) (λ_ _=>rfl)))) jw)
   (j9 (jj (jm (jd K) ↥155 (jh zE (pv 1) (jb (jg K) rfl z.b_len aR (j0 ↥155 j2))) (λ_ _=>rfl))))),?_⟩
  obtain ⟨m,j,g⟩:=Vm S.r3 h1 y
  left
  refine ⟨d,.ref c.sg,rfl,by rw [<- yD c.p c.q c.sg c.gl c.ll];exact qM.k (k:=.inr "single") S.sd,?_⟩
  rcases hV n y with ⟨a,q,e,i,h⟩ | ⟨e,i⟩
  ·refine ⟨c.sg,some (.ref a),rfl,.inl ⟨_,.inl y,S.sg,rfl,e.symm⟩,?_⟩
   left
   refine ⟨d,.ref c.sg,rfl,by rw [<- yD c.p c.q c.sg c.gl c.ll];exact qM.k (k:=.inr "single") S.sd,?_⟩
   left
   refine ⟨c.sg,.ref a,rfl,.inl ⟨_,.inl y,S.sg,rfl,e.symm⟩,?_⟩
   exact k a (by unfold qV;rw [i];exact h)
  ·refine ⟨c.sg,none,rfl,.inl ⟨_,.inl y,S.sg,rfl,e.symm⟩,?_⟩
   have r:c.ys.length=c.ts.length:=S.r3.length
   left
   refine ⟨d,.ref c.q,rfl,by rw [<- Q0 c.p c.q c.sg c.gl c.ll];exact qM.k (k:=.inr "rows") S.sd,?_⟩
   left
   refine ⟨d,.ref c.q,rfl,by rw [<- Q0 c.p c.q c.sg c.gl c.ll];exact qM.k (k:=.inr "rows") S.sd,?_⟩
   left
   refine ⟨c.q,_,rfl,.inl (SqL.of S.q),?_⟩
   left
   refine ⟨_,_,_,_,rfl,rfl,SqL.of S.q,j,?_⟩
   exact k m (by unfold qV;rw [i];exact g)
noncomputable abbrev Q4:=Int×Int×Int×Int
noncomputable abbrev tup4 (q:Q4):HO:=.tup [.int q.1,.int q.2.1,.int q.2.2.1,.int q.2.2.2]
noncomputable def gZ (H:Hp) (j:List V) (qs:List Q4):Prop:=cz (λv (q:Q4)=>∃b,v=V.ref b/\H b=some (tup4 q)) j qs
theorem gZ.keep {j:List V}(h:gZ H j qs) (t:jq H H'):gZ H' j qs:=Paired.mapP h λ_ _ ⟨b,e,q⟩=>⟨b,e,t _ _ q⟩
noncomputable def plc (ns:List (Int×Int)) (m y:Int):Int:=y+js ns y-m
noncomputable def qy (ns:List (Int×Int)) (gd:List Int) (wr:List (Int×T3)) (ts:List T3) (m y:Int):Int:=chg (qV wr ts y) (gd.getD (plc ns m y).toNat 0)
noncomputable def qw (ns:List (Int×Int)) (gd:List Int) (wr:List (Int×T3)) (ts:List T3) (m fst:Int):Nat->Int
 | 0=>0
 | i+1=>qw ns gd wr ts m fst i+(if qy ns gd wr ts m (fst+(i:Int)) > - qw ns gd wr ts m fst i then qy ns gd wr ts m (fst+(i:Int)) else-qw ns gd wr ts m fst i)
noncomputable def zG (ns:List (Int×Int)) (gd:List Int) (wr:List (Int×T3)) (ts:List T3) (m fst:Int) (i:Nat):Q4 :=
 (fst+(i:Int),plc ns m (fst+(i:Int)),(if qy ns gd wr ts m (fst+(i:Int)) > - qw ns gd wr ts m fst i then qy ns gd wr ts m (fst+(i:Int)) else-qw ns gd wr ts m fst i),qw ns gd wr ts m fst (i+1))
noncomputable def wK (ns:List (Int×Int)) (gd:List Int) (wr:List (Int×T3)) (ts:List T3) (m fst:Int) (n:Nat):List Q4:=(aM n).map (zG ns gd wr ts m fst)
noncomputable def zR (j:List (Int×Int)) (gd:List Int) (wr:List (Int×T3)) (ts:List T3) (m:Int):List Q4:=wK j gd wr ts m (ji 0 0 j m) (ji 0 0 j (m+ ↥58)-ji 0 0 j m).toNat
theorem kJ (ns:List (Int×Int)) (gd:List Int) (wr:List (Int×T3)) (ts:List T3) (m fst:Int) (n:Nat):wK ns gd wr ts m fst (n+1)=wK ns gd wr ts m fst n++[zG ns gd wr ts m fst n]:=by
 unfold wK
 rw [bZ,aq]
 rfl
theorem wM:∀{xs ys:List (Int×Int)},xs.Perm ys->(xs.map (·.1)).Pairwise (· < ·)->(ys.map (·.1)).Pairwise (· < ·)->xs=ys
 | [],ys,p,_,_=>p.nil_eq
 | x::r,[],p,_,_=>absurd p.length_eq (by simp)
 | x::r,y::t,p,d,c=>by
  rw [aU,i6] at d c
  have e:x=y:=by
   rcases List.mem_cons.mp (p.mem_iff.mpr (aE (a:=y) (l:=t))) with e | e
   ·exact e.symm
   ·rcases List.mem_cons.mp (p.mem_iff.mp (aE (a:=x) (l:=r))) with e2 | e2
    ·exact e2
    ·have a:=d.1 _ (bg e)
     have b:=c.1 _ (bg e2)
     right
  subst e
  rw [wM (oZ p) d.2 c.2]
theorem Jk {ns ms os:List (Int×Int)}(j: (↥82).Nodup) (p:ms.Perm ns) (s: (↥111).Pairwise (· <= ·)) (q:os.Perm ns) (t:(os.map (·.1)).Pairwise (· <= ·)):os=ms :=
 wM (q.trans p.symm) (qH t ((q.map (·.1)).nodup_iff.mpr j)) (qH s ((p.map (·.1)).nodup_iff.mpr j))
theorem zT:∀{ns:List (Int×Int)},(↥82).Nodup->∀y:Int,js ns (y+1)=js ns y+jR ns (y+1)
 | [],_,y=>rfl
 | q::r,c,y=>by
  rw [aU] at c
  obtain ⟨h1,h2⟩:=List.nodup_cons.mp c
  have f:=zT h2 y
  rw [qc,qc]
  unfold jR
  by_cases e:q.1=y+1
  ·have z:jR r (y+1)=0:=by
    have:∀{l:List (Int×Int)} {y:Int},y∉l.map (·.1)->jR l y=0:=λ{l}=>by
     induction l with
     | nil=>intro _ _;rfl
     | cons a t d =>
      intro y b
      rw [aU,fm,not_or] at b
      unfold jR
      rw [if_neg (λz=>b.1 z.symm)]
      exact d b.2
    exact this (by rw [<- e];exact h1)
   rw [if_pos e,if_pos (),if_neg ()]
   right
  ·rw [if_neg e]
   by_cases l:q.1<=y
   ·rw [if_pos l,if_pos ()];right
   ·rw [if_neg l,if_neg ()];right
theorem wu:∀(ns:List (Int×Int)) (y:Int),(qG (ns.map kvI) (.inl y)).getD (.int 0) = .int (jR ns y)
 | [],y=>rfl
 | q::r,y=>by
  rw [aU]
  unfold jR
  by_cases e:q.1=y
  ·subst e
   rw [if_pos rfl,show qG (kvI q::r.map kvI) (.inl q.1)=some (.int q.2) from xR]
   rfl
  ·rw [if_neg e,show qG (kvI q::r.map kvI) (.inl y)=qG (r.map kvI) (.inl y) from jz λw=>e (fD w)]
   exact wu r y
theorem Z9 {gd:List Int}{m:Int}{i:Nat}(h:i<(ji 0 0 j (m+ ↥58)-ji 0 0 j m).toNat):(zR j gd wr ts m)[i]? = some (zG j gd wr ts m (ji 0 0 j m) i):=by
 unfold zR wK
 rw [ax,eA h]
 rfl
theorem Zx (j:List (Int×Int)) (gd:List Int) (wr:List (Int×T3)) (ts:List T3) (m:Int):(zR j gd wr ts m).length=(ji 0 0 j (m+ ↥58)-ji 0 0 j m).toNat:=by
 unfold zR wK
 rw [ag,bG]
inductive spLifeL  (vs:List V) (H:Hp) (Q:VK) (z_3:XK):Prop
 | mk (sd:Addr) (c:ScN) (l one len:Int) (wy:List Int) (da:Addr) (dn ms:List (Int×Int)) (wr:List (Int×T3)) (_:vs=[.ref sd,.int l,.int one,.int len]) (_:ScAt H sd c) (_:0<=l) (_:c.ws[l.toNat]? = some wy) (_:len=↥133) (_:1<=len) (_:len<=100) (_:c.lds[l.toNat]? = some (da,dn)) (_:dn.length<=100) (_:(dn.map (·.1)).Nodup) (_:(∀q∈dn,0<=q.1/\0<=q.2/\q.2<=9)) (_:ms.Perm dn) (_: (↥111).Pairwise (· <= ·)) (_:xY H c.sk wr) (_:1<=c.ts.length) (_:c.ts.length<=1000) (_:∀o H' out,H o=none->H' o=some (.lst out)->gZ H' out (zR ms (ja c.rs wy) wr c.ts one)->FrM c.D H H'->Q (.ref o) H')
theorem qR:FnScope ["_law_scene_here","_law_lane","_law_one","_law_length","_law_years","_law_found","_law_high","_law_year_here","_law_place","_law_wish_here","_law_later"] ["_law_scene_here","_law_lane","_law_one","_law_length"] (j7 uv):=by walk_at "s"
theorem ScAt.frM {sd:Addr}(S:ScAt H sd c) (f:FrM c.D H H'):ScAt H' sd c:=S.keep (N:=λ_=>False) (λc o h _=>f c o h) (λ_ _ _ z=>z) id S.nD id id id id (λ_ _=>id) id (λ_ _=>id)
theorem FrM.keepT (f:FrM M H H'):jq H H':=λa xs h=>f.at h ↥1
theorem VP (nb:Nb2 mg) (U:Cal P w K mg base 2 "_law_span" ["_law_scene_here","_law_lane","_law_one","_law_length"] spSpanL) (Y:Cal P w K mg base 1 "_law_ride" ["_law_scene_here","_law_lane","_law_year_here"] spRide) (G:Cal P w K mg base 1 "_law_wish" ["_law_row_here","_law_height"] spWish) (ab:Cal P w K mg base 1 "_law_row" ["_law_scene_here","_law_year_here"] spRowL)
  (F:Fun K "_law_life" "_law_life" uv f fd):FnOk P w K mg base CX0 3 f fd ["_law_scene_here","_law_lane","_law_one","_law_length"] spLifeL:=by
 refine F.ok qR ↥29 (λb2 A outer s H vs Q E hr h=>?_)
 ·obtain ⟨M,c,l,one,len,wy,da,O,b,wr,rfl,_⟩:=h
  rfl
 ·obtain ⟨M,c,l,one,len,wy,da,O,b,wr,rfl,S,l0,a0,bi,ae,ac,a4,L,nd,J,hp,hs,hw,t1,t2,k⟩:=h
  have ap:=aA a4
  have a5:c.D da:=.inr ⟨_,ap,rfl⟩
  have a6:c.lds.map (λx=>V.ref x.1)=(c.lds.map (·.1)).map V.ref:=by rw [bW];rfl
  have a7:(c.lds.map (·.1))[l.toNat]? = some da:=by rw [ax,a4];rfl
  have a8:∀q∈O,0<=q.2/\q.2<=9:=λq hq=>⟨(J q hq).2.1,(J q hq).2.2⟩
  have I:∀q∈O,0<=q.1/\0<=q.2:=λq hq=>⟨(J q hq).1,(J q hq).2.1⟩
  have r:=V8 hp hs nd I one len ae rfl rfl
  have r:wB O one len=_:=r
  unfold zR at k
  rw [<- bi] at k
  have on:=λw hw=>vU hp hs nd I one len w hw
  have f0:=vD hp hs I one
  have aL:=λh=>kj hp hs nd I one len h
  generalize ji 0 0 b one=fst at *
  generalize ji 0 0 b (one+len)=j at *
  refine ⟨_,(j5 (jo 4 qR.nd (je U (hr.mono ⋯) rfl (j0 (pv 0) (j0 (pv 1) (j0 (pv 2) (j0 (pv 3) j2))))))
   (j5 (jo 5 qR.nd (jD j2))
   (j5 (jV (jA Ux (pv 4) ur (jF _)) (j5 (jo 6 qR.nd j4)
   (j9 (xf bp rfl (vX rfl nb.b_range (j0 (jm (qp K) (pv 4) j4 (λ_ _=>rfl)) (j0 (jh jE (jm (qp K) (pv 4) j4 (λ_ _=>rfl)) j4) j2))) (jc (i:=7) qR.nd rfl (aP rfl)) (j5 (jo 8 qR.nd (jh jN (je Y (hr.mono ⋯) rfl (j0 (pv 0) (j0 (pv 1) (j0 (pv 7) j2)))) (pv 2)))
   (j5 (jo 9 qR.nd (je G (hr.mono ⋯) rfl (j0 (je ab (hr.mono ⋯) rfl (j0 (pv 0) (j0 (pv 7) j2))) (j0 (jm (jd K) ↥99 (pv 8) (λ_ _=>rfl)) j2))))
   (j5 (jo 10 qR.nd (jb (qO rfl) rfl nb.b_max fg (j0 j4 (j0 (jh jE (pv 6) (pv 9)) j2))))
   (j5 (jX (zS K bK bI bJ qq (pv 5) (j0 (qa (j0 (pv 7) (j0 (pv 8) (j0 (jh jN (pv 10) (pv 6)) (j0 (pv 10) j2))))) j2)))
   (j9 (jo 6 qR.nd (pv 10)))))))))) jw)
   (j9 (jj (pv 5)))))),?_⟩
  left
  refine ⟨c.D,M,c.p,c.q,c.sg,c.gl,c.ll,da,c.lds.map (·.1),l,one,len,O,rfl,S.sd,(by rw [<- a6];exact S.ll),l0,a7,S.ld _ ap,a5,S.nD,L,nd,a8,ae,ac,λen H1 f1=>?_,λu v t H1 N hv f1 br=>?_⟩
  ·rw [r] at en
   have m:=congrArg nJ en
   rw [ag,bG] at m
   have m:(j-fst).toNat=0:=m
   rw [m] at k
   left
   refine ⟨aN _,λfo H2 an o s2=>?_⟩
   left
   exact k fo H2 [] (f1.no an) o .nil (f1.trans (FrM.of_same s2))
  ·have a1:0<(j-fst).toNat:=by
    rw [r] at N
    cases e:(j-fst).toNat with
    | zero=>rw [e] at N;cases N
    | succ n=>right
   rw [r,ZK a1] at N
   rw [r,Zz a1] at hv
   have eu:=aI N
   have ev:=aI hv
   have ev:v=j-1:=()
   subst eu ev
   clear N hv r
   have aL:=aL ()
   left
   refine ⟨aN _,λfo H2 an o s2=>?_⟩
   have b0:=s2 _ _ br
   have am:H fo=none:=f1.no an
   have m:(j-1+1-fst).toNat=(j-fst).toNat:=()
   have X:=λy=>xI hp y
   have bl:c.zs.length=c.ws.length:=(aV S.gi).trans (ag _)
   have a2:l.toNat<c.zs.length:=by rw [bl];exact (List.getElem?_eq_some_iff.mp a0).1
   obtain ⟨bt,al,ga,bv,bs⟩:=Paired.get S.gi (aa a2)
   have:bt=ja c.rs wy:=by
    rw [ax,a0] at al
    exact (aI al).symm
   subst this
   generalize b1:ja c.rs wy=d at *
   left
   refine ⟨_,_,rfl,?_⟩
   refine qY (λi σ R=>∃(x7 x8 x9 T:Option V) (g:List V),σ=[some (.ref M),some (.int l),some (.int one),some (.int len),some (.ref t),some (.ref fo),some (.int (qw b d wr c.ts one fst i)),x7,x8,x9,T]/\R fo=some (.lst g)/\g.length=i/\gZ R g (wK b d wr c.ts one fst i)/\FrM c.D H R) ?_ ?_ ?_
   ·exact ⟨none,none,none,none,[],rfl,o,rfl,.nil,f1.trans (FrM.of_same s2)⟩
   ·rintro i σ R hi ⟨x7,x8,x9,T,g,rfl,h3,a3,r3,f3⟩
    rw [m] at hi
    have y0:0<=fst+(i:Int):=()
    have B:=(on _ y0).mpr ⟨(),()⟩
    rw [<- X] at B
    have B:0<=plc b one (fst+(i:Int))/\plc b one (fst+(i:Int))<len:=B
    have S3:=S.frM f3
    left
    refine ⟨c.D,M,c.p,c.q,c.sg,c.gl,c.ll,da,c.lds.map (·.1),l,_,O,rfl,S3.sd,(by rw [<- a6];exact S3.ll),l0,a7,S3.ld _ ap,a5,S3.nD,L,nd,a8,λH4 f4=>?_⟩
    have C:=f3.trans f4
    have S4:=S.frM C
    have h4:=f4.at h3 ↥1
    have r4:=r3.keep (FrM.keepT f4)
    have bm:=hw.keep (FrM.keepT C)
    rw [<- X]
    left
    refine ⟨M,c,fst+(i:Int),wr,rfl,S4,bm,t1,t2,λtr bn=>?_⟩
    left
    refine ⟨M,.ref c.gl,rfl,by rw [<- qI c.p c.q c.sg c.gl c.ll];exact qM.k (k:=.inr "grounds") S4.sd,?_⟩
    left
    refine ⟨_,_,_,_,rfl,rfl,SqL.of S4.gl,qo l0 (v:=V.ref ga) (by rw [aa a2,bv]),?_⟩
    left
    refine ⟨_,_,_,_,rfl,rfl,SqL.of (C.at bs ↥1),qo B.1 (Zs ()),?_⟩
    left
    refine ⟨tr,_,_,rfl,bn,?_⟩
    left
    refine ⟨_,_,rfl,?_⟩
    left
    refine ⟨.inl ⟨rfl,_,SqL.of h4⟩,?_⟩
    left
    refine ⟨by show 4<=sizeLine;decide,λtq H5 bq a9 Z=>?_⟩
    refine ⟨_,_,_,rfl,rfl,Z _ _ h4,jf (),?_⟩
    have bk:tq≠fo:=(j1 h4 bq).symm
    have as:qw b d wr c.ts one fst (i+1)=↥19:=by
     show qw b d wr c.ts one fst i+ ↥21=_
     split <;> split <;> right
    have bd: ↥21=↥19-qw b d wr c.ts one fst i:=by split <;> split <;> right
    left
    refine ⟨_,_,_,_,g++[.ref tq],by rw [as];rfl,j6,by rw [aw,a3];rfl,?_,(C.trans (FrM.of_same Z)).put am⟩
    rw [kJ]
    refine cN (r4.keep λa xs q=>by rw [j8 (jp (Z _ _ q) (Z _ _ h4) ↥4)];exact Z _ _ q) ⟨tq,rfl,?_⟩
    rw [j8 bk,a9]
    unfold zG
    rw [as,bd]
    rfl
   ·rintro σ R ⟨x7,x8,x9,T,g,rfl,h3,a3,r3,f3⟩
    rw [m] at r3
    left
    exact k fo R g am h3 r3 f3
inductive spLifeAt  (vs:List V) (H:Hp) (Q:VK) (z_3:XK):Prop
 | mk (sd:Addr) (c:ScN) (l n y:Int) (wy:List Int) (da:Addr) (dn ms:List (Int×Int)) (wr:List (Int×T3)) (_:vs=[.ref sd,.int l,.int n,.int y]) (_:ScAt H sd c) (_:0<=l) (_:c.ws[l.toNat]? = some wy) (_:0<=n) (_:n< ↥133) (_:(ja c.rs wy).length<=100) (_:0<=y) (_:c.lds[l.toNat]? = some (da,dn)) (_:dn.length<=100) (_:(dn.map (·.1)).Nodup) (_:(∀q∈dn,0<=q.1/\0<=q.2/\q.2<=9)) (_:ms.Perm dn) (_: (↥111).Pairwise (· <= ·)) (_:xY H c.sk wr) (_:1<=c.ts.length) (_:c.ts.length<=1000) (_:∀o H' out,H o=none->H' o=some (.lst out)->gZ H' out (zR ms (ja c.rs wy) wr c.ts (y+js dn y-n))->FrM c.D H H'->Q (.ref o) H')
theorem jK:FnScope ["_law_scene_here","_law_lane","_law_place","_law_year_here","_law_ground_here","_law_one","_law_first","_law_step","_law_rows","_law_high","_law_when","_law_spot_here","_law_later"] ["_law_scene_here","_law_lane","_law_place","_law_year_here"] (j7 yq):=by walk_at "s"
theorem Zc (Y:Nb2 mg) (j:Cal P w K mg base 1 "_law_ride" ["_law_scene_here","_law_lane","_law_year_here"] spRide) (G:Cal P w K mg base 1 "_law_wish" ["_law_row_here","_law_height"] spWish) (U:Cal P w K mg base 1 "_law_row" ["_law_scene_here","_law_year_here"] spRowL)
  (F:Fun K "_law_life_at" "_law_life_at" yq f fd):FnOk P w K mg base CX0 2 f fd ["_law_scene_here","_law_lane","_law_place","_law_year_here"] spLifeAt:=by
 refine F.ok jK ↥29 (λcb A outer s H vs Q E Z h=>?_)
 ·obtain ⟨u,c,l,n,y,wy,da,B,b,wr,rfl,_⟩:=h
  rfl
 ·obtain ⟨u,c,l,n,y,wy,da,B,b,wr,rfl,S,l0,a7,n0,n1,br,y0,a9,t,X,T,J,hs,hw,t1,t2,k⟩:=h
  have O:=aA a9
  have aL:c.D da:=.inr ⟨_,O,rfl⟩
  have a1:c.lds.map (λx=>V.ref x.1)=(c.lds.map (·.1)).map V.ref:=by rw [bW];rfl
  have a3:(c.lds.map (·.1))[l.toNat]? = some da:=by rw [ax,a9];rfl
  have a4:∀q∈B,0<=q.2/\q.2<=9:=λq I=>⟨(T q I).2.1,(T q I).2.2⟩
  have R:∀q∈B,0<=q.1/\0<=q.2:=λq I=>⟨(T q I).1,(T q I).2.1⟩
  obtain ⟨one,a0⟩:∃one,y+js B y-n=one:=⟨_,rfl⟩
  rw [a0] at k
  unfold zR at k
  have C:=λy=>xI J y
  have on:=λw hw=>vU J hs X R one (ja c.rs wy).length w hw
  have a6:∀w,0<=w->(one<=w+js B w↔ji 0 0 b one<=w):=λw hw=>by
   have:=yC b 0 0 one w (λq I=>R q (J.mem_iff.mp I)) (qH hs ((J.map (·.1)).nodup_iff.mpr X)) hw
   rw [xI J,lB] at this
   exact this
  have f0:=vD J hs R one
  have b5:=(on y y0).mp ⟨(),()⟩
  have b4:=kj J hs X R one (ja c.rs wy).length ()
  generalize ji 0 0 b one=fst at *
  generalize ji 0 0 b (one+ ↥133)=e at *
  have bs:c.zs.length=c.ws.length:=(aV S.gi).trans (ag _)
  have a8:l.toNat<c.zs.length:=by rw [bs];exact (List.getElem?_eq_some_iff.mp a7).1
  obtain ⟨b2,an,ga,b3,N⟩:=Paired.get S.gi (aa a8)
  have:b2=ja c.rs wy:=by
   rw [ax,a7] at an
   exact (aI an).symm
  subst this
  generalize b6:ja c.rs wy=d at *
  refine ⟨_,(j5 (jo 4 jK.nd (jm (jd K) (jy (jM Z) (pv 0) jr (λ_ _=>rfl)) (pv 1) (λ_ _=>rfl)))
   (j5 (jo 5 jK.nd (jh jN (je j (Z.mono ⋯) rfl (j0 (pv 0) (j0 (pv 1) (j0 (pv 3) j2)))) (pv 2)))
   (j5 (jo 6 jK.nd (pv 3))
   (j5 (xf bp rfl (jU rfl Y.b_range (j0 (jb (jg K) rfl Y.b_len aR (j0 (pv 4) j2)) j2)) (jc (i:=7) jK.nd rfl (aP rfl)) (j9 (jV (PW.pt (Vp (jA Uf (pv 6) j4 (jF _)) (Y8 (jA XG (je j (Z.mono ⋯) rfl (j0 (pv 0) (j0 (pv 1) (j0 (jh jN (pv 6) j4) j2)))) (pv 5) (jF _))))) (j9 (jo 6 jK.nd (jh jN (pv 6) j4))) jw)))
   (j5 (jo 8 jK.nd (jD j2))
   (j5 (jo 9 jK.nd j4)
   (j5 (xf bp rfl (vX rfl Y.b_range (j0 (pv 6) (j0 (jh jE (pv 3) (jb (jg K) rfl Y.b_len aR (j0 (pv 4) j2))) j2))) (jc (i:=10) jK.nd rfl (aP rfl)) (j5 (jo 11 jK.nd (jh jN (je j (Z.mono ⋯) rfl (j0 (pv 0) (j0 (pv 1) (j0 (pv 10) j2)))) (pv 5)))
   (j9 (jV (jA vg (pv 11) (jb (jg K) rfl Y.b_len aR (j0 (pv 4) j2)) (jF _)) (j5 (jo 12 jK.nd (jb (qO rfl) rfl Y.b_max fg (j0 j4 (j0 (jh jE (pv 9) (je G (Z.mono ⋯) rfl (j0 (je U (Z.mono ⋯) rfl (j0 (pv 0) (j0 (pv 10) j2))) (j0 (jm (jd K) (pv 4) (pv 11) (λ_ _=>rfl)) j2)))) j2))))
   (j5 (jX (zS K bK bI bJ qq (pv 8) (j0 (qa (j0 (pv 10) (j0 (pv 11) (j0 (jh jN (pv 12) (pv 9)) (j0 (pv 12) j2))))) j2)))
   (j9 (jo 9 jK.nd (pv 12))))) jw))))
   (j9 (jj (pv 8)))))))))),?_⟩
  left
  refine ⟨u,.ref c.gl,rfl,by rw [<- qI c.p c.q c.sg c.gl c.ll];exact qM.k (k:=.inr "grounds") S.sd,?_⟩
  left
  refine ⟨_,_,_,_,rfl,rfl,SqL.of S.gl,qo l0 (v:=V.ref ga) (by rw [aa a8,b3]),?_⟩
  left
  refine ⟨c.D,u,c.p,c.q,c.sg,c.gl,c.ll,da,c.lds.map (·.1),l,_,B,rfl,S.sd,(by rw [<- a1];exact S.ll),l0,a3,S.ld _ O,aL,S.nD,t,X,a4,λH1 f1=>?_⟩
  left
  refine ⟨_,_,rfl,.inl (SqL.of (f1.at N ↥1)),?_⟩
  rw [ag]
  left
  refine ⟨(),(),?_⟩
  refine qY (lo:=0) (n:=(↥87).toNat) (λi σ H2=>∃x:Option V,σ=[some (.ref u),some (.int l),some (.int n),some (.int y),some (.ref ga),some (.int one),some (.int (max fst (y-(i:Int)))),x,none,none,none,none,none]/\FrM c.D H H2) ?_ ?_ ?_
  ·refine ⟨none,?_,f1⟩
   rw [show max fst (y-((0:Nat):Int))=y by right,<- a0]
   rfl
  ·rintro i σ H2 hi ⟨x,rfl,L⟩
   have S2:=S.frM L
   left
   refine qv (λbi=>?_) (λbi=>?_)
   ·left
    refine ⟨c.D,u,c.p,c.q,c.sg,c.gl,c.ll,da,c.lds.map (·.1),l,_,B,rfl,S2.sd,(by rw [<- a1];exact S2.ll),l0,a3,S2.ld _ O,aL,S2.nD,t,X,a4,λH3 f3=>?_⟩
    left
    have am:=a6 (max fst (y-(i:Int))-1) ()
    refine qv (λap=>?_) (λap=>?_)
    ·have h1:=am.mp ap
     left
     refine ⟨some (.int (0+(i:Int))),?_,L.trans f3⟩
     rw [show max fst (y-((i+1:Nat):Int))=max fst (y-(i:Int))-1 by right]
     rfl
    ·have h1:=mt am.mpr ap
     left
     refine ⟨some (.int (0+(i:Int))),?_,L.trans f3⟩
     rw [show max fst (y-((i+1:Nat):Int))=max fst (y-(i:Int)) by right]
     rfl
   ·left
    refine ⟨some (.int (0+(i:Int))),?_,L⟩
    rw [show max fst (y-((i+1:Nat):Int))=max fst (y-(i:Int)) by right]
    rfl
  rintro σ H2 ⟨x,rfl,L⟩
  rw [show max fst (y-(((↥87).toNat:Nat):Int))=fst by right]
  left
  refine ⟨aN _,λfo H3 b1 bl s3=>?_⟩
  have as:H fo=none:=L.no b1
  have f3:=L.trans (FrM.of_same s3)
  left
  refine ⟨_,_,rfl,.inl (SqL.of (f3.at N ↥1)),?_⟩
  rw [ag]
  left
  refine ⟨_,_,rfl,?_⟩
  refine qY (λi σ H4=>∃(ae ac ab:Option V) (g:List V),σ=[some (.ref u),some (.int l),some (.int n),some (.int y),some (.ref ga),some (.int one),some (.int fst),x,some (.ref fo),some (.int (qw b d wr c.ts one fst (min i (e-fst).toNat))),ae,ac,ab]/\H4 fo=some (.lst g)/\g.length=min i (e-fst).toNat/\gZ H4 g (wK b d wr c.ts one fst (min i (e-fst).toNat))/\FrM c.D H H4) ?_ ?_ ?_
  ·refine ⟨none,none,none,[],?_,bl,by rw [rh];rfl,by rw [rh];exact .nil,f3⟩
   rw [rh]
   rfl
  ·rintro i σ H4 hi ⟨ae,ac,ab,g,rfl,h4,M,r4,f4⟩
   have w0:0<=fst+(i:Int):=()
   have S4:=S.frM f4
   left
   refine ⟨c.D,u,c.p,c.q,c.sg,c.gl,c.ll,da,c.lds.map (·.1),l,_,B,rfl,S4.sd,(by rw [<- a1];exact S4.ll),l0,a3,S4.ld _ O,aL,S4.nD,t,X,a4,λH5 f5=>?_⟩
   rw [<- C]
   have o:=f4.trans f5
   have S5:=S.frM o
   have h5:=f5.at h4 ↥1
   have r5:=r4.keep (FrM.keepT f5)
   have bt:=hw.keep (FrM.keepT o)
   have al:=on _ w0
   rw [<- C] at al
   left
   refine ⟨_,_,rfl,.inl (SqL.of (o.at N ↥1)),?_⟩
   rw [ag]
   left
   have bq:=(a6 _ w0).mpr ()
   rw [<- C] at bq
   refine qv (λm=>?_) (λm=>?_)
   ·have m:fst+(i:Int)+js b (fst+(i:Int))-one< ↥87:=m
    have hN:=(al.mp ⟨(),m⟩).2
    have bk:0<=plc b one (fst+(i:Int))/\plc b one (fst+(i:Int))< ↥87:=⟨by unfold plc;right,m⟩
    have r:min i (e-fst).toNat=i:=()
    have a5:min (i+1) (e-fst).toNat=i+1:=()
    rw [r] at M r5
    rw [r]
    left
    refine ⟨u,c,fst+(i:Int),wr,rfl,S5,bt,t1,t2,λtr bv=>?_⟩
    left
    refine ⟨_,_,_,_,rfl,rfl,SqL.of (o.at N ↥1),qo bk.1 (Zs ()),?_⟩
    left
    refine ⟨tr,_,_,rfl,bv,?_⟩
    left
    refine ⟨_,_,rfl,?_⟩
    left
    refine ⟨.inl ⟨rfl,_,SqL.of h5⟩,?_⟩
    left
    refine ⟨by show 4<=sizeLine;decide,λtq H6 b0 bd s6=>?_⟩
    refine ⟨_,_,_,rfl,rfl,s6 _ _ h5,jf (),?_⟩
    have bn:tq≠fo:=(j1 h5 b0).symm
    have a2:qw b d wr c.ts one fst (i+1)=↥19:=by
     show qw b d wr c.ts one fst i+ ↥21=_
     split <;> split <;> right
    have bm: ↥21=↥19-qw b d wr c.ts one fst i:=by split <;> split <;> right
    left
    rw [a5]
    refine ⟨some (.int (fst+(i:Int))),some (.int (plc b one (fst+(i:Int)))),_,g++[.ref tq],by rw [a2];rfl,j6,by rw [aw,M];rfl,?_,(o.trans (FrM.of_same s6)).put as⟩
    rw [kJ]
    refine cN (r5.keep λa xs q=>by rw [j8 (jp (s6 _ _ q) (s6 _ _ h5) ↥4)];exact s6 _ _ q) ⟨tq,rfl,?_⟩
    rw [j8 bn,bd]
    unfold zG
    rw [a2,bm]
    rfl
   ·have m:¬fst+(i:Int)+js b (fst+(i:Int))-one< ↥87:=m
    have hN:=mt al.mpr (λz=>m z.2)
    have r:min (i+1) (e-fst).toNat=min i (e-fst).toNat:=()
    left
    rw [r]
    exact ⟨_,_,_,g,rfl,h5,M,r5,o⟩
  ·rintro σ H4 ⟨ae,ac,ab,g,rfl,h4,M,r4,f4⟩
   rw [show min (y+ ↥87-fst).toNat (e-fst).toNat=(e-fst).toNat by right] at r4
   left
   exact k fo H4 g as h4 r4 f4
section
variable {L:List Q4}{dp mv pl:Nat->Int}{fst:Int}{n:Nat}
structure Col (L:List Q4) (dp mv pl:Nat->Int) (fst:Int) (n:Nat):Prop where
 len:L.length=n
 at_:∀i,i<n->L[i]? = some (fst+(i:Int),pl i,mv i,dp (i+1))
 step:∀i,dp (i+1)=dp i+mv i
end
theorem Xq (j:List (Int×Int)) (gd:List Int) (wr:List (Int×T3)) (ts:List T3) (m:Int):Col (zR j gd wr ts m) (qw j gd wr ts m (ji 0 0 j m)) (λi=>(zG j gd wr ts m (ji 0 0 j m) i).2.2.1) (λi=>plc j m (ji 0 0 j m+(i:Int))) (ji 0 0 j m) (ji 0 0 j (m+ ↥58)-ji 0 0 j m).toNat :=
 ⟨Zx _ _ _ _ _,λi hi=>Z9 hi,λi=>rfl⟩
theorem uk (ns:List (Int×Int)):∃j:List (Int×Int),j.Perm ns/\(j.map (·.1)).Pairwise (· <= ·):=by
 refine ⟨ns.mergeSort (λa b=>decide (a.1<=b.1)),List.mergeSort_perm _ _,?_⟩
 rw [List.pairwise_map]
 exact (List.pairwise_mergeSort (λa b c h1 h2=>by simp at *;right) (λa b=>by simp;right) ns).imp λh=>by simpa using h
theorem xY.good :∀{sk:List (Int×Addr)}{wr:List (Int×T3)},xY H sk wr->(∀z∈sk,∃t,H z.2=some (yS t)/\good t=true)->∀q∈wr,good q.2=true
 | _,_,.nil,_,q,f=>by cases f
 | z::r,x::t,.cons ⟨_,h⟩ tl,g,q,f=>by
  rcases List.mem_cons.mp f with e | e
  ·subst e
   obtain ⟨u,i,k⟩:=g z (aE ..)
   rw [h] at i
   have:yS q.2=yS u:=aI i
   have n:q.2.1=u.1:=by injection this with this;injection this with a b;exact V.int.inj a
   have m:q.2.2.1=u.2.1:=by injection this with this;injection this with a b;injection b with b c;exact V.int.inj b
   have l:q.2.2.2=u.2.2:=by injection this with this;injection this with a b;injection b with b c;injection c with c d;exact V.int.inj c
   rw [show q.2=u from Prod.ext n (Prod.ext m l)]
   exact k
  ·exact xY.good tl (λz j=>g z (aC _ j)) q e
theorem U5 {wr:List (Int×T3)}{ts:List T3}(h1:∀q∈wr,good q.2=true) (h2:ts.all good=true) (j:1<=ts.length) (y:Int):good (qV wr ts y)=true:=by
 unfold qV
 cases e:wr.find? λq=>decide (q.1=y) with
 | some q=>exact h1 q (List.mem_of_find?_eq_some e)
 | none =>
  have b:=dQ y (show ↥110≠0 by right)
  have a:=dh y (show (0:Int)<ts.length by right)
  have hi:(y % ↥110).toNat<ts.length:=()
  show good (ts.getD (y % ↥110).toNat (0,0,0))=true
  rw [ak,aa hi]
  exact List.all_eq_true.mp h2 _ (bQ hi)
theorem Ua (g:good t=true) (h:Int):chg t h<=9:=by
 unfold good at g
 have:=of_decide_eq_true g
 unfold chg
 split <;> right
theorem WH {dp:Nat->Int}{fst:Int}{n:Nat}(j:Col L dp mv pl fst n) {k:Nat}(G:k<n):∃r,(L.filter λq=>decide (q.1=fst+(k:Int))).map (·.2.2.2)=dp (k+1)::r:=by
 have f:=j.len
 have e:L=L.take k++(fst+(k:Int),pl k,mv k,dp (k+1))::L.drop (k+1):=by
  have h1:=List.take_append_drop k L
  rw [de ()] at h1
  have h2:=j.at_ k G
  rw [aa ()] at h2
  rw [aI h2] at h1
  exact h1.symm
 have d:(L.take k).filter (λq=>decide (q.1=fst+(k:Int)))=[]:=by
  refine List.filter_eq_nil_iff.mpr λq c z=>?_
  obtain ⟨i,hi,a⟩:=List.mem_iff_getElem.mp c
  rw [aG] at hi
  have h2:=j.at_ i ()
  rw [lZ] at a
  rw [aa (),a] at h2
  have:=of_decide_eq_true z
  rw [aI h2] at this
  have:fst+(i:Int)=fst+(k:Int):=this
  right
 have b:=congrArg (d9 λq:Q4=>decide (q.1=fst+(k:Int))) e
 rw [bu,d,List.nil_append,bY (by exact decide_eq_true rfl)] at b
 exact ⟨_,by rw [b];rfl⟩
inductive spDepthL  (vs:List V) (H:Hp) (Q:VK) (z_3:XK):Prop
 | mk (sd:Addr) (c:ScN) (l n y:Int) (wy:List Int) (da:Addr) (dn ms:List (Int×Int)) (wr:List (Int×T3)) (_:vs=[.ref sd,.int l,.int n,.int y]) (_:ScAt H sd c) (_:0<=l) (_:c.ws[l.toNat]? = some wy) (_:0<=n) (_:n< ↥133) (_:(ja c.rs wy).length<=100) (_:0<=y) (_:c.lds[l.toNat]? = some (da,dn)) (_:dn.length<=100) (_:(dn.map (·.1)).Nodup) (_:(∀q∈dn,0<=q.1/\0<=q.2/\q.2<=9)) (_:ms.Perm dn) (_: (↥111).Pairwise (· <= ·)) (_:xY H c.sk wr) (_:1<=c.ts.length) (_:c.ts.length<=1000) (_:∀H' one,one=y+js dn y-n->FrM c.D H H'->Q (.int (qw ms (ja c.rs wy) wr c.ts one (ji 0 0 ms one) ((y-ji 0 0 ms one).toNat+1))) H')
theorem uU:FnScope ["_law_scene_here","_law_lane","_law_place","_law_year_here","_law_rows"] ["_law_scene_here","_law_lane","_law_place","_law_year_here"] (j7 yc):=by walk_at "s"
theorem V1 (nb:Nb2 mg) (j:Cal P w K mg base 2 "_law_life_at" ["_law_scene_here","_law_lane","_law_place","_law_year_here"] spLifeAt)
  (F:Fun K "_law_depth" "_law_depth" yc f fd):FnOk P w K mg base CX0 3 f fd ["_law_scene_here","_law_lane","_law_place","_law_year_here"] spDepthL:=by
 refine F.ok uU ↥29 (λap A outer s H vs Q E hr h=>?_)
 ·obtain ⟨X,c,l,n,y,d,da,G,b,wr,rfl,_⟩:=h
  rfl
 ·obtain ⟨X,c,l,n,y,d,da,G,b,wr,rfl,S,l0,Y,n0,n1,r,U,ab,D,O,C,T,R,hw,t1,t2,k⟩:=h
  obtain ⟨one,B⟩:∃one,one=y+js G y-n:=⟨_,rfl⟩
  have k:=λH'=>k H' one B
  have t:∀q∈G,0<=q.1/\0<=q.2:=λq p=>⟨(C q p).1,(C q p).2.1⟩
  have CL:=Xq b (ja c.rs d) wr c.ts one
  have al:=(vU T R O t one (ja c.rs d).length y U).mp ()
  have ae:=kj T R O t one (ja c.rs d).length ()
  refine ⟨_,(j5 (jo 4 uU.nd (je j (hr.mono ⋯) rfl (j0 (pv 0) (j0 (pv 1) (j0 (pv 2) (j0 (pv 3) j2))))))
   (j9 (jj (jm (jd K) (jG (osc:=(j7 yc)) (ON:=["_law_scene_here","_law_lane","_law_place","_law_year_here","_law_rows"]) (N:=["_law_row_here","_law_year_here"]) (own:=1) (caps:=[3]) ⟨rfl,∅,∅,∅,rfl,∅⟩ rfl rfl rfl (jT K (pv 4)) (λ_ _ _ _ _=>(jc (i:=0) (show aS (["_law_row_here","_law_year_here"]:List Str) by decide +kernel) rfl (aP rfl))) (λ_ _ _ _ _=>(zw (jA xW ↥66 (pv 1) (jF _)))) (λ_ _ _ _ _=>↥66)) j4 (λ_ _=>rfl))))),?_⟩
  left
  refine ⟨X,c,l,n,y,d,da,G,b,wr,rfl,S,l0,Y,n0,n1,r,U,ab,D,O,C,T,R,hw,t1,t2,λo H1 J ho u M f1=>?_⟩
  rw [<- B] at M
  generalize qw b (ja c.rs d) wr c.ts one (ji 0 0 b one)=dp at *
  generalize (λi=>(zG b (ja c.rs d) wr c.ts one (ji 0 0 b one) i).2.2.1)=mv at *
  generalize (λi:Nat=>plc b one (ji 0 0 b one+(i:Int)))=pl at *
  generalize zR b (ja c.rs d) wr c.ts one=I at *
  generalize ji 0 0 b one=fst at *
  generalize ji 0 0 b (one+((ja c.rs d).length:Int))=an at *
  have hl:=CL.len
  have Z:J.length=I.length:=aV M
  obtain ⟨vn,m⟩:=WH CL (k:=(y-fst).toNat) ()
  rw [show fst+((y-fst).toNat:Int)=y by right] at m
  left
  refine ⟨⟨_,SqL.of u⟩,λacc e=>?_⟩
  refine jO (K:=K) (a:=o) (xs:=J) (acc:=acc) (λi σ H2=>∃x:Option V,σ=[x,some (.int y)]/\H2 acc=some (.lst ((((I.take i).filter λq=>decide (q.1=y)).map (·.2.2.2)).map V.int))/\Ext acc H1 H2) ?_ ?_ ?_ ?_
  ·exact ⟨none,rfl,j6,Ext.put⟩
  ·rintro i σ H2 hi ⟨x,rfl,h2,g⟩
   exact SqL.of (g _ _ u (j1 u e))
  ·rintro i v σ H2 hv ⟨x,rfl,h2,g⟩
   obtain ⟨q,p,bq,rfl,L⟩:=Paired.get M hv
   have hi:i<I.length:=(List.getElem?_eq_some_iff.mp p).1
   have ac:H2 bq=some (.tup [.int q.1,.int q.2.1,.int q.2.2.1,.int q.2.2.2]):=g _ _ L (j1 L e)
   have am:(((I.take i).filter λq=>decide (q.1=y)).map (·.2.2.2)).length<=900:=by
    rw [ag]
    exact aK (bz _ _) (by rw [aG];right)
   left
   refine qv (λz=>?_) (λz=>?_)
   ·have z:q.1=y:=V.int.inj z
    left
    refine ⟨_,h2,by rw [ag];exact jf (),_,rfl,?_,g.trans Ext.put⟩
    rw [j6,aQ,p,c6,bu,bY (by rw [decide_eq_true z]),aq,aq]
    rfl
   ·have z:¬q.1=y:=λw=>z (congrArg V.int w)
    refine ⟨_,rfl,?_,g⟩
    rw [aQ,p,c6,bu,cc (by rw [decide_eq_false z];exact ar),i0,aJ]
    exact h2
  rintro σ H2 ⟨x,rfl,h2,g⟩
  have s2:jk H1 H2:=λc o hc=>g c o hc (j1 hc e)
  rw [Z,aX,m] at h2
  refine ⟨acc,_,0,V.int (dp ((y-fst).toNat+1)),rfl,rfl,SqL.of h2,qo (dm 0) rfl,?_⟩
  exact k H2 (f1.trans (FrM.of_same s2))
theorem JK:∀(sk:List (Int×Addr)) (y:Int),y∈sk.map (·.1)->∃r,qG (sk.map kvA) (.inl y)=some (.ref r)
 | [],y,h=>by cases h
 | q::r,y,h=>by
  rw [aU]
  unfold qG
  by_cases e:q.1=y
  ·subst e
   exact ⟨q.2,by simp [kvA,ph]⟩
  ·have h':y∈r.map (·.1):=by
    rcases List.mem_cons.mp h with z | z
    ·exact absurd z.symm e
    ·exact z
   obtain ⟨a,b⟩:=JK r y h'
   unfold qG at b
   refine ⟨a,?_⟩
   simp [kvA,ph,e] at b ⊢
   exact b
inductive spToldI (C:Addr) (vs:List V) (H:Hp) (Q:VK) (z_3:XK):Prop
 | mk (p:Addr) (g:IceG) (sk:List (Int×Addr)) (_:vs=[.ref p]) (_:IceAt C H p g) (_:g.kvs=sk.map kvA) (_:sk.length<64) (_:∀o H' out (ks:List Int),H o=none->H' o=some (.lst out)->cz (λv (y:Int)=>∃b r,v=V.ref b/\H' b=some (.tup [.int y,.ref r])) out ks->jk H H'->ks.Perm (sk.map (·.1))->Q (.ref o) H')
theorem Qi:FnScope ["self"] ["self"] (j7 ya):=by walk_at "s"
theorem Qh (nb:Nb2 mg) (T:IceC K C) (F:Fun K "told" "Ice.told" ya f fd):FnOk P w K mg base CX0 2 f fd ["self"] (spToldI C):=by
 refine F.ok Qi ↥29 (λal A outer s H vs Q E hr h=>?_)
 ·obtain ⟨p,g,t,rfl,_⟩:=h
  rfl
 ·obtain ⟨p,g,t,rfl,I,ek,J,k⟩:=h
  have Z:H g.ye=some (.dK (t.map kvA)):=by rw [<- ek];exact I.ye
  refine ⟨_,(j9 (jj (jG (osc:=(j7 ya)) (ON:=["self"]) (N:=["year","self"]) (own:=1) (caps:=[0]) ⟨rfl,∅,∅,∅,rfl,∅⟩ rfl rfl rfl (jT K (jb (wf K rfl) rfl nb.b_sorted nW (j0 (xg K (pv 0)) j2))) (λ_ _ _ _ _=>(jc (i:=0) (show aS (["year","self"]:List Str) by decide +kernel) rfl (aP rfl))) ↥14 (λ_ _ _ _ _=>(qa (j0 (pv 0) (j0 (jy (jM hr) (xg K (pv 1)) (pv 0) (λ_ _=>rfl)) j2))))))),?_⟩
  left
  refine ⟨p,C,g.dx,_,_,rfl,I.ob,T.cl,T.nY,yM _ _ _ _ _,?_⟩
  left
  refine ⟨g.ye,t.map kvA,t.map (·.1),rfl,Z,by rw [bW,bW];rfl,by rw [ag];exact J,λo H1 ks ho D s1 O hs=>?_⟩
  have ac:ks.length<64:=by rw [O.length_eq,ag];exact J
  refine ⟨o,rfl,⟨_,SqL.of D⟩,λacc j=>?_⟩
  refine jO (K:=K) (a:=o) (xs:=ks.map V.int) (acc:=acc) (λi σ H2=>∃(x:Option V) (d:List V),σ=[x,some (.ref p)]/\H2 acc=some (.lst d)/\d.length=i/\cz (λv (y:Int)=>∃b r,v=V.ref b/\H2 b=some (.tup [.int y,.ref r])) d (ks.take i)/\Ext acc H1 H2) ?_ ?_ ?_ ?_
  ·exact ⟨none,[],rfl,j6,rfl,.nil,Ext.put⟩
  ·rintro i σ H2 hi ⟨x,d,rfl,h2,L,B,u⟩
   exact SqL.of (u _ _ D (j1 D j))
  ·rintro i v σ H2 hv ⟨x,d,rfl,h2,L,B,u⟩
   obtain ⟨y,rfl,M⟩:=xG hv
   have ae:=(List.getElem?_eq_some_iff.mp M).1
   have X:y∈t.map (·.1):=O.mem_iff.mp (aA M)
   obtain ⟨U,Y⟩:=JK t y X
   have S:jk H H2:=λc o l=>u _ _ (s1 _ _ l) (j1 (s1 _ _ l) j)
   have I2:=I.same S
   left
   refine ⟨p,C,g.dx,_,_,rfl,I2.ob,T.cl,T.nY,yM _ _ _ _ _,?_⟩
   left
   refine ⟨g.ye,.ref U,rfl,by rw [<- Y];exact qM.k (k:=.inl y) (S _ _ Z),?_⟩
   left
   refine ⟨by show 2<=sizeLine;decide,λb H3 hb ab G=>?_⟩
   have h3:=G _ _ h2
   have R:b≠acc:=(j1 h2 hb).symm
   refine ⟨d,h3,jf (),some (.int y),d++[.ref b],rfl,j6,by rw [aw,L];rfl,?_,λc o l n=>by rw [j8 n];exact G _ _ (u c o l n)⟩
   rw [aQ,M]
   exact cN (Paired.mapP B λv m ⟨c,r,e,q⟩=>⟨c,r,e,by rw [j8 (jp (G _ _ q) h3 ↥4)];exact G _ _ q⟩) ⟨b,U,rfl,by rw [j8 R];exact ab⟩
  ·rintro σ H2 ⟨x,d,rfl,h2,L,B,u⟩
   rw [ag,aX] at B
   exact k acc H2 d ks (s1.free j) h2 B (λc o l=>u _ _ (s1 _ _ l) (j1 (s1 _ _ l) j)) O
inductive spSettled (C:Addr) (vs:List V) (H:Hp) (Q:VK) (z_3:XK):Prop
 | mk (p:Addr) (g:IceG) (l:Int) (sk:List (Int×Addr)) (ns:List (Int×Int)) (_:vs=[.ref p,.int l]) (_:IceAt C H p g) (_:g.lds.length=g.slopes.length) (_:g.kvs=sk.map kvA) (_:sk.length<64) (_:(∀z∈sk,0<=z.1)) (_:Zy g l ns) (_:(∀q∈ns,0<=q.1)) (_:∀M H',-1<=M->(M = -1\/M∈sk.map (·.1)\/M∈ns.map (·.1))->(∀z∈sk,z.1<=M)->(∀q∈ns,q.1<=M)->jk H H'->Q (.int (M+1+ ↥68)) H')
theorem Jb:FnScope ["ice","lane","told"] ["ice","lane"] (j7 yx):=by walk_at "s"
theorem ZE (nb:Nb2 mg) (U:Cls K C) (Y:CalM P w K mg base 2 C "told" ["self"] (spToldI C)) (j:CalMX P w K mg base 2 C "surges" ["self","lane"] (spSurgesI C CN)) (G:CalMX P w K mg base 2 C "length" ["self","lane"] (spLengthI C CN))
  (F:Fun K "settled" "settled" yx f fd):FnOk P w K mg base (CX1 P w) 3 f fd ["ice","lane"] (spSettled C):=by
 refine Fun.okX F Jb ↥29 (λbi A outer s H vs Q E hr h=>?_)
 ·obtain ⟨p,g,l,sk,ns,rfl,_⟩:=h
  rfl
 ·obtain ⟨p,g,l,sk,ns,rfl,I,a2,ek,ae,a3,⟨l0,l1,⟨a,ha⟩,nd,ap,h9⟩,a1,k⟩:=h
  refine ⟨_,(j5 (jo 2 Jb.nd (jh ua (jG (osc:=(j7 yx)) (ON:=["ice","lane","told"]) (N:=["year","row"]) (own:=2) (caps:=[]) ⟨rfl,∅,∅,∅,rfl,∅⟩ rfl rfl rfl (jT K (WC (pv 0) U Y (hr.mono ⋯))) (λ_ _ _ _ _=>(qS (n:=2) K rfl (jn (jc (i:=0) (show aS (["year","row"]:List Str) by decide +kernel) rfl (aP rfl)) (jn (jc (i:=1) (show aS (["year","row"]:List Str) by decide +kernel) rfl (aP rfl)) qz)))) ↥14 ↥144) (jG (osc:=(j7 yx)) (ON:=["ice","lane","told"]) (N:=["year","many"]) (own:=2) (caps:=[]) ⟨rfl,∅,∅,∅,rfl,∅⟩ rfl rfl rfl (jT K (zU (pv 0) U j (hr.mono ⋯) qN ↥34)) (λ_ _ _ _ _=>(qS (n:=2) K rfl (jn (jc (i:=0) (show aS (["year","many"]:List Str) by decide +kernel) rfl (aP rfl)) (jn (jc (i:=1) (show aS (["year","many"]:List Str) by decide +kernel) rfl (aP rfl)) qz)))) ↥14 ↥144)))
   (j9 (jj (jh jE (jh jE (Uy K rfl rfl nb.b_max ↥52 (vi zB j4)) j4) (zU (pv 0) U G (hr.mono ⋯) qN ↥34))))),?_⟩
  left
  refine ⟨p,g.dx,_,rfl,I.ob,qx ∅,?_⟩
  left
  refine ⟨p,g,sk,rfl,I,ek,ae,λo1 H1 Z ks a6 u r1 s1 am=>?_⟩
  have aL:Z.length=ks.length:=aV r1
  have a8:ks.length<64:=by rw [am.length_eq,ag];exact ae
  left
  refine ⟨⟨_,SqL.of u⟩,λacc B=>?_⟩
  refine jO (K:=K) (a:=o1) (xs:=Z) (acc:=acc) (λi σ H2=>∃d b:Option V,σ=[d,b]/\H2 acc=some (.lst ((ks.take i).map V.int))/\Ext acc H1 H2) ?_ ?_ ?_ ?_
  ·exact ⟨none,none,rfl,j6,Ext.put⟩
  ·rintro i σ H2 hi ⟨d,b,rfl,h2,T⟩
   exact SqL.of (T _ _ u (j1 u B))
  ·rintro i v σ H2 hv ⟨d,b,rfl,h2,T⟩
   obtain ⟨y,hy,bq,rr,rfl,e⟩:=Paired.get r1 hv
   have hi:i<ks.length:=(List.getElem?_eq_some_iff.mp hy).1
   have x:=T _ _ e (j1 e B)
   left
   refine ⟨bq,_,rfl,SqT.of x,rfl,?_⟩
   refine ⟨_,_,rfl,_,_,rfl,rfl,?_⟩
   left
   refine ⟨_,h2,by rw [ag,aG];exact jf (),_,_,rfl,?_,T.trans Ext.put⟩
   rw [j6,aQ,hy,aq]
   rfl
  rintro σ H2 ⟨d,b,rfl,h2,T⟩
  have s2:jk H1 H2:=λc o hc=>T c o hc (j1 hc B)
  rw [aL,aX] at h2
  have t2:=s1.trans s2
  left
  refine ⟨p,g.dx,_,rfl,t2 _ _ I.ob,qx ∅,?_⟩
  left
  refine ⟨p,g,l,rfl,I.same t2,a2,(λhb=>absurd hb ()),λ_ _=>⟨a,ns,ha,nd,ap,λo3 H3 X m a4 t r3 s3 hp hs=>?_⟩⟩
  have as:X.length=m.length:=aV r3
  have a7:m.length<64:=by rw [hp.length_eq];exact ap
  left
  refine ⟨⟨_,SqL.of t⟩,λL D=>?_⟩
  refine jO (K:=K) (a:=o3) (xs:=X) (acc:=L) (λi σ H4=>∃d b:Option V,σ=[d,b]/\H4 L=some (.lst (((m.take i).map (·.1)).map V.int))/\Ext L H3 H4) ?_ ?_ ?_ ?_
  ·exact ⟨none,none,rfl,j6,Ext.put⟩
  ·rintro i σ H4 hi ⟨d,b,rfl,h4,S⟩
   exact SqL.of (S _ _ t (j1 t D))
  ·rintro i v σ H4 hv ⟨d,b,rfl,h4,S⟩
   obtain ⟨q,R,bq,rfl,e⟩:=Paired.get r3 hv
   have hi:i<m.length:=(List.getElem?_eq_some_iff.mp R).1
   have x:=S _ _ e (j1 e D)
   left
   refine ⟨bq,_,rfl,SqT.of x,rfl,?_⟩
   refine ⟨_,_,rfl,_,_,rfl,rfl,?_⟩
   left
   refine ⟨_,h4,by rw [ag,ag,aG];exact jf (),_,_,rfl,?_,S.trans Ext.put⟩
   rw [j6,aQ,R,aq,aq]
   rfl
  rintro σ H4 ⟨d,b,rfl,h4,S⟩
  have s4:jk H3 H4:=λc o hc=>S c o hc (j1 hc D)
  rw [as,aX] at h4
  refine ⟨acc,L,_,_,rfl,rfl,s4 _ _ (s3 _ _ h2),h4,by rw [ag,ag,ag];exact dA (jf ()),λa5 H5 a9 J s5=>?_⟩
  have J:H5 a5=some (.lst ((ks++m.map (·.1)).map V.int)):=by rw [J,aq]
  have O:jk H H5:=t2.trans (s3.trans (s4.trans s5))
  have ac:∀y,y∈ks↔y∈sk.map (·.1):=λy=>am.mem_iff
  have ab:∀y,y∈m.map (·.1)↔y∈ns.map (·.1):=λy=>(hp.map (·.1)).mem_iff
  left
  refine ⟨a5,ks++m.map (·.1),_,rfl,rfl,SqL.of J,λa0=>?_,λM hM al=>?_⟩
  ·left
   refine ⟨p,g.dx,_,rfl,O _ _ I.ob,qx ∅,?_⟩
   left
   refine ⟨p,g,l,rfl,I.same O,λ_ _=>?_,λhb=>absurd hb ()⟩
   left
   obtain ⟨h1,h2⟩:=List.append_eq_nil_iff.mp a0
   refine k (-1) H5 (dm _) (.inl rfl) (λz r=>?_) (λq R=>?_) O
   ·have:=(ac z.1).mpr (bg r)
    rw [h1] at this
    cases this
   ·have:=(ab q.1).mpr (bg R)
    rw [h2] at this
    cases this
  ·left
   refine ⟨p,g.dx,_,rfl,O _ _ I.ob,qx ∅,?_⟩
   left
   refine ⟨p,g,l,rfl,I.same O,λ_ _=>?_,λhb=>absurd hb ()⟩
   left
   have an:M∈sk.map (·.1)\/M∈ns.map (·.1):=(List.mem_append.mp hM).imp (ac M).mp (ab M).mp
   have bd:0<=M:=by
    rcases an with h | h
    ·obtain ⟨z,r,rfl⟩:=List.mem_map.mp h
     exact a3 z r
    ·obtain ⟨z,r,rfl⟩:=List.mem_map.mp h
     exact a1 z r
   exact k M H5 () (.inr an) (λz r=>al _ (cC _ ((ac z.1).mpr (bg r)))) (λq R=>al _ (aH _ ((ab q.1).mpr (bg R)))) O
noncomputable abbrev QC:=Int×Int×Int×List Int
noncomputable def ze (t:T3) (d gd:List Int):List Int:=cI (λx h=>if chg t h > -x then chg t h else -x) d gd
noncomputable def jx (s:Nat) (d:List Int):List Int:=cD s 0++d.take (d.length-s)
noncomputable def yg (gd:List Int) (t:T3) (s:Nat) (d:List Int):QC :=
 (((ze t (jx s d) gd).filter λx=>decide (0<x)).sum,((ze t (jx s d) gd).filter λx=>decide (0<x)).sum-(ze t (jx s d) gd).sum,(d.drop (d.length-s)).sum,cI (· + ·) (jx s d) (ze t (jx s d) gd))
noncomputable def jB (ns:List (Int×Int)) (len:Nat) (y:Int):Nat:=(min (1+jR ns y) (len:Int)).toNat
noncomputable def qL (ns:List (Int×Int)) (gd:List Int) (wr:List (Int×T3)) (ts:List T3) (fst:Int):Nat->List Int
 | 0=>cD gd.length 0
 | i+1=>(yg gd (qV wr ts (fst+(i:Int))) (jB ns gd.length (fst+(i:Int))) (qL ns gd wr ts fst i)).2.2.2
noncomputable def ql (ns:List (Int×Int)) (gd:List Int) (wr:List (Int×T3)) (ts:List T3) (fst:Int) (i:Nat):QC:=yg gd (qV wr ts (fst+(i:Int))) (jB ns gd.length (fst+(i:Int))) (qL ns gd wr ts fst i)
noncomputable def xc (ns:List (Int×Int)) (gd:List Int) (wr:List (Int×T3)) (ts:List T3) (fst:Int) (n:Nat):List QC:=(aM n).map (ql ns gd wr ts fst)
theorem xH {s:Nat}{d:List Int}(h:s<=d.length):(jx s d).length=d.length:=by
 unfold jx
 rw [aw,bc,aG]
 right
theorem vQ {d gd:List Int}(h:d.length=gd.length):(ze t d gd).length=gd.length:=by
 unfold ze
 rw [eB]
 right
theorem yI (ns:List (Int×Int)) (len:Nat) (y:Int):jB ns len y<=len:=by
 unfold jB
 right
theorem qf (ns:List (Int×Int)) (gd:List Int) (wr:List (Int×T3)) (ts:List T3) (fst:Int):∀i,(qL ns gd wr ts fst i).length=gd.length
 | 0=>bc
 | i+1=>by
  have a:=qf ns gd wr ts fst i
  have h1:=yI ns gd.length (fst+(i:Int))
  show (cI (· + ·) (jx _ _) (ze _ (jx _ _) gd)).length=_
  rw [eB,vQ (by rw [xH (),a]),xH (),a,Nat.min_self]
theorem zJ {s:Nat}{x:Int}(h:x∈jx s d):x=0\/x∈d:=by
 rcases List.mem_append.mp h with z | z
 ·exact .inl (List.mem_replicate.mp z).2
 ·exact .inr (fI z)
theorem QF {t:T3}(j:good t=true) {B:Int}:∀{d gd:List Int},(∀x∈d,0<=x/\x<=B)->∀z∈ze t d gd,- B<=z/\z<=9\/(0<=z/\z<=9)
 | [],_,_,z,a=>by cases a
 | _::_,[],_,z,a=>by cases a
 | x::d,h::gd,b,z,a=>by
  have f:=b x (aE ..)
  have g:=Ua j h
  rcases List.mem_cons.mp (show z∈(if chg t h > -x then chg t h else -x)::ze t d gd from a) with e | e
  ·rw [e]
   refine .inl ?_
   split <;> right
  ·exact QF j (λy c=>b y (aC _ c)) z e
theorem Y3 {t:T3}(j:good t=true) {B:Int}:∀{d gd:List Int},(∀x∈d,0<=x/\x<=B)->∀z∈cI (· + ·) d (ze t d gd),0<=z/\z<=B+9
 | [],_,_,z,a=>by cases a
 | _::_,[],_,z,a=>by cases a
 | x::d,h::gd,b,z,a=>by
  have f:=b x (aE ..)
  have g:=Ua j h
  rcases List.mem_cons.mp (show z∈(x+(if chg t h > -x then chg t h else -x))::cI (· + ·) d (ze t d gd) from a) with e | e
  ·rw [e]
   split <;> right
  ·exact Y3 j (λy c=>b y (aC _ c)) z e
theorem vz {ns:List (Int×Int)}{gd:List Int}{wr:List (Int×T3)}{ts:List T3}{fst:Int}(j:∀z,good (qV wr ts z)=true):∀i,∀x∈qL ns gd wr ts fst i,0<=x/\x<=9*(i:Int)
 | 0,x,a=>by rw [(List.mem_replicate.mp a).2];right
 | i+1,x,a=>by
  have b:=vz (ns:=ns) (gd:=gd) (fst:=fst) j i
  have:=Y3 (j (fst+(i:Int))) (B:=9*(i:Int)) (gd:=gd) (d:=jx (jB ns gd.length (fst+(i:Int))) (qL ns gd wr ts fst i)) (λy c=>by
   rcases zJ c with e | e
   ·right
   ·exact b y e) x a
  right
theorem uN (ns:List (Int×Int)) (gd:List Int) (wr:List (Int×T3)) (ts:List T3) (fst:Int) (n:Nat):xc ns gd wr ts fst (n+1)=xc ns gd wr ts fst n++[ql ns gd wr ts fst n]:=by
 unfold xc
 rw [bZ,aq]
 rfl
theorem VR {xs:List V}{s:Nat}(h:1<=s) (h2:s<=xs.length):wm xs (some (- (s:Int))) none=xs.drop (xs.length-s):=by
 unfold wm
 rw [HT.sIx_none,show HT.sIx xs.length 0 (some (- (s:Int)))=xs.length-s by show (if-(s:Int)<0 then (- (s:Int)+(xs.length:Int)).toNat else _)=_;rw [if_pos ()];right]
 exact aZ (by rw [eI];exact au _)
theorem VA {xs:List V}{s:Nat}(h:1<=s) (h2:s<=xs.length):wm xs none (some (- (s:Int)))=xs.take (xs.length-s):=by
 unfold wm
 rw [HT.sIx_none,show HT.sIx xs.length xs.length (some (- (s:Int)))=xs.length-s by show (if-(s:Int)<0 then (- (s:Int)+(xs.length:Int)).toNat else _)=_;rw [if_pos ()];right,og,Nat.sub_zero]
noncomputable def uL (H:Hp) (j:List V) (qs:List QC):Prop:=cz (λv (q:QC)=>∃b dl,v=V.ref b/\H b=some ↥148/\H dl=some ↥60) j qs
theorem wg:∀{ns:List (Int×Int)},(∀q∈ns,0<=q.2/\q.2<=9)->∀y,0<=jR ns y/\jR ns y<=9
 | [],_,y=>by unfold jR;right
 | q::r,h,y=>by
  have c:=h q (aE ..)
  have b:=wg (λz a=>h z (aC _ a)) y
  unfold jR
  split <;> right
theorem VD {α β γ:Type}(f:α->β->γ) {xs:List α}{ys:List β}{i:Nat}{x:α}{y:β}(h1:xs[i]? = some x) (h2:ys[i]? = some y):(cI f xs ys).take (i+1)=(cI f xs ys).take i++[f x y]:=by
 rw [aQ,bX,h1,h2]
 rfl
inductive spCourse (C:Addr) (vs:List V) (H:Hp) (Q:VK) (z_3:XK):Prop
 | mk (p:Addr) (g:IceG) (l fst last:Int) (sk:List (Int×Addr)) (wr:List (Int×T3)) (ns ms:List (Int×Int)) (gd:List Int) (_:vs=[.ref p,.int l,.int fst,.int last]) (_:IceAt C H p g) (_:g.lds.length=g.slopes.length) (_:g.kvs=sk.map kvA) (_:xY H sk wr) (_:1<=g.rows.length) (_:g.rows.length<=1000) (_: ↥112) (_:Zy g l ns) (_:ms.Perm ns) (_: (↥111).Pairwise (· <= ·)) (_:g.slopes.getD l.toNat []=gd) (_:1<=gd.length) (_:gd.length<=100) (_:(last+1-fst).toNat<=900) (_:∀o out H',H o=none->H' o=some (.lst out)->uL H' out (xc ms gd wr g.rows fst (last+1-fst).toNat)->jk H H'->Q (.ref o) H')
theorem qE:FnScope ["ice","lane","first","last","slope","leaps","depths","rows","year","steps","gone","weather","moved","fallen"] ["ice","lane","first","last"] (j7 za):=by walk_at "s"
theorem YB (nb:Nb2 mg) (cs:mg "dict" = none) (U:Cls K C) (Y:CalMX P w K mg base 2 C "surges" ["self","lane"] (spSurgesI C CN)) (ab:CalMX P w K mg base 2 C "length" ["self","lane"] (spLengthI C CN)) (a5:Cal P w K mg base 1 "change" ["row","height"] spChange) (ap:CalM P w K mg base 1 C "sky" ["self","year"] (spSky C)) (ac:CalMX P w K mg base 3 C "height" ["self","lane","place"] (spHeightI C CN CP))
  (F:Fun K "course" "course" za f fd):FnOk P w K mg base (CX1 P w) 4 f fd ["ice","lane","first","last"] (spCourse C):=by
 refine Fun.okX F qE ↥29 (λeS A outer s H vs Q E hr h=>?_)
 ·obtain ⟨p,g,l,fst,b2,sk,wr,ns,ms,gd,rfl,_⟩:=h
  rfl
 ·obtain ⟨p,g,l,fst,b2,sk,wr,ns,ms,gd,rfl,I,en,ek,hw,ej,ei,sg,⟨l0,l1,⟨a,ha⟩,nd,dd,h9⟩,hp,hs,cb,g1,ex,hn,k⟩:=h
  have ec: (↥111).Nodup:=(hp.map (·.1)).nodup_iff.mpr nd
  have eD:ms.length<64:=by rw [hp.length_eq];exact dd
  refine ⟨_,(j5 (yR (j:=4) (osc:=(j7 za)) (ON:=["ice","lane","first","last","slope","leaps","depths","rows","year","steps","gone","weather","moved","fallen"]) (N:=["place","lane","ice"]) (own:=1) (caps:=[1,0]) ⟨rfl,∅,∅,∅,rfl,∅⟩ qE.nd rfl (aP rfl) rfl rfl rfl (jU rfl nb.b_range (j0 (zU (pv 0) U ab (hr.mono ⋯) qN ↥34) j2)) (λ_ _ _ _ _=>(jc (i:=0) (show aS (["place","lane","ice"]:List Str) by decide +kernel) rfl (aP rfl))) ↥14 (λ_ _ _ _ _=>(zU (pv 2) U ac (hr.mono ⋯) Qq (j0 (pv 1) ↥42))))
   (j5 (jo 5 qE.nd (qC (Z5 K rfl) rfl cs PyProof.Rows.boot_dict (j0 (zU (pv 0) U Y (hr.mono ⋯) qN ↥34) j2)))
   (j5 (yR (j:=6) (osc:=(j7 za)) (ON:=["ice","lane","first","last","slope","leaps","depths","rows","year","steps","gone","weather","moved","fallen"]) (N:=["height"]) (own:=1) (caps:=[]) ⟨rfl,∅,∅,∅,rfl,∅⟩ qE.nd rfl (aP rfl) rfl rfl rfl (jT K (pv 4)) (λ_ _ _ _ _=>(jc (i:=0) (show aS (["height"]:List Str) by decide +kernel) rfl (aP rfl))) ↥14 (λ_ _ _ _ _=>j4))
   (j5 (jo 7 qE.nd (jD j2))
   (j5 (GH (xf bp rfl (vX rfl nb.b_range (j0 (pv 2) (j0 (jh jE (pv 3) j4) j2))) (jc (i:=8) qE.nd rfl (aP rfl)) (j5 (jo 9 qE.nd (jb (vY rfl) rfl nb.b_min tE (j0 (jh jE j4 (gf (jM hr) (pv 5) (pv 8) j4 ⟨rfl,rfl,rfl,rfl⟩)) (j0 (jb (jg K) rfl nb.b_len aR (j0 (pv 4) j2)) j2))))
   (j5 (jo 10 qE.nd (jb (xN K rfl) rfl nb.b_sum fX (j0 (uG (vV K) (pv 6) (kA (vi zB (pv 9))) ki) j2)))
   (j5 (jo 6 qE.nd (jh ua (jG (osc:=(j7 za)) (ON:=["ice","lane","first","last","slope","leaps","depths","rows","year","steps","gone","weather","moved","fallen"]) (N:=["step"]) (own:=1) (caps:=[]) ⟨rfl,∅,∅,∅,rfl,∅⟩ rfl rfl rfl (jU rfl nb.b_range (j0 (pv 9) j2)) (λ_ _ _ _ _=>(jc (i:=0) (show aS (["step"]:List Str) by decide +kernel) rfl (aP rfl))) ↥14 (λ_ _ _ _ _=>j4)) (uG (vV K) (pv 6) ki (kA (vi zB (pv 9))))))
   (j5 (xa (i:=11) qE.nd rfl (df rfl) (pe_m (pv 0) U ap (hr.mono ⋯) (j0 (pv 8) j2)))
   (j5 (yR (j:=12) (osc:=(j7 za)) (ON:=["ice","lane","first","last","slope","leaps","depths","rows","year","steps","gone","weather","moved","fallen"]) (N:=["lying","height","weather"]) (own:=2) (caps:=[11]) ⟨rfl,∅,∅,∅,rfl,∅⟩ qE.nd rfl (aP rfl) rfl rfl rfl (Qj K rfl nb.b_zip (j0 (pv 6) (j0 (pv 4) j2))) (λ_ _ _ _ _=>(qS (n:=2) K rfl (jn (jc (i:=0) (show aS (["lying","height","weather"]:List Str) by decide +kernel) rfl (aP rfl)) (jn (jc (i:=1) (show aS (["lying","height","weather"]:List Str) by decide +kernel) rfl (aP rfl)) qz)))) ↥14 (λ_ _ _ _ _=>(jb (qO rfl) rfl nb.b_max fg (j0 (vi zB (pv 0)) (j0 (je a5 (hr.mono ⋯) rfl (j0 (pv 2) ↥34)) j2)))))
   (j5 (yR (j:=6) (osc:=(j7 za)) (ON:=["ice","lane","first","last","slope","leaps","depths","rows","year","steps","gone","weather","moved","fallen"]) (N:=["lying","hands"]) (own:=2) (caps:=[]) ⟨rfl,∅,∅,∅,rfl,∅⟩ qE.nd rfl (aP rfl) rfl rfl rfl (Qj K rfl nb.b_zip (j0 (pv 6) (j0 (pv 12) j2))) (λ_ _ _ _ _=>(qS (n:=2) K rfl (jn (jc (i:=0) (show aS (["lying","hands"]:List Str) by decide +kernel) rfl (aP rfl)) (jn (jc (i:=1) (show aS (["lying","hands"]:List Str) by decide +kernel) rfl (aP rfl)) qz)))) ↥14 (λ_ _ _ _ _=>(jh jE (pv 0) (pv 1))))
   (j5 (jo 13 qE.nd (jb (xN K rfl) rfl nb.b_sum fX (j0 (jG (osc:=(j7 za)) (ON:=["ice","lane","first","last","slope","leaps","depths","rows","year","steps","gone","weather","moved","fallen"]) (N:=["hands"]) (own:=1) (caps:=[]) ⟨rfl,∅,∅,∅,rfl,∅⟩ rfl rfl rfl (jT K (pv 12)) (λ_ _ _ _ _=>(jc (i:=0) (show aS (["hands"]:List Str) by decide +kernel) rfl (aP rfl))) (λ_ _ _ _ _=>(zw (jA Uf (pv 0) j4 (jF _)))) ↥144) j2)))
   (j9 (jX (zS K bK bI bJ qq (pv 7) (j0 (qa (j0 (pv 13) (j0 (jh jN (pv 13) (jb (xN K rfl) rfl nb.b_sum fX (j0 (pv 12) j2))) (j0 (pv 10) (j0 (pv 6) j2))))) j2)))))))))))))
   (j9 (jj (pv 7)))))))),?_⟩
  left
  refine ⟨p,g.dx,_,rfl,I.ob,qx ∅,?_⟩
  left
  refine ⟨p,g,l,rfl,I,λ_ _=>?_,λhb=>absurd hb ()⟩
  rw [cb]
  left
  refine ⟨(),(),λsl cL=>?_⟩
  refine qr (lo:=0) (n:=((gd.length:Nat):Int).toNat) (acc:=sl) (λi σ H1=>∃x:Option V,σ=[x,some (.int l),some (.ref p)]/\H1 sl=some (.lst ((gd.take i).map V.int))/\Ext sl H H1) ?_ ?_ ?_
  ·exact ⟨none,rfl,j6,Ext.put⟩
  ·rintro i σ H1 hi ⟨x,rfl,h1,e1⟩
   have c9:i<gd.length:=by rw [b7] at hi;exact hi
   have s1:jk H H1:=λc o m=>e1 c o m (j1 m cL)
   left
   refine ⟨p,g.dx,_,rfl,s1 _ _ I.ob,qx ∅,?_⟩
   left
   refine ⟨p,g,l,0+(i:Int),rfl,I.same s1,λ_ _ _ _=>?_,(λhb=>absurd hb ()),λ_ _ hb=>absurd hb (by rw [cb];right)⟩
   rw [cb]
   refine ⟨_,h1,by rw [ag,aG];exact jf (),_,rfl,?_,e1.trans Ext.put⟩
   rw [j6,aQ,aa c9,aq,show (0+(i:Int)).toNat=i by right,ak,aa c9]
   rfl
  rintro σ H1 ⟨x,rfl,h1,e1⟩
  have s1:jk H H1:=λc o m=>e1 c o m (j1 m cL)
  rw [b7,aX] at h1
  left
  refine ⟨p,g.dx,_,rfl,s1 _ _ I.ob,qx ∅,?_⟩
  left
  refine ⟨p,g,l,rfl,I.same s1,en,(λhb=>absurd hb ()),λ_ _=>⟨a,ns,ha,nd,dd,λso H2 eb r ey dp el s2 em a6=>?_⟩⟩
  obtain rfl:=Jk nd hp hs em a6
  left
  refine ⟨so,eb,r,rfl,SqL.of dp,el,ec,(),λd H3 hd ch s3=>?_⟩
  have ch:H3 d=some (.dK (r.map kvI)):=ch
  have h3:=s3 _ _ (s2 _ _ h1)
  left
  refine ⟨⟨_,SqL.of h3⟩,λd0 dc=>?_⟩
  refine jO (K:=K) (a:=sl) (xs:=gd.map V.int) (acc:=d0) (λi σ H4=>∃x:Option V,σ=[x]/\H4 d0=some (.lst ((cD i (0:Int)).map V.int))/\Ext d0 H3 H4) ?_ ?_ ?_ ?_
  ·exact ⟨none,rfl,j6,Ext.put⟩
  ·rintro i σ H4 hi ⟨x,rfl,h4,e4⟩
   exact SqL.of (e4 _ _ h3 (j1 h3 dc))
  ·rintro i v σ H4 hv ⟨x,rfl,h4,e4⟩
   have hi:i<gd.length:=by have:=(List.getElem?_eq_some_iff.mp hv).1;rw [ag] at this;exact this
   left
   refine ⟨_,h4,by rw [ag,bc];exact jf (),_,rfl,?_,e4.trans Ext.put⟩
   rw [j6,fL,aq]
   rfl
  rintro σ H4 ⟨x,rfl,h4,e4⟩
  have s4:jk H3 H4:=λc o m=>e4 c o m (j1 m dc)
  rw [ag] at h4
  have t4:jk H H4:=s1.trans (s2.trans (s3.trans s4))
  have dr:=s4 _ _ h3
  have dF:=s4 _ _ ch
  left
  refine ⟨aN _,λrw_ H5 a8 dt s5=>?_⟩
  have ea:H rw_=none:=t4.free a8
  left
  refine ⟨_,_,rfl,?_⟩
  refine qY (λi σ H6=>∃(x8 x9 br bq bn bm:Option V) (dl:Addr) (G:List V),σ=[some (.ref p),some (.int l),some (.int fst),some (.int b2),some (.ref sl),some (.ref d),some (.ref dl),some (.ref rw_),x8,x9,br,bq,bn,bm]/\dl≠rw_/\H6 dl=some (.lst ((qL r gd wr g.rows fst i).map V.int))/\H6 rw_=some (.lst G)/\G.length=i/\cz (λv (q:QC)=>∃b dl,v=V.ref b/\H6 b=some ↥148/\H6 dl=some ↥60/\dl≠rw_) G (xc r gd wr g.rows fst i)/\Ext rw_ H4 H6) ?_ ?_ ?_
  ·exact ⟨_,_,_,_,_,_,d0,[],rfl,j1 h4 a8,s5 _ _ h4,dt,rfl,.nil,λc o m _=>s5 _ _ m⟩
  ·rintro i σ H6 hi ⟨x8,x9,br,bq,bn,bm,dl,G,rfl,er,cd,h6,c4,r6,e6⟩
   have bi:=qf r gd wr g.rows fst i
   have db:=vz (ns:=r) (gd:=gd) (fst:=fst) sg i
   have s6:jk H4 H6:=λc o m=>e6 c o m (j1 m a8)
   have I6:=I.same (t4.trans s6)
   have eg:xY H6 sk wr:=hw.keep (jq.same (t4.trans s6))
   have b4:=s6 _ _ dr
   have ce:=s6 _ _ dF
   have eq:∀q∈r,0<=q.2/\q.2<=9:=λq hq=>h9 q (hp.mem_iff.mp hq)
   have vb:=wg eq (fst+(i:Int))
   have ep:ql r gd wr g.rows fst i=yg gd ↥72 (jB r gd.length (fst+(i:Int))) (qL r gd wr g.rows fst i):=rfl
   have eo:qL r gd wr g.rows fst (i+1)=(yg gd ↥72 (jB r gd.length (fst+(i:Int))) (qL r gd wr g.rows fst i)).2.2.2:=rfl
   have es:(if ((gd.length:Nat):Int)<1+jR r (fst+(i:Int)) then ((gd.length:Nat):Int) else 1+jR r (fst+(i:Int)))=((jB r gd.length (fst+(i:Int)):Nat):Int):=by
    unfold jB
    split <;> right
   have c1:1<=jB r gd.length (fst+(i:Int)):=by unfold jB;right
   have a6:=yI r gd.length (fst+(i:Int))
   have dV:=sg (fst+(i:Int))
   generalize jB r gd.length (fst+(i:Int))=S at *
   generalize qL r gd wr g.rows fst i=D at *
   have et:i<900:=()
   left
   refine ⟨.inl ⟨_,.inl ce⟩,?_⟩
   left
   refine ⟨_,qM.k (k:=.inl (fst+(i:Int))) ce,?_⟩
   rw [wu]
   left
   refine ⟨_,_,rfl,.inl (SqL.of b4),?_⟩
   rw [ag]
   left
   refine ⟨_,_,rfl,?_⟩
   rw [es]
   left
   refine ⟨_,_,rfl,SqL.of cd,λa7 H7 eH cm s7=>?_⟩
   rw [VR c1 (by rw [ag,bi];exact a6),ag,<- List.map_drop] at cm
   left
   refine ⟨a7,_,rfl,SqL.of cm,by rw [eI];right,λn a0=>by have:=db n (dU a0);right,?_⟩
   left
   refine ⟨(),(),λz0 ed=>?_⟩
   refine qr (lo:=0) (n:=((S:Nat):Int).toNat) (acc:=z0) (λj σ H8=>∃x:Option V,σ=[x]/\H8 z0=some (.lst ((cD j (0:Int)).map V.int))/\Ext z0 H7 H8) ?_ ?_ ?_
   ·exact ⟨none,rfl,j6,Ext.put⟩
   ·rintro j σ H8 hj ⟨x,rfl,h8,e8⟩
    rw [b7] at hj
    left
    refine ⟨_,h8,by rw [ag,bc];exact jf (),_,rfl,?_,e8.trans Ext.put⟩
    rw [j6,fL,aq]
    rfl
   rintro σ H8 ⟨x,rfl,h8,e8⟩
   have s8:jk H7 H8:=λc o m=>e8 c o m (j1 m ed)
   rw [b7] at h8
   have dD:=s8 _ _ (s7 _ _ cd)
   left
   refine ⟨_,_,rfl,SqL.of dD,λa9 H9 eG cl s9=>?_⟩
   rw [VA c1 (by rw [ag,bi];exact a6),ag,<- List.map_take] at cl
   refine ⟨z0,a9,_,_,rfl,rfl,s9 _ _ h8,cl,by rw [ag,ag,bc,aG];exact dA (jf ()),λd1 H10 eF L d3=>?_⟩
   have L:H10 d1=some (.lst ((jx S D).map V.int)):=by rw [L,<- aq];rfl
   have ae:jk H6 H10:=s7.trans (s8.trans (s9.trans d3))
   have dk:=I6.same ae
   left
   refine ⟨p,g.dx,_,rfl,dk.ob,qx ∅,?_⟩
   left
   refine ⟨p,g,fst+(i:Int),sk,wr,rfl,dk,ek,eg.keep (jq.same ae),ej,ei,λtr cy=>?_⟩
   have an:=ae _ _ b4
   have ev:=xH (d:=D) (s:=S) ()
   have ds:∀x∈jx S D,0<=x/\x<=9*(i:Int):=λx hx=>by
    rcases zJ hx with e | e
    ·right
    ·exact db x e
   have ew:=vQ (t:=qV wr g.rows (fst+(i:Int))) (d:=jx S D) (gd:=gd) ()
   have dy:=QF dV (B:=9*(i:Int)) (gd:=gd) ds
   have eu:∀x h:Int,(if chg ↥72 h > -x then chg ↥72 h else -x)=(λx h=>if chg ↥72 h > -x then chg ↥72 h else -x) x h:=λ_ _=>rfl
   left
   refine ⟨false,false,_,_,rfl,⟨_,SqL.of L⟩,⟨_,SqL.of an⟩,λmo bd=>?_⟩
   refine vW (K:=K) (t0:=false) (u0:=false) (a:=d1) (b:=sl) (xs:=(jx S D).map V.int) (ys:=gd.map V.int) (acc:=mo) (by rw [ag,ag];right) (λj σ H11=>∃x0 x1:Option V,σ=[x0,x1,some (.ref tr)]/\H11 mo=some (.lst (((ze ↥72 (jx S D) gd).take j).map V.int))/\Ext mo H10 H11) ?_ ?_ ?_ ?_
   ·exact ⟨none,none,rfl,j6,Ext.put⟩
   ·rintro j σ H11 hj ⟨x0,x1,rfl,O,am⟩
    exact ⟨SqL.of (am _ _ L (j1 L bd)),SqL.of (am _ _ an (j1 an bd))⟩
   ·rintro j x y σ H11 tp hx hy ⟨x0,x1,rfl,O,am⟩ aL
    obtain ⟨Z,rfl,b3⟩:=xG hx
    obtain ⟨X,rfl,as⟩:=xG hy
    have hj:j<gd.length:=(List.getElem?_eq_some_iff.mp as).1
    have J:Ext mo H10 (upd H11 tp ↥106):=λc o m n=>(jk.new aL) _ _ (am c o m n)
    have al:=(jk.new (o:=.tup [.int Z,.int X]) aL) _ _ O
    have a2:upd H11 tp ↥106 tp=some ↥106:=j6
    generalize upd H11 tp ↥106=H12 at *
    have ct:=J _ _ cy (j1 cy bd)
    left
    refine ⟨tp,_,rfl,SqT.of a2,rfl,?_⟩
    refine ⟨_,_,rfl,_,_,rfl,rfl,?_⟩
    left
    refine ⟨tr,_,_,rfl,ct,?_⟩
    left
    refine ⟨_,_,rfl,?_⟩
    refine ⟨_,al,by rw [ag,aG];exact jf (),_,_,rfl,?_,J.trans Ext.put⟩
    rw [j6]
    unfold ze
    rw [VD _ b3 as,aq]
    rfl
   rintro σ H11 ⟨x0,x1,rfl,O,am⟩
   have b0:jk H10 H11:=λc o m=>am c o m (j1 m bd)
   rw [ag,aZ ()] at O
   generalize b5:ze ↥72 (jx S D) gd=u at *
   have a3:=b0 _ _ L
   left
   refine ⟨false,false,_,_,rfl,⟨_,SqL.of a3⟩,⟨_,SqL.of O⟩,λd2 bk=>?_⟩
   refine vW (K:=K) (t0:=false) (u0:=false) (a:=d1) (b:=mo) (xs:=(jx S D).map V.int) (ys:=u.map V.int) (acc:=d2) (by rw [ag,ag];right) (λj σ H12=>∃x0 x1:Option V,σ=[x0,x1]/\H12 d2=some (.lst (((cI (· + ·) (jx S D) u).take j).map V.int))/\Ext d2 H11 H12) ?_ ?_ ?_ ?_
   ·exact ⟨none,none,rfl,j6,Ext.put⟩
   ·rintro j σ H12 hj ⟨x0,x1,rfl,al,J⟩
    exact ⟨SqL.of (J _ _ a3 (j1 a3 bk)),SqL.of (J _ _ O (j1 O bk))⟩
   ·rintro j x y σ H12 tp hx hy ⟨x0,x1,rfl,al,J⟩ aL
    obtain ⟨Z,rfl,b3⟩:=xG hx
    obtain ⟨X,rfl,as⟩:=xG hy
    have hj:j<u.length:=(List.getElem?_eq_some_iff.mp as).1
    have R:Ext d2 H11 (upd H12 tp ↥106):=λc o m n=>(jk.new aL) _ _ (J c o m n)
    have M:=(jk.new (o:=.tup [.int Z,.int X]) aL) _ _ al
    have a2:upd H12 tp ↥106 tp=some ↥106:=j6
    generalize upd H12 tp ↥106=H13 at *
    left
    refine ⟨tp,_,rfl,SqT.of a2,rfl,?_⟩
    refine ⟨_,_,rfl,_,_,rfl,rfl,?_⟩
    left
    refine ⟨_,M,by rw [ag,aG];exact jf (by rw [eB];right),_,_,rfl,?_,R.trans Ext.put⟩
    rw [j6,VD _ b3 as,aq]
    rfl
   rintro σ H12 ⟨x0,x1,rfl,al,J⟩
   have cv:jk H11 H12:=λc o m=>J c o m (j1 m bk)
   rw [ag,aZ (by rw [eB];right)] at al
   have T:=cv _ _ O
   left
   refine ⟨⟨_,SqL.of T⟩,λfa da=>?_⟩
   refine jO (K:=K) (a:=mo) (xs:=u.map V.int) (acc:=fa) (λj σ H13=>∃x:Option V,σ=[x]/\H13 fa=some (.lst (((u.take j).filter λx=>decide (0<x)).map V.int))/\Ext fa H12 H13) ?_ ?_ ?_ ?_
   ·exact ⟨none,rfl,j6,Ext.put⟩
   ·rintro j σ H13 hj ⟨x,rfl,M,R⟩
    exact SqL.of (R _ _ T (j1 T da))
   ·rintro j v σ H13 hv ⟨x,rfl,M,R⟩
    obtain ⟨mv,rfl,c2⟩:=xG hv
    have hj:j<u.length:=(List.getElem?_eq_some_iff.mp c2).1
    have dg:u.take (j+1)=u.take j++[mv]:=by rw [aQ,c2];rfl
    left
    refine qv (λb6=>?_) (λb6=>?_)
    ·left
     refine ⟨_,M,by rw [ag];exact bM (bz _ _) (jf (by rw [aG];right)),_,rfl,?_,R.trans Ext.put⟩
     rw [j6,dg,bu,bY (by rw [decide_eq_true b6]),aq]
     rfl
    ·refine ⟨_,rfl,?_,R⟩
     rw [dg,bu,cc (by rw [decide_eq_false b6];exact ar),i0,aJ]
     exact M
   rintro σ H13 ⟨x,rfl,M,R⟩
   have bv:jk H12 H13:=λc o m=>R c o m (j1 m da)
   rw [ag,aZ (au _)] at M
   have b1:∀n∈u,-(2 ^ 20)<=n/\n<=2 ^ 20:=λn a0=>by have:=dy n a0;right
   left
   refine ⟨fa,_,rfl,SqL.of M,aK (bz _ _) (),λn a0=>b1 n (List.mem_filter.mp a0).1,?_⟩
   have bs:jk H6 H13:=ae.trans (b0.trans (cv.trans bv))
   have a4:=bs _ _ h6
   left
   refine ⟨.inl ⟨rfl,_,SqL.of a4⟩,?_⟩
   left
   refine ⟨mo,u,rfl,SqL.of (bv _ _ T),(),b1,?_⟩
   left
   refine ⟨by show 4<=sizeLine;decide,λtq eT eh dn bt=>?_⟩
   refine ⟨_,_,_,rfl,rfl,bt _ _ a4,jf (),?_⟩
   have a1:=bs.trans bt
   have ci:=bt _ _ (bv _ _ al)
   have bl:d2≠rw_:=(j1 (b0 _ _ (ae _ _ h6)) bk).symm
   have dT:tq≠rw_:=(j1 a4 eh).symm
   have dv:ql r gd wr g.rows fst i=((u.filter λx=>decide (0<x)).sum,(u.filter λx=>decide (0<x)).sum-u.sum,(D.drop (D.length-S)).sum,cI (· + ·) (jx S D) u):=by
    rw [ep,<- b5]
    rfl
   refine ⟨_,_,_,_,_,_,d2,G++[.ref tq],rfl,bl,?_,j6,by rw [aw,c4];rfl,?_,λc o m n=>by rw [j8 n];exact a1 _ _ (e6 c o m n)⟩
   ·rw [j8 bl,ci,eo,<- b5]
    rfl
   ·rw [uN,dv]
    refine cN (Paired.mapP r6 λv q ⟨b',cr,e,q1,q2,q3⟩=>⟨b',cr,e,?_,?_,q3⟩) ⟨tq,d2,rfl,by rw [j8 dT];exact dn,by rw [j8 bl];exact ci,bl⟩
    ·rw [j8 (jp q1 h6 ↥4)]
     exact a1 _ _ q1
    ·rw [j8 q3]
     exact a1 _ _ q2
  ·rintro σ H6 ⟨x8,x9,br,bq,bn,bm,dl,G,rfl,er,cd,h6,c4,r6,e6⟩
   left
   exact k rw_ G H6 ea h6 (Paired.mapP r6 λv q ⟨b',cr,e,q1,q2,_⟩=>⟨b',cr,e,q1,q2⟩) (t4.trans λc o m=>e6 c o m (j1 m a8))
noncomputable def vh:Nat->QC->Int
 | 0,q=>q.1
 | 1,q=>q.2.1
 | _,q=>q.2.2.1
theorem Vh {k:Nat}(h:k<3) (q:QC) (dl:Addr):atI [.int q.1,.int q.2.1,.int q.2.2.1,.ref dl] (k:Int)=some (V.int (vh k q)):=by
 match k,h with
 | 0,_=>rfl
 | 1,_=>rfl
 | 2,_=>rfl
inductive spTotal  (vs:List V) (H:Hp) (Q:VK) (z_3:XK):Prop
 | mk (a:Addr) (k:Nat) (out:List V) (qs:List QC) (_:vs=[.ref a,.int (k:Int)]) (_:k<3) (_:H a=some (.lst out)) (_:uL H out qs) (_:qs.length<=1000) (_:(∀q∈qs,-(2 ^ 20)<=vh k q/\vh k q<=2 ^ 20)) (_:∀H',jk H H'->Q (.int (qs.map (vh k)).sum) H')
theorem VG:FnScope ["rows","part"] ["rows","part"] (j7 kh):=by walk_at "s"
theorem Uc (z:Nb2 mg) (F:Fun K "total" "total" kh f fd):FnOk P w K mg base CX0 1 f fd ["rows","part"] spTotal:=by
 refine F.ok VG (λy H Q E h=>?_) (λO A outer s H y Q E R h=>?_)
 ·obtain ⟨a,k,e,qs,rfl,_⟩:=h
  rfl
 ·obtain ⟨a,k,e,qs,rfl,I,m,t,G,J,B⟩:=h
  have u:e.length=qs.length:=aV t
  refine ⟨_,(j9 (jj (jb (xN K rfl) rfl z.b_sum fX (j0 (jG (osc:=(j7 kh)) (ON:=["rows","part"]) (N:=["row","part"]) (own:=1) (caps:=[1]) ⟨rfl,∅,∅,∅,rfl,∅⟩ rfl rfl rfl (jT K (pv 0)) (λ_ _ _ _ _=>(jc (i:=0) (show aS (["row","part"]:List Str) by decide +kernel) rfl (aP rfl))) ↥14 (λ_ _ _ _ _=>(jm (qp K) (pv 0) (pv 1) (λ_ _=>rfl)))) j2)))),?_⟩
  left
  refine ⟨⟨_,SqL.of m⟩,λacc b=>?_⟩
  refine jO (K:=K) (a:=a) (xs:=e) (acc:=acc) (λi σ H1=>∃g:Option V,σ=[g,some (.int (k:Int))]/\H1 acc=some (.lst (((qs.take i).map (vh k)).map V.int))/\Ext acc H H1) ?_ ?_ ?_ ?_
  ·exact ⟨none,rfl,j6,Ext.put⟩
  ·rintro i σ H1 hi ⟨g,rfl,h1,d⟩
   exact SqL.of (d _ _ m (j1 m b))
  ·rintro i v σ H1 C ⟨g,rfl,h1,d⟩
   obtain ⟨q,p,L,dl,rfl,j,M⟩:=Paired.get t C
   have hi:i<qs.length:=(List.getElem?_eq_some_iff.mp p).1
   have l:=d _ _ j (j1 j b)
   left
   refine ⟨L,_,(k:Int),_,rfl,rfl,SqT.of l,Vh I q dl,?_⟩
   refine ⟨_,h1,by rw [ag,ag,aG];exact jf (),_,rfl,?_,d.trans Ext.put⟩
   rw [j6,aQ,p,aq,aq]
   rfl
  rintro σ H1 ⟨g,rfl,h1,d⟩
  have s1:jk H H1:=λc o x=>d c o x (j1 x b)
  rw [u,aX] at h1
  left
  refine ⟨acc,_,rfl,SqL.of h1,by rw [ag];exact G,λn D=>?_,?_⟩
  ·obtain ⟨q,r,rfl⟩:=List.mem_map.mp D
   exact J q r
  exact B _ s1
theorem QV:∀{xs:List Int}{a b:Int}{n:Nat},a<=0->0<=b->(∀x∈xs,a<=x/\x<=b)->xs.length<=n->a*(n:Int)<=xs.sum/\xs.sum<=b*(n:Int)
 | [],a,b,n,e,d,_,_=>⟨Int.mul_nonpos_of_nonpos_of_nonneg e (pj n),tD d (pj n)⟩
 | x::xs,a,b,0,_,_,_,c=>absurd c (Nat.not_succ_le_zero _)
 | x::xs,a,b,n+1,e,d,h,c=>by
  have i:=h x (aE ..)
  have g:=QV (n:=n) e d (λz f=>h z (aC _ f)) (by rw [b9] at c;right)
  rw [ee,show ((n+1:Nat):Int)=(n:Int)+1 from rfl,Int.mul_add,Int.mul_add,nH,nH]
  right
theorem Ve {gd:List Int}{fst:Int}(j:∀z,good (qV wr ts z)=true) (G:gd.length<=100) {i:Nat}(hi:i<900) {k:Nat} : -(2 ^ 20)<=vh k (ql ns gd wr ts fst i)/\vh k (ql ns gd wr ts fst i)<=2 ^ 20:=by
 have l:=vz (ns:=ns) (gd:=gd) (fst:=fst) j i
 have h:=qf ns gd wr ts fst i
 have q:=yI ns gd.length (fst+(i:Int))
 unfold ql
 generalize qL ns gd wr ts fst i=d at *
 generalize jB ns gd.length (fst+(i:Int))=s at *
 have o:=j (fst+(i:Int))
 generalize qV wr ts (fst+(i:Int))=t at *
 have f:∀x∈jx s d,0<=x/\x<=9*(i:Int):=λx m=>by
  rcases zJ m with e | e
  ·right
  ·exact l x e
 have p:(ze t (jx s d) gd).length=gd.length:=vQ (by rw [xH (),h])
 have g:∀z∈ze t (jx s d) gd,-8100<=z/\z<=9:=λz c=>by
  have:=QF o (gd:=gd) f z c
  right
 have v:=QV (n:=100) (a:=-8100) (b:=9) () () g ()
 have u:=QV (n:=100) (a:=0) (b:=9) (xs:=(ze t (jx s d) gd).filter λx=>decide (0<x)) () () (λz c=>by
  obtain ⟨h1,h2⟩:=List.mem_filter.mp c
  have:=g z h1
  have:=of_decide_eq_true h2
  right) (aK (bz _ _) ())
 have r:=QV (n:=100) (a:=0) (b:=8100) (xs:=d.drop (d.length-s)) () () (λz c=>by
  have:=l z (dU c)
  right) (by rw [eI];right)
 match k with
 | 0=>show _<=(yg gd t s d).1/\(yg gd t s d).1<=_;unfold yg;dsimp only;right
 | 1=>show _<=(yg gd t s d).2.1/\(yg gd t s d).2.1<=_;unfold yg;dsimp only;right
 | k+2=>show _<=(yg gd t s d).2.2.1/\(yg gd t s d).2.2.1<=_;unfold yg;dsimp only;right
theorem UE (xs:List V) (k:Nat):wm xs none (some (k:Int))=xs.take k:=by
 unfold wm
 rw [HT.sIx_none,HT.sIx_nat,og,Nat.sub_zero]
 by_cases h:k<=xs.length
 ·rw [lj h]
 ·rw [rS (),aZ (au _)]
  exact (aZ ()).symm
theorem YF (xs:List V) (k:Nat):wm xs (some (k:Int)) none=xs.drop k:=by
 unfold wm
 rw [HT.sIx_none,HT.sIx_nat]
 by_cases h:k<=xs.length
 ·rw [lj h]
  exact aZ (by rw [eI];right)
 ·rw [rS (),iH (au _),oH]
  exact (iH ()).symm
theorem Paired.takeP {α β:Type}{R:α->β->Prop}:∀{xs:List α}{ys:List β}(n:Nat),cz R xs ys->cz R (xs.take n) (ys.take n)
 | _,_,0,_=>by rw [eO,eO];exact .nil
 | _,_,n+1,.nil=>by rw [oH,oH];exact .nil
 | _,_,n+1,.cons h r=>.cons h (Paired.takeP n r)
theorem Paired.dropP {α β:Type}{R:α->β->Prop}:∀{xs:List α}{ys:List β}(n:Nat),cz R xs ys->cz R (xs.drop n) (ys.drop n)
 | _,_,0,h=>h
 | _,_,n+1,.nil=>by rw [md,md];exact .nil
 | _,_,n+1,.cons h r=>Paired.dropP n r
theorem uL.same {j:List V}(h:uL H j qs) (s:jk H H'):uL H' j qs:=Paired.mapP h λ_ _ ⟨b,dl,e,q,d⟩=>⟨b,dl,e,s _ _ q,s _ _ d⟩
noncomputable def soR (st many y:Int):Int:=(if y-st > 0 then y-st else 0) / many
noncomputable def soU (st many y:Int):Int:=y-soR st many y*many
theorem E4 {st many y:Int}(U:0<=st) (j:0<many) (G:0<=y):0<=soR st many y/\soR st many y<=y/\0<=soU st many y/\soU st many y<st+many:=by
 unfold soU soR
 by_cases z:y-st > 0
 ·rw [if_pos z]
  have h1:=dQ (y-st) (show many≠0 by right)
  have h2:=dh (y-st) j
  have a:=Int.mul_ediv_add_emod (y-st) many
  rw [Int.mul_comm] at a
  have c:(y-st) / many<=y-st:=Int.ediv_le_self _ ()
  have b:0<=(y-st) / many:=Int.ediv_nonneg () ()
  right
 ·rw [if_neg z,Int.zero_ediv,Int.zero_mul]
  right
inductive spSoFar (C CN CY:Addr) (vs:List V) (H:Hp) (Q:VK) (E:XK):Prop
 | mk (p:Addr) (g:IceG) (l y:Int) (sk:List (Int×Addr)) (wr:List (Int×T3)) (_:vs=[.ref p,.int l,.int y]) (_:IceAt C H p g) (_:g.ys.length=g.rows.length) (_:g.lds.length=g.slopes.length) (_:g.kvs=sk.map kvA) (_:sk.length<64) (_:(∀z∈sk,0<=z.1/\z.1<=99)) (_:xY H sk wr) (_:1<=g.rows.length) (_:g.rows.length<=600) (_: ↥112) (_: ↥45) (_:(0<=l->l< ↥18->(y<0\/10 ^ 40<y->E (.ref CY) none H) /\
  (0<=y->y<=10 ^ 40->∃(ns ms:List (Int×Int)) (gd:List Int),Zy g l ns/\(∀q∈ns,0<=q.1/\q.1<=99)/\ms.Perm ns/\ (↥111).Pairwise (· <= ·)/\g.slopes.getD l.toNat []=gd/\1<=gd.length/\gd.length<=100/\∀t H',H t=none->jk H H'->Q (.ref t) H')))
theorem xw:FnScope ["ice","lane","year","start","many","rounds","rows","up_to","fallen","melted","gone"] ["ice","lane","year"] (j7 uJ):=by walk_at "s"
theorem YQ (nb:Nb2 mg) (ae:Cls K C) (G:CalMX P w K mg base 1 C "check_lane" ["self","lane"] (spCheckLane C CN)) (Y:CalX P w K mg base 1 "check_asked" ["year"] (spCheckAsked CY)) (al:CalX P w K mg base 3 "settled" ["ice","lane"] (spSettled C)) (ab:CalM P w K mg base 1 C "rows" ["self"] (spRowsI C)) (am:CalX P w K mg base 4 "course" ["ice","lane","first","last"] (spCourse C)) (ac:Cal P w K mg base 1 "total" ["rows","part"] spTotal)
  (F:Fun K "so_far" "so_far" uJ f fd):FnOk P w K mg base (CX1 P w) 5 f fd ["ice","lane","year"] (spSoFar C CN CY):=by
 refine Fun.okX F xw ↥29 (λch A outer s H vs Q E r h=>?_)
 ·obtain ⟨p,g,l,y,sk,wr,rfl,_⟩:=h
  rfl
 ·obtain ⟨p,g,l,y,sk,wr,rfl,I,a9,a0,ek,a6,a1,hw,bi,b1,sg,kx,k⟩:=h
  refine ⟨_,(j5 (jX (zU (pv 0) ae G (r.mono ⋯) qN ↥34))
   (j5 (jX (xD Y (r.mono ⋯) qN rfl ↥52))
   (j5 (xa (i:=3) xw.nd rfl (df rfl) (xD al (r.mono ⋯) qN rfl (j0 (pv 0) ↥34)))
   (j5 (jo 4 xw.nd (jb (jg K) rfl nb.b_len aR (j0 (WC (pv 0) ae ab (r.mono ⋯)) j2)))
   (j5 (xa (i:=5) xw.nd rfl (df rfl) (jh vH (jb (qO rfl) rfl nb.b_max fg (j0 j4 (j0 (jh jN (pv 2) (pv 3)) j2))) (pv 4)))
   (j5 (xa (i:=6) xw.nd rfl (df rfl) (xD am (r.mono ⋯) qN rfl (j0 (pv 0) (j0 (pv 1) (j0 j4 (j0 (jh jN (jh jE (pv 3) (pv 4)) j4) j2))))))
   (j5 (xa (i:=7) xw.nd rfl (df rfl) (uG (vV K) (pv 6) ki (kA (jh jE (jh jN (pv 2) (jh vt (pv 5) (pv 4))) j4))))
   (j5 (zj (jG (osc:=(j7 uJ)) (ON:=["ice","lane","year","start","many","rounds","rows","up_to","fallen","melted","gone"]) (N:=["part","up_to","rounds","rows","start"]) (own:=1) (caps:=[7,5,6,3]) ⟨rfl,∅,∅,∅,rfl,∅⟩ rfl rfl rfl (jU rfl nb.b_range (j0 j4 j2)) (λ_ _ _ _ _=>(jc (i:=0) (show aS (["part","up_to","rounds","rows","start"]:List Str) by decide +kernel) rfl (aP rfl))) ↥14 (λ_ _ _ _ _=>(jh jE (je ac (r.mono ⋯) rfl (j0 (pv 1) ↥42)) (jh vt (pv 2) (je ac (r.mono ⋯) rfl (j0 (uG (vV K) (pv 3) (kA (pv 4)) ki) ↥42)))))) (Wm (n:=3) K rfl (jn (jc (i:=8) xw.nd rfl (aP rfl)) (jn (jc (i:=9) xw.nd rfl (aP rfl)) (jn (jc (i:=10) xw.nd rfl (aP rfl)) qz)))))
   (j9 (jj (qa (j0 (pv 8) (j0 (pv 9) (j0 (pv 10) (j0 (jb (xN K rfl) rfl nb.b_sum fX (j0 (jm (qp K) (jm (jd K) (pv 7) (vi zB j4) (λ_ _=>rfl)) j4 (λ_ _=>rfl)) j2)) j2))))))))))))))),?_⟩
  left
  refine ⟨p,g.dx,_,rfl,I.ob,qx ∅,?_⟩
  left
  refine ⟨p,g,l,rfl,I,λl0 l1=>?_,kx⟩
  obtain ⟨ky,k⟩:=k l0 l1
  left
  refine ⟨λy0 y1=>?_,ky⟩
  obtain ⟨ns,T,gd,LD,aL,hp,hs,a3,g1,O,k⟩:=k y0 y1
  left
  refine ⟨p,g,l,sk,ns,rfl,I,a0,ek,a6,(λz B=>(a1 z B).1),LD,(λq d=>(aL q d).1),λM H1 ce br cb cd s1=>?_⟩
  have bt:M<=99:=by
   rcases br with h | h | h
   ·right
   ·obtain ⟨z,B,rfl⟩:=List.mem_map.mp h
    exact (a1 z B).2
   ·obtain ⟨z,B,rfl⟩:=List.mem_map.mp h
    exact (aL z B).2
  obtain ⟨st,bs⟩:∃st,st=M+1+ ↥58:=⟨_,rfl⟩
  obtain ⟨rows,e⟩:∃rows,rows=xc T gd wr g.rows 0 (st+ ↥70).toNat:=⟨_,rfl⟩
  have ub:=E4 (st:=st) (many:=↥70) (y:=y) () () y0
  have b0:rows.length=(st+ ↥70).toNat:=by rw [e];unfold xc;rw [ag,bG]
  have D:∀q∈rows,∀k,-(2 ^ 20)<=vh k q/\vh k q<=2 ^ 20:=λq d k=>by
   rw [e] at d
   obtain ⟨i,hi,rfl⟩:=List.mem_map.mp d
   exact Ve sg O (by have:=List.mem_range.mp hi;right)
  have bq:∀q∈rows,q.2.2.2.length=gd.length/\∀x∈q.2.2.2,0<=x/\x<=9*900:=λq d=>by
   rw [e] at d
   obtain ⟨i,hi,rfl⟩:=List.mem_map.mp d
   refine ⟨qf T gd wr g.rows 0 (i+1),λx hx=>?_⟩
   have:=vz (ns:=T) (gd:=gd) (fst:=0) sg (i+1) x hx
   have:=List.mem_range.mp hi
   right
  rw [a3,<- bs]
  have I1:=I.same s1
  left
  refine ⟨p,g.dx,_,rfl,I1.ob,qx ∅,?_⟩
  left
  refine ⟨p,g,rfl,I1,λlr H2 b4 a5 s2=>?_⟩
  have I2:=I1.same s2
  left
  refine ⟨lr,_,rfl,.inl (SqL.of a5),?_⟩
  rw [a9]
  left
  refine ⟨_,_,rfl,?_⟩
  left
  simp only [vO,aJ]
  rw [show (if y-st > 0 then y-st else 0) / ↥70=soR st ↥70 y from rfl]
  have eU:y-soR st ↥70 y* ↥70=soU st ↥70 y:=rfl
  generalize soU st ↥70 y=U at *
  generalize soR st ↥70 y=R at *
  refine ⟨p,g,l,0,st+ ↥70-1,sk,wr,ns,T,gd,rfl,I2,a0,ek,hw.keep (jq.same (s1.trans s2)),bi,(),sg,LD,hp,hs,a3,g1,O,(),λo ap H3 ho as r3 s3=>?_⟩
  rw [show (st+ ↥70-1+1-0).toNat=(st+ ↥70).toNat by right,<- e] at r3
  have b3:ap.length=rows.length:=aV r3
  left
  refine ⟨_,_,rfl,SqL.of as,λa4 H4 b6 v s4=>?_⟩
  rw [eU,show U+1=(((U+1).toNat:Nat):Int) by right,UE] at v
  have r4:=uL.same r3 s4
  have bm:=s4 _ _ as
  left
  refine ⟨⋯,⋯,λacc J=>?_⟩
  have bd:(rows.take (U+1).toNat).length<=1000:=by rw [aG];right
  have bn:(rows.drop st.toNat).length<=900:=by rw [eI];right
  refine qr (lo:=0) (n:=(3:Int).toNat) (acc:=acc) (λj σ H5=>∃x:Option V,σ=[x,some (.ref a4),some (.int R),some (.ref o),some (.int st)]/\H5 acc=some (.lst ((aM j).map λk=>V.int (((rows.take (U+1).toNat).map (vh k)).sum+R*((rows.drop st.toNat).map (vh k)).sum)))/\Ext acc H4 H5) ?_ ?_ ?_
  ·exact ⟨none,rfl,j6,Ext.put⟩
  ·rintro j σ H5 hj ⟨x,rfl,h5,X⟩
   have a2:j<3:=hj
   have m:jk H4 H5:=λc o u=>X c o u (j1 u J)
   left
   refine ⟨a4,j,_,_,by rw [cS];rfl,a2,m _ _ v,Paired.takeP _ (uL.same r4 m),bd,λq d=>D q (fI d) j,λH6 S=>?_⟩
   have an:=m.trans S
   left
   refine ⟨_,_,rfl,SqL.of (an _ _ bm),λa7 H7 b5 L s7=>?_⟩
   rw [show st=((st.toNat:Nat):Int) by right,YF] at L
   have a8:=an.trans s7
   left
   refine ⟨a7,j,_,_,by rw [cS];rfl,a2,L,Paired.dropP _ (uL.same r4 a8),(),λq d=>D q (dU d) j,λH8 s8=>?_⟩
   have sb:=QV (n:=900) (a:=-(2 ^ 20)) (b:=2 ^ 20) (xs:=(rows.drop st.toNat).map (vh j)) ⋯ ⋯ (λx hx=>by
    obtain ⟨q,d,rfl⟩:=List.mem_map.mp hx
    exact D q (dU d) j) (by rw [ag];exact bn)
   have Z:=S.trans (s7.trans s8)
   left
   refine ⟨_,Z _ _ h5,by rw [ag,bG];exact jf (),_,rfl,?_,λc o u n=>by rw [j8 n];exact Z _ _ (X c o u n)⟩
   rw [j6,bZ,aq]
   rfl
  rintro σ H5 ⟨x,rfl,h5,X⟩
  have m:jk H4 H5:=λc o u=>X c o u (j1 u J)
  refine ⟨acc,_,rfl,SqL.of h5,rfl,?_⟩
  refine ⟨_,_,rfl,_,_,rfl,_,_,rfl,rfl,?_⟩
  left
  have hi:U.toNat<ap.length:=()
  obtain ⟨q,d,b,dl,eb,hb,hd⟩:=Paired.get (uL.same r4 m) (aa hi)
  have bk:q∈rows:=aA d
  obtain ⟨b2,bl⟩:=bq q bk
  refine ⟨_,_,_,_,rfl,rfl,SqL.of (m _ _ v),(by rw [show (U+1).toNat=U.toNat+1 by right,aQ,aa hi,eb];exact w9 _ _),?_⟩
  left
  refine ⟨dl,_,rfl,SqL.of hd,(),λn hn=>by have:=bl n hn;right,?_⟩
  left
  refine ⟨by show 4<=sizeLine;decide,λt H6 ht bv S=>?_⟩
  have sA:=s1.trans (s2.trans (s3.trans (s4.trans m)))
  exact k t H6 (sA.free ht) (sA.trans S)
theorem YT {len:Nat}{y:Int}(h:0<=jR ns y) (j:1<=len):1<=jB ns len y:=by
 unfold jB
 right
theorem Uo {s:Nat}{d d':List Int}(j:d.length=d'.length) (G:1<=s) {i p:Nat}(U:p<i+1) (h:∀q,q<i->d[q]? = d'[q]?):(jx s d)[p]? = (jx s d')[p]?:=by
 unfold jx
 rw [oh,oh,bc]
 by_cases z:p<s
 ·rw [if_pos z,if_pos z]
 ·rw [if_neg z,if_neg z,j,i7,i7,h (p-s) ()]
theorem WR {s:Nat}{d d':List Int}(G:d.length=d'.length) (j:1<=s) {i p:Nat}(z:p<i+1) (h:∀q,q<i->d[q]? = d'[q]?):(yg gd t s d).2.2.2[p]? = (yg gd t s d').2.2.2[p]?:=by
 have e:=Uo G j z h
 show (cI (· + ·) (jx s d) (ze t (jx s d) gd))[p]? = (cI (· + ·) (jx s d') (ze t (jx s d') gd))[p]?
 unfold ze
 rw [bX,bX,bX,bX,e]
theorem gK {gd:List Int}(j:∀y,0<=jR ns y) (h1:1<=gd.length) (fst:Int) (a:Nat):∀i p:Nat,p<i->(qL ns gd wr ts (fst+(a:Int)) i)[p]? = (qL ns gd wr ts fst (a+i))[p]?
 | 0,p,b=>absurd b (mY _)
 | i+1,p,b=>by
  have c:=gK (wr:=wr) (ts:=ts) j h1 fst a i
  have e:fst+(a:Int)+(i:Int)=fst+((a+i:Nat):Int):=()
  show (yg gd (qV wr ts (fst+(a:Int)+(i:Int))) _ _).2.2.2[p]? = (yg gd (qV wr ts (fst+((a+i:Nat):Int))) _ _).2.2.2[p]?
  rw [e]
  exact WR (by rw [qf,qf]) (YT (j _) h1) b c
theorem QT {gd:List Int}(j:∀y,0<=jR ns y) (h1:1<=gd.length) (fst:Int) (a i:Nat) (hi:gd.length<=i):qL ns gd wr ts (fst+(a:Int)) i=qL ns gd wr ts fst (a+i):=by
 refine iD λp=>?_
 by_cases z:p<i
 ·exact gK j h1 fst a i p z
 ·rw [nB (by rw [qf];right),nB (by rw [qf];right)]
theorem Xl {gd:List Int}(j:∀y,0<=jR ns y) (h1:1<=gd.length) (fst:Int) (a i:Nat) (hi:gd.length<=i):ql ns gd wr ts (fst+(a:Int)) i=ql ns gd wr ts fst (a+i):=by
 unfold ql
 rw [QT j h1 fst a i hi,show fst+(a:Int)+(i:Int)=fst+((a+i:Nat):Int) by right]
theorem QI {j:List (Int×Int)}{gd:List Int}(G:(j.map (·.1)).Pairwise (· < ·)) (U:∀q∈j,0<=q.1/\0<=q.2) (Y:∀y,0<=jR j y):∀(y n:Nat) (m:Int),n<gd.length->m=(y:Int)+js j (y:Int)-(n:Int)->ji 0 0 j m<=(y:Int)/\ (↥134)[n]? = some (qw j gd wr ts m (ji 0 0 j m) (↥88).toNat)/\(qL j gd wr ts 0 (y+1))[n]? = some (qw j gd wr ts m (ji 0 0 j m) ((y:Int)-ji 0 0 j m+1).toNat):=by
 have l:(j.map (·.1)).Nodup:=G.imp λh=>()
 have b:∀(m z:Int),0<=z->(m<=z+js j z↔ji 0 0 j m<=z):=λm z g=>by
  have:=yC j 0 0 m z (λq i=>U q i) G g
  rw [lB] at this
  exact this
 have v:∀m,0<=ji 0 0 j m:=λm=>yF j 0 0 m (λq i=>(U q i).1) (G.imp λh=>())
 have one:∀(y n:Nat) (m:Int),n<gd.length->m=(y:Int)+js j (y:Int)-(n:Int)->ji 0 0 j m<=(y:Int)->(↥134)[n]? = some (qw j gd wr ts m (ji 0 0 j m) (↥88).toNat)->ji 0 0 j m<=(y:Int)/\ (↥134)[n]? = some (qw j gd wr ts m (ji 0 0 j m) (↥88).toNat)/\(qL j gd wr ts 0 (y+1))[n]? = some (qw j gd wr ts m (ji 0 0 j m) ((y:Int)-ji 0 0 j m+1).toNat):=λy n m a d c f=>by
  refine ⟨c,f,?_⟩
  show (cI (· + ·) (jx _ _) (ze _ (jx _ _) gd))[n]? = _
  unfold ze
  rw [bX,bX,f,aa a]
  have r:qy j gd wr ts m (y:Int)=chg (qV wr ts (0+(y:Int))) gd[n]:=by
   unfold qy plc
   rw [show ((y:Int)+js j (y:Int)-m).toNat=n by right,cS,ak,aa a]
   rfl
  rw [show ((y:Int)-ji 0 0 j m+1).toNat=(↥88).toNat+1 by right]
  show _=some (qw j gd wr ts m (ji 0 0 j m) (↥88).toNat+(if qy j gd wr ts m (ji 0 0 j m+((↥88).toNat:Int)) > - qw j gd wr ts m (ji 0 0 j m) (↥88).toNat then qy j gd wr ts m (ji 0 0 j m+((↥88).toNat:Int)) else-qw j gd wr ts m (ji 0 0 j m) (↥88).toNat))
  rw [show ji 0 0 j m+((↥88).toNat:Int)=(y:Int) by right,r]
 intro y
 induction y with
 | zero =>
  intro n m a d
  have c:ji 0 0 j m<=((0:Nat):Int):=(b m _ ()).mp ()
  have:=v m
  refine one 0 n m a d c ?_
  rw [show (((0:Nat):Int)-ji 0 0 j m).toNat=0 by right]
  have g:∀x∈jx (jB j gd.length (0+((0:Nat):Int))) (qL j gd wr ts 0 0),x=0:=λx p=>by
   rcases zJ p with e | e
   ·exact e
   ·exact (List.mem_replicate.mp e).2
  have B:(jx (jB j gd.length (0+((0:Nat):Int))) (qL j gd wr ts 0 0)).length=gd.length:=by rw [xH (by rw [qf];exact yI _ _ _),qf]
  rw [aa (),g _ (bQ _)]
  rfl
 | succ y o =>
  intro n m a d
  have c:ji 0 0 j m<=((y+1:Nat):Int):=(b m _ ()).mp ()
  have st:=zT l (y:Int)
  rw [show (y:Int)+1=((y+1:Nat):Int) by right] at st
  have w:=Y ((y+1:Nat):Int)
  have t:jB j gd.length (0+((y+1:Nat):Int))=(min (1+jR j ((y+1:Nat):Int)) ↥58).toNat:=by unfold jB;rw [cS]
  obtain ⟨s,es⟩:∃s,jB j gd.length (0+((y+1:Nat):Int))=s:=⟨_,rfl⟩
  rw [es] at t
  refine one (y+1) n m a d c ?_
  rw [es]
  unfold jx
  by_cases z:n<s
  ·have k:ji 0 0 j m=((y+1:Nat):Int):=by
    have:¬ji 0 0 j m<=(y:Int):=λh=>absurd ((b m (y:Int) ()).mpr h) ()
    right
   rw [k,Int.sub_self,cJ (by rw [bc];exact z),eE,if_pos z]
   rfl
  ·obtain ⟨A,-,u⟩:=o (n-s) m () ()
   rw [cE (by rw [bc];right),bc,i7,qf,if_pos (),u,show (((y+1:Nat):Int)-ji 0 0 j m).toNat=((y:Int)-ji 0 0 j m+1).toNat by right]
theorem G1 {d:List Int}{n:Nat}{x y:Int}(h1:d[n]? = some x) (h2:(cI (· + ·) d (ze t d gd))[n]? = some y):(ze t d gd)[n]? = some (y-x):=by
 rw [bX,h1] at h2
 cases e:(ze t d gd)[n]? with
 | none=>rw [e] at h2;cases h2
 | some z =>
  rw [e] at h2
  have h2:x+z=y:=aI h2
  rw [show y-x=z by right]
inductive spYearRow (C:Addr) (vs:List V) (H:Hp) (Q:VK) (z_3:XK):Prop
 | mk (p:Addr) (g:IceG) (l y:Int) (sk:List (Int×Addr)) (wr:List (Int×T3)) (ns ms:List (Int×Int)) (gd:List Int) (_:vs=[.ref p,.int l,.int y]) (_:IceAt C H p g) (_:g.lds.length=g.slopes.length) (_:g.kvs=sk.map kvA) (_:xY H sk wr) (_:1<=g.rows.length) (_:g.rows.length<=1000) (_: ↥112) (_:Zy g l ns) (_:ms.Perm ns) (_: (↥111).Pairwise (· <= ·)) (_:g.slopes.getD l.toNat []=gd) (_:1<=gd.length) (_:gd.length<=100) (_:0<=y) (_:∀b dl q H',q=ql ms gd wr g.rows 0 y.toNat->q.2.2.2.length=gd.length->(∀x∈q.2.2.2,0<=x/\x<=9*900)->H' b=some ↥148->H' dl=some ↥60->jk H H'->Q (.ref b) H')
theorem X0:FnScope ["ice","lane","year"] ["ice","lane","year"] (j7 uB):=by walk_at "s"
theorem XH (nb:Nb2 mg) (U:Cls K C) (j:CalMX P w K mg base 2 C "length" ["self","lane"] (spLengthI C CN)) (G:CalX P w K mg base 4 "course" ["ice","lane","first","last"] (spCourse C))
  (F:Fun K "year_row" "year_row" uB f fd):FnOk P w K mg base (CX1 P w) 5 f fd ["ice","lane","year"] (spYearRow C):=by
 refine Fun.okX F X0 (λZ H Q E h=>?_) (λab A outer s H Z Q E N h=>?_)
 ·obtain ⟨p,g,l,y,D,wr,ns,c,gd,rfl,_⟩:=h
  rfl
 ·obtain ⟨p,g,l,y,D,wr,ns,c,gd,rfl,I,T,ek,hw,M,L,J,Y,O,hs,n,X,B,y0,k⟩:=h
  obtain ⟨l0,l1,_,_,_,h9⟩:=id Y
  have hv:∀z,0<=jR c z:=λz=>(wg (λq d=>h9 q (O.mem_iff.mp d)) z).1
  refine ⟨_,(j9 (jj (jm (jd K) (xD G (N.mono ⋯) qN rfl (j0 (pv 0) (j0 (pv 1) (j0 (jb (qO rfl) rfl nb.b_max fg (j0 j4 (j0 (jh jN (pv 2) (zU (pv 0) U j (N.mono ⋯) qN ↥34)) j2))) ↥52)))) (vi zB j4) (λ_ _=>rfl)))),?_⟩
  left
  refine ⟨p,g.dx,_,rfl,I.ob,qx ∅,?_⟩
  left
  refine ⟨p,g,l,rfl,I,λ_ _=>?_,λv=>absurd v ()⟩
  rw [n]
  left
  refine ⟨_,_,rfl,?_⟩
  left
  simp only [vO,aJ]
  obtain ⟨fst,m⟩:∃fst,(if y- ↥58 > 0 then y- ↥58 else 0)=fst:=⟨_,rfl⟩
  rw [m]
  have hf:fst=0/\y<=↥58\/fst=y- ↥58/\ ↥58<y:=by
   rw [<- m]
   split <;> right
  clear m
  obtain ⟨i,ei⟩:∃i,(y+1-fst).toNat=i+1:=⟨(y-fst).toNat,()⟩
  have u:ql c gd wr g.rows fst i=ql c gd wr g.rows 0 y.toNat:=by
   rcases hf with ⟨rfl,h⟩ | ⟨rfl,h⟩
   ·rw [show i=y.toNat by right]
   ·have e:=Xl (wr:=wr) (ts:=g.rows) hv X 0 (y- ↥58).toNat gd.length (au _)
    rw [show (0:Int)+((y- ↥58).toNat:Int)=y- ↥58 by right,show (y- ↥58).toNat+gd.length=y.toNat by right] at e
    rw [show i=gd.length by right]
    exact e
  refine ⟨p,g,l,fst,y,D,wr,ns,c,gd,rfl,I,T,ek,hw,M,L,J,Y,O,hs,n,X,B,(),λo a H3 ho S t s3=>?_⟩
  rw [ei] at t
  have R:a.length=i+1:=(aV t).trans (by unfold xc;rw [ag,bG])
  obtain ⟨q,d,b,dl,eb,v,hd⟩:=Paired.get t (aa (show i<a.length by right))
  have d:ql c gd wr g.rows fst i=q:=by
   unfold xc at d
   rw [ax,eA ()] at d
   exact aI d
  have eo:a=a.take i++[V.ref b]:=by
   have:=aZ (mE R)
   rw [aQ,aa (show i<a.length by right),eb] at this
   exact this.symm
  have r:q.2.2.2=qL c gd wr g.rows fst (i+1):=by rw [<- d];rfl
  left
  refine ⟨_,_,_,_,rfl,rfl,SqL.of S,(by rw [eo];exact w9 _ _),?_⟩
  refine k b dl q H3 (d.symm.trans u) (by rw [r,qf]) (λx hx=>?_) v hd s3
  have:=vz (ns:=c) (gd:=gd) (fst:=fst) J (i+1) x (by rw [<- r];exact hx)
  right
inductive spSums (C CN CY:Addr) (vs:List V) (H:Hp) (Q:VK) (E:XK):Prop
 | mk (p:Addr) (g:IceG) (l y:Int) (sk:List (Int×Addr)) (wr:List (Int×T3)) (_:vs=[.ref p,.int l,.int y]) (_:IceAt C H p g) (_:g.lds.length=g.slopes.length) (_:g.kvs=sk.map kvA) (_:xY H sk wr) (_:1<=g.rows.length) (_:g.rows.length<=1000) (_: ↥112) (_: ↥45) (_:(0<=l->l< ↥18->(y<0\/10 ^ 40<y->E (.ref CY) none H) /\
  (0<=y->y<=10 ^ 40->∃(ns ms:List (Int×Int)) (gd:List Int),Zy g l ns/\ms.Perm ns/\ (↥111).Pairwise (· <= ·)/\g.slopes.getD l.toNat []=gd/\1<=gd.length/\gd.length<=100/\∀t q H',q=ql ms gd wr g.rows 0 y.toNat->H t=none->H' t=some ↥120->jk H H'->Q (.ref t) H')))
theorem uV:FnScope ["ice","lane","year","fallen","melted","gone","depths"] ["ice","lane","year"] (j7 Zn):=by walk_at "s"
theorem Wc (Y:Nb2 mg) (U:Cls K C) (j:CalMX P w K mg base 1 C "check_lane" ["self","lane"] (spCheckLane C CN)) (z:CalX P w K mg base 1 "check_asked" ["year"] (spCheckAsked CY)) (G:CalX P w K mg base 5 "year_row" ["ice","lane","year"] (spYearRow C))
  (F:Fun K "sums" "sums" Zn f fd):FnOk P w K mg base (CX1 P w) 6 f fd ["ice","lane","year"] (spSums C CN CY):=by
 refine Fun.okX F uV (λD H Q E h=>?_) (λac A outer s H D Q E a h=>?_)
 ·obtain ⟨p,g,l,y,e,wr,rfl,_⟩:=h
  rfl
 ·obtain ⟨p,g,l,y,e,wr,rfl,I,v,ek,V,r,o,J,T,k⟩:=h
  refine ⟨_,(j5 (jX (zU (pv 0) U j (a.mono ⋯) qN ↥34))
   (j5 (jX (xD z (a.mono ⋯) qN rfl ↥52))
   (j5 (zj (xD G (a.mono ⋯) qN rfl (j0 (pv 0) (j0 (pv 1) ↥52))) (qS (n:=4) K rfl (jn (jc (i:=3) uV.nd rfl (aP rfl)) (jn (jc (i:=4) uV.nd rfl (aP rfl)) (jn (jc (i:=5) uV.nd rfl (aP rfl)) (jn (jc (i:=6) uV.nd rfl (aP rfl)) qz))))))
   (j9 (jj (qa (j0 (pv 3) (j0 (pv 4) (j0 (pv 5) (j0 (jb (xN K rfl) rfl Y.b_sum fX (j0 (pv 6) j2)) j2)))))))))),?_⟩
  left
  refine ⟨p,g.dx,_,rfl,I.ob,qx ∅,?_⟩
  left
  refine ⟨p,g,l,rfl,I,λR O=>?_,T⟩
  obtain ⟨S,k⟩:=k R O
  left
  refine ⟨λd B=>?_,S⟩
  obtain ⟨M,N,gd,LD,hp,Z,x,g1,c,k⟩:=k d B
  left
  refine ⟨p,g,l,y,e,wr,M,N,gd,rfl,I,v,ek,V,r,o,J,LD,hp,Z,x,g1,c,d,λb dl q H1 eq ab u hb hd s1=>?_⟩
  refine ⟨b,_,rfl,SqT.of hb,rfl,?_⟩
  refine ⟨_,_,rfl,_,_,rfl,_,_,rfl,_,_,rfl,rfl,?_⟩
  left
  refine ⟨dl,_,rfl,SqL.of hd,(),λn hn=>by have:=u n hn;right,?_⟩
  left
  refine ⟨by show 4<=sizeLine;decide,λt H6 X m L=>?_⟩
  exact k t q H6 eq (s1.free X) m (s1.trans L)
theorem kW {l y:Int}{Q:VK}(S:ScAt H z c) (j:LaneF c g l U da G) (k:∀H',FrM c.D H H'->Q (.int (y+js G y)) H'):spRide [.ref z,.int l,.int y] H Q E:=by
 have a:=aA j.cd
 have d:c.lds.map (λx=>V.ref x.1)=(c.lds.map (·.1)).map V.ref:=by rw [bW];rfl
 have e:(c.lds.map (·.1))[l.toNat]? = some da:=by rw [ax,j.cd];rfl
 have h:=j.l10
 exact ⟨c.D,z,c.p,c.q,c.sg,c.gl,c.ll,da,c.lds.map (·.1),l,_,G,rfl,S.sd,(by rw [<- d];exact S.ll),j.l0,e,S.ld _ a,j.D,S.nD,(),j.nd,λq f=>by have:=j.b q f;right,k⟩
theorem FrM.dk (f:FrM M H H') (h:H c=some o) (n:¬M c):H' c=some o:=by
 rcases f c o h with z | ⟨m,_⟩
 ·exact z
 ·exact absurd m n
theorem ScAt.D_none {sd:Addr}(S:ScAt H sd c) (h:H a=none):¬c.D a:=by
 rintro (rfl | ⟨x,b,rfl⟩)
 ·rcases S.sg with z | ⟨o,z⟩ <;> (rw [h] at z;cases z)
 ·rcases S.ld x b with z | ⟨o,z⟩ <;> (rw [h] at z;cases z)
theorem ScAt.gnd {sd:Addr}{l:Int}(S:ScAt H sd c) (z:LaneF c g l G Y U):∃j,atI c.zs l=some (V.ref j)/\H j=some (.lst ((ja c.rs G).map V.int)):=by
 have b:c.zs.length=c.ws.length:=(aV S.gi).trans (ag _)
 have hi:l.toNat<c.zs.length:=by rw [b];exact (List.getElem?_eq_some_iff.mp z.way).1
 obtain ⟨f,a,j,e,d⟩:=Paired.get S.gi (aa hi)
 rw [ax,z.way] at a
 have a:=aI a
 subst a
 exact ⟨j,qo z.l0 (by rw [aa hi,e]),d⟩
noncomputable def xJ (R:Int) (n:Nat):List Int:=(aM n).map λp:Nat=>R-(p:Int)
theorem Yr {R k:Int}{n:Nat}:k∈xJ R n↔R-(n:Int)<k/\k<=R:=by
 unfold xJ
 rw [List.mem_map]
 constructor
 ·rintro ⟨p,c,rfl⟩
  have:=List.mem_range.mp c
  right
 ·rintro ⟨a,b⟩
  exact ⟨(R-k).toNat,List.mem_range.mpr (),()⟩
theorem zI (R:Int) (n:Nat):(xJ R n).length=n:=by
 unfold xJ
 rw [ag,bG]
theorem QQ {R:Int}{n p:Nat}(h:p<n):(xJ R n)[p]? = some (R-(p:Int)):=by
 unfold xJ
 rw [ax,eA h]
 rfl
inductive spMarks  (vs:List V) (H:Hp) (Q:VK) (z_3:XK):Prop
 | mk (sd:Addr) (c:ScN) (g:IceG) (l y:Int) (wy:List Int) (da:Addr) (dn:List (Int×Int)) (_:vs=[.ref sd,.int l,.int y]) (_:ScAt H sd c) (_:LaneF c g l wy da dn) (_:∀o H',H o=none->H' o=some (.lst ((xJ (y+js dn y) (ja c.rs wy).length).map V.int))->FrM c.D H H'->Q (.ref o) H')
theorem uF:FnScope ["_law_scene_here","_law_lane","_law_year_here","_law_ride_here"] ["_law_scene_here","_law_lane","_law_year_here"] (j7 zY):=by walk_at "s"
theorem U9 (z:Nb2 mg) (j:Cal P w K mg base 1 "_law_ride" ["_law_scene_here","_law_lane","_law_year_here"] spRide)
  (F:Fun K "_law_marks" "_law_marks" zY f fd):FnOk P w K mg base CX0 2 f fd ["_law_scene_here","_law_lane","_law_year_here"] spMarks:=by
 refine F.ok uF (λG H Q E h=>?_) (λM A outer s H G Q E v h=>?_)
 ·obtain ⟨u,c,g,l,y,t,J,e,rfl,_⟩:=h
  rfl
 ·obtain ⟨u,c,g,l,y,t,J,e,rfl,S,r,k⟩:=h
  have L:=r.g30
  refine ⟨_,(j5 (xa (i:=3) uF.nd rfl (df rfl) (je j (v.mono ⋯) rfl (j0 (pv 0) (j0 (pv 1) ↥52))))
   (j9 (jj (jG (osc:=(j7 zY)) (ON:=["_law_scene_here","_law_lane","_law_year_here","_law_ride_here"]) (N:=["_law_place","_law_ride_here"]) (own:=1) (caps:=[3]) ⟨rfl,∅,∅,∅,rfl,∅⟩ rfl rfl rfl (jU rfl z.b_range (j0 (jb (jg K) rfl z.b_len aR (j0 (jm (jd K) (jy (jM v) (pv 0) jr (λ_ _=>rfl)) (pv 1) (λ_ _=>rfl)) j2)) j2)) (λ_ _ _ _ _=>(jc (i:=0) (show aS (["_law_place","_law_ride_here"]:List Str) by decide +kernel) rfl (aP rfl))) ↥14 (λ_ _ _ _ _=>(jh jN (pv 1) (pv 0))))))),?_⟩
  left
  simp only [vO,aJ]
  refine kW S r λH1 b=>?_
  have m:=S.frM b
  obtain ⟨I,D,B⟩:=m.gnd r
  left
  refine ⟨u,.ref c.gl,rfl,by rw [<- qI c.p c.q c.sg c.gl c.ll];exact qM.k (k:=.inr "grounds") m.sd,?_⟩
  left
  refine ⟨_,_,_,_,rfl,rfl,SqL.of m.gl,D,?_⟩
  left
  refine ⟨I,_,rfl,.inl (SqL.of B),?_⟩
  rw [ag]
  left
  refine ⟨(),(),λacc a=>?_⟩
  refine qr (lo:=0) (n:=(((ja c.rs t).length:Nat):Int).toNat) (acc:=acc) (λi σ H2=>∃x:Option V,σ=[x,some (.int (y+js e y))]/\H2 acc=some (.lst ((xJ (y+js e y) i).map V.int))/\Ext acc H1 H2) ?_ ?_ ?_
  ·exact ⟨none,rfl,j6,Ext.put⟩
  ·rintro i σ H2 hi ⟨x,rfl,h2,d⟩
   left
   refine ⟨_,h2,by rw [ag,zI];exact jf (),_,rfl,?_,d.trans Ext.put⟩
   unfold xJ
   rw [j6,bZ,aq,aq,cS]
   rfl
  ·rintro σ H2 ⟨x,rfl,h2,d⟩
   rw [b7] at h2
   left
   exact k acc H2 (b.no a) h2 (b.trans (FrM.of_same λc o C=>d c o C (j1 C a)))
noncomputable def kvD:Int->List Int->List (Int×Int)
 | _,[]=>[]
 | R,x::d=>(R,x)::kvD (R-1) d
theorem ku:∀(R:Int) (d:List Int),(kvD R d).length=d.length
 | _,[]=>rfl
 | R,x::d=>congrArg Nat.succ (ku (R-1) d)
theorem Qd:∀(R:Int) (d:List Int) (p:Nat),(kvD R d)[p]? = d[p]?.map λx=>(R-(p:Int),x)
 | _,[],p=>rfl
 | R,x::d,0=>by
  show some (R,x)=some (R-((0:Nat):Int),x)
  rw [show R-((0:Nat):Int)=R by right]
 | R,x::d,p+1=>by
  show (kvD (R-1) d)[p]? = d[p]?.map _
  rw [Qd (R-1) d p,show R-1-(p:Int)=R-((p+1:Nat):Int) by right]
theorem QA:∀(R:Int) (d:List Int) (k:Int),jR (kvD R d) k=if k<=R then d.getD (R-k).toNat 0 else 0
 | R,[],k=>by
  show (0:Int)=_
  split <;> rfl
 | R,x::d,k=>by
  have a:=QA (R-1) d k
  show (if R=k then x else jR (kvD (R-1) d) k)=_
  by_cases e:R=k
  ·rw [if_pos e,if_pos (),show (R-k).toNat=0 by right]
   rfl
  ·rw [if_neg e,a]
   by_cases z:k<=R
   ·rw [if_pos z,if_pos (),show (R-k).toNat=(R-1-k).toNat+1 by right]
    rfl
   ·rw [if_neg z,if_neg ()]
theorem Xf:∀(R B:Int) (d:List Int),((kvD R d).filter λq=>decide (q.1<=B)).map (·.2)=d.drop (R-B).toNat
 | R,B,[]=>by rw [md];rfl
 | R,B,x::d=>by
  have a:=Xf (R-1) B d
  show (((R,x)::kvD (R-1) d).filter _).map _=_
  by_cases z:R<=B
  ·rw [bY (by rw [decide_eq_true (show (R,x).1<=B from z)]),aU,a,show (R-B).toNat=0 by right,show (R-1-B).toNat=0 by right]
   rfl
  ·rw [cc (by rw [decide_eq_false (show ¬(R,x).1<=B from z)];exact ar),a,show (R-B).toNat=(R-1-B).toNat+1 by right]
   rfl
theorem Z8:∀{R:Int}{d:List Int}{q:Int×Int},q∈kvD R d->q.1<=R/\q.2∈d
 | _,[],_,h=>by cases h
 | R,x::d,q,h=>by
  rcases List.mem_cons.mp (show q∈(R,x)::kvD (R-1) d from h) with rfl | h
  ·exact ⟨dm _,aE ..⟩
  ·have:=Z8 h
   exact ⟨(),aC _ this.2⟩
theorem QW:∀(R:Int) (d:List Int) (x:Int),kvD R (d++[x])=kvD R d++[(R- ↥87,x)]
 | R,[],x=>by
  show [(R,x)]=[(R-((0:Nat):Int),x)]
  rw [show R-((0:Nat):Int)=R by right]
 | R,y::d,x=>by
  show (R,y)::kvD (R-1) (d++[x])=(R,y)::(kvD (R-1) d++_)
  rw [QW (R-1) d x,show R-1- ↥87=R-((y::d).length:Int) by rw [b9];right]
theorem ZL {R k:Int}:∀{d:List Int},k∈(kvD R d).map (·.1)->R- ↥87<k/\k<=R:=λ{d} h=>by
 obtain ⟨q,f,rfl⟩:=List.mem_map.mp h
 obtain ⟨p,c,e⟩:=List.mem_iff_getElem.mp f
 have a:=Qd R d p
 rw [aa c,e] at a
 have b:p<d.length:=by rw [<- ku R d];exact c
 rw [aa b] at a
 have:=aI a
 rw [this]
 show R- ↥87<R-(p:Int)/\R-(p:Int)<=R
 right
theorem kK:∀{ns:List (Int×Int)}{k:Int},¬k∈ns.map (·.1)->qG (ns.map kvI) (.inl k)=none
 | [],k,_=>rfl
 | q::r,k,h=>by
  rw [aU,show qG (kvI q::r.map kvI) (.inl k)=qG (r.map kvI) (.inl k) from jz λw=>h (by rw [aU,fD w];exact aE ..)]
  exact kK λz=>h (by rw [aU];exact aC _ z)
noncomputable def gp (z:List (Int×Int)) (gd:List Int) (wr:List (Int×T3)) (ts:List T3) (i:Nat) (ps:List (Int×Int)):Prop :=
 (i=0/\ps=[])\/∃j:Nat,i=j+1/\ps=kvD ((j:Int)+js z (j:Int)) (qL z gd wr ts 0 i)
theorem gp.len {ts:List T3}{i:Nat}(h:gp z gd wr ts i ps):ps.length<=gd.length:=by
 rcases h with ⟨_,rfl⟩ | ⟨j,_,rfl⟩
 ·exact aN _
 ·rw [ku,qf]
  exact au _
theorem gp.mem {ts:List T3}{i:Nat}(h:gp G gd wr ts i ps) {q:Int×Int}(z:q∈ps):q.2∈qL G gd wr ts 0 i:=by
 rcases h with ⟨_,rfl⟩ | ⟨j,_,rfl⟩
 ·cases z
 ·exact (Z8 z).2
theorem gp.nodup {ts:List T3}{i:Nat}(h:gp G gd wr ts i ps):(ps.map (·.1)).Nodup:=by
 have go:∀(d:List Int) (R:Int),((kvD R d).map (·.1)).Nodup:=λd=>by
  induction d with
  | nil=>exact λ_=>.nil
  | cons x d a =>
   intro R
   show (R::(kvD (R-1) d).map (·.1)).Nodup
   exact List.nodup_cons.mpr ⟨λz=>by have:=ZL z;right,a _⟩
 rcases h with ⟨_,rfl⟩ | ⟨j,_,rfl⟩
 ·exact .nil
 ·exact go _ _
theorem Ze {s:Nat}{d:List Int}(j:∀x∈d,x=0) (p:Nat):(jx s d).getD p 0=0:=by
 rw [ak]
 cases e:(jx s d)[p]? with
 | none=>rfl
 | some x =>
  rcases zJ (aA e) with z | z
  ·exact z
  ·exact j x z
theorem Jq (j:List (Int×Int)) (gd:List Int) (wr:List (Int×T3)) (ts:List T3):∀x∈qL j gd wr ts 0 0,x=0:=λx a=>(List.mem_replicate.mp a).2
theorem gp.high {G:List (Int×Int)}{ts:List T3}(U:(G.map (·.1)).Nodup) (Y:∀y,0<=jR G y) {i:Nat}(h:gp G gd wr ts i ps) {p:Nat}(hp:p<gd.length) :
  jR ps ((i:Int)+js G (i:Int)-(p:Int))=(jx (jB G gd.length (0+(i:Int))) (qL G gd wr ts 0 i)).getD p 0:=by
 rcases h with ⟨rfl,rfl⟩ | ⟨j,rfl,rfl⟩
 ·rw [Ze (Jq G gd wr ts)]
  rfl
 ·have st:=zT U (j:Int)
  rw [show (j:Int)+1=↥37 by right] at st
  have a:=Y ↥37
  have b:=qf G gd wr ts 0 (j+1)
  have c:jB G gd.length (0+ ↥37)=(min (1+jR G ↥37) ↥58).toNat:=by unfold jB;rw [cS]
  rw [QA]
  generalize qL G gd wr ts 0 (j+1)=d at *
  generalize jB G gd.length (0+ ↥37)=s at *
  unfold jx
  by_cases z:p<s
  ·rw [if_neg (),ak,cJ (by rw [bc];exact z),eE,if_pos z]
   rfl
  ·rw [if_pos (),ak,ak,cE (by rw [bc];right),bc,i7,if_pos (),show ((j:Int)+js G (j:Int)-(↥37+js G ↥37-(p:Int))).toNat=p-s by right]
theorem gp.gone {z:List (Int×Int)}{gd:List Int}{wr:List (Int×T3)}{ts:List T3}(G:(z.map (·.1)).Nodup) (U:∀y,0<=jR z y) {i:Nat}(h:gp z gd wr ts i ps) :
  ((ps.filter λq=>decide (¬q.1∈xJ ((i:Int)+js z (i:Int)) gd.length)).map (·.2)).sum=((qL z gd wr ts 0 i).drop ((qL z gd wr ts 0 i).length-jB z gd.length (0+(i:Int)))).sum:=by
 rcases h with ⟨rfl,rfl⟩ | ⟨j,rfl,rfl⟩
 ·show (0:Int)=_
  have:∀{l:List Int},(∀x∈l,x=0)->l.sum=0:=λ{l} a=>by
   induction l with
   | nil=>rfl
   | cons x r b=>rw [ee,a x (aE ..),b λy c=>a y (aC _ c)];rfl
  exact (this λx f=>Jq z gd wr ts x (dU f)).symm
 ·have st:=zT G (j:Int)
  rw [show (j:Int)+1=↥37 by right] at st
  have k:=U ↥37
  have m:=qf z gd wr ts 0 (j+1)
  have n:jB z gd.length (0+ ↥37)=(min (1+jR z ↥37) ↥58).toNat:=by unfold jB;rw [cS]
  generalize qL z gd wr ts 0 (j+1)=d at *
  generalize jB z gd.length (0+ ↥37)=s at *
  have e:(kvD ((j:Int)+js z (j:Int)) d).filter (λq=>decide (¬q.1∈xJ (↥37+js z ↥37) gd.length))=(kvD ((j:Int)+js z (j:Int)) d).filter λq=>decide (q.1<=↥37+js z ↥37- ↥58):=by
   refine rg λq g=>?_
   have h1:=(Z8 g).1
   rw [decide_eq_decide,Yr]
   right
  rw [e,Xf,show ((j:Int)+js z (j:Int)-(↥37+js z ↥37- ↥58)).toNat=d.length-s by right]
noncomputable def gU (H:Hp) (j:List V) (qs:List QC):Prop:=cz (λv (q:QC)=>∃b dl,v=V.ref b/\H b=some ↥32/\H dl=some ↥60) j qs
theorem FrM.two {H2:Hp}(f:FrM M H H1) (z:H la=none) (j:H mv=none) (e:∀a o,H1 a=some o->a≠la->a≠mv->H2 a=some o):FrM M H H2:=λa o b=>by
 have d:a≠la:=j1 b z
 have c:a≠mv:=j1 b j
 rcases f a o b with h | ⟨m,g,kvs,i,h⟩
 ·exact .inl (e a o h d c)
 ·exact .inr ⟨m,g,kvs,i,e a _ h d c⟩
theorem Jo {m:List Int}{p:Nat}{x:Int}(h:m[p]? = some x):((m.take (p+1)).filter λx=>decide (0<x)).sum=(↥57).sum+(if 0<x then x else 0):=by
 rw [aQ,h,bu,ni]
 show _+(d9 _ [x]).sum=_
 by_cases z:0<x
 ·rw [bY (by rw [decide_eq_true z]),if_pos z]
  show _+(x+0)=_
  right
 ·rw [cc (by rw [decide_eq_false z];exact ar),if_neg z]
  rfl
theorem J5 {m:List Int}{p:Nat}{x:Int}(h:m[p]? = some x):(m.take (p+1)).sum=(m.take p).sum+x:=by
 rw [aQ,h,ni]
 show _+(x+0)=_
 right
theorem V0 {A S G j:Int}(Y:0<=G) (U:j<0):A+(if 0<(if j > -G then j else -G) then (if j > -G then j else -G) else 0)=A/\A-(S+(if j > -G then j else -G))=A-S+(if (if G+j > 0 then G+j else 0)-G<0 then -((if G+j > 0 then G+j else 0)-G) else (if G+j > 0 then G+j else 0)-G):=by
 by_cases z:j > -G
 ·rw [if_pos z,if_pos (show G+j > 0 by right),if_neg (show ¬0<j by right),if_pos (show G+j-G<0 by right)]
  right
 ·rw [if_neg z,if_neg (show ¬G+j > 0 by right),if_neg (show ¬0 < -G by right)]
  refine ⟨(),?_⟩
  split <;> right
theorem Yd {A S j wsh:Int}(G:0<=j) (z:¬wsh<0):A+(if 0< ↥98 then ↥98 else 0)=A+(if (if j+wsh > 0 then j+wsh else 0)-j<0 then -((if j+wsh > 0 then j+wsh else 0)-j) else (if j+wsh > 0 then j+wsh else 0)-j)/\A+(if 0< ↥98 then ↥98 else 0)-(S+ ↥98)=A-S:=by
 have c: ↥98=wsh:=by split <;> right
 have b:(if j+wsh > 0 then j+wsh else 0)=j+wsh:=by split <;> right
 have a:(if 0<wsh then wsh else 0)=wsh:=by split <;> right
 rw [c,b,a,if_neg (show ¬j+wsh-j<0 by right)]
 right
inductive spDepths  (vs:List V) (H:Hp) (Q:VK) (z_3:XK):Prop
 | mk (sd:Addr) (c:ScN) (g:IceG) (l last:Int) (wy:List Int) (da:Addr) (dn ms:List (Int×Int)) (wr:List (Int×T3)) (_:vs=[.ref sd,.int l,.int last]) (_:ScAt H sd c) (_:LaneF c g l wy da dn) (_:ms.Perm dn) (_:xY H c.sk wr) (_:1<=c.ts.length) (_:c.ts.length<=1000) (_:(∀z,good (qV wr c.ts z)=true)) (zz9 : -1<=last) (_:last<900) (_:∀o out H',H o=none->H' o=some (.lst out)->gU H' out (xc ms (ja c.rs wy) wr c.ts 0 (last+1).toNat)->FrM c.D H H'->Q (.ref o) H')
theorem jL:FnScope ["_law_scene_here","_law_lane","_law_last","_law_piles","_law_found","_law_year_here","_law_marks_here","_law_gone","_law_later","_law_moves","_law_place","_law_one","_law_high","_law_wish_here"] ["_law_scene_here","_law_lane","_law_last"] (j7 xS):=by walk_at "s"
theorem YL (nb:Nb2 mg) (dF:mg "abs" = none) (a5:Cal P w K mg base 2 "_law_marks" ["_law_scene_here","_law_lane","_law_year_here"] spMarks) (br:Cal P w K mg base 1 "_law_wish" ["_law_row_here","_law_height"] spWish) (b0:Cal P w K mg base 1 "_law_row" ["_law_scene_here","_law_year_here"] spRowL)
  (F:Fun K "_law_depths" "_law_depths" xS f fd):FnOk P w K mg base CX0 3 f fd ["_law_scene_here","_law_lane","_law_last"] spDepths:=by
 refine F.ok jL ↥29 (λf8 A outer s H vs Q E hr h=>?_)
 ·obtain ⟨sd,c,g,l,b3,wy,da,dn,d,wr,rfl,_⟩:=h
  rfl
 ·obtain ⟨sd,c,g,l,b3,wy,da,dn,d,wr,rfl,S,LF,hp,hw,t1,t2,sg,fs,fr,k⟩:=h
  have f5:=LF.g30
  have g1:=LF.g1
  have d1:(d.map (·.1)).Nodup:=(hp.map (·.1)).nodup_iff.mpr LF.nd
  have hv:∀z,0<=jR d z:=λz=>(wg (λq hq=>by have:=LF.b q (hp.mem_iff.mp hq);right) z).1
  have er:=λy=>xI hp y
  have fb:=λ{H':Hp} (S':ScAt H' sd c)=>S'.gnd LF
  generalize e4:ja c.rs wy=gd at *
  refine ⟨_,(j5 (xa (i:=3) jL.nd rfl (df rfl) yu)
   (j5 (jo 4 jL.nd (jD j2))
   (j5 (xf bp rfl (jU rfl nb.b_range (j0 (jh jE (pv 2) j4) j2)) (jc (i:=5) jL.nd rfl (aP rfl)) (j5 (xa (i:=6) jL.nd rfl (df rfl) (je a5 (hr.mono ⋯) rfl (j0 (pv 0) (j0 (pv 1) (j0 (pv 5) j2)))))
   (j5 (jo 7 jL.nd (jb (xN K rfl) rfl nb.b_sum fX (j0 (jG (osc:=(j7 xS)) (ON:=["_law_scene_here","_law_lane","_law_last","_law_piles","_law_found","_law_year_here","_law_marks_here","_law_gone","_law_later","_law_moves","_law_place","_law_one","_law_high","_law_wish_here"]) (N:=["_law_one","_law_piles","_law_marks_here"]) (own:=1) (caps:=[3,6]) ⟨rfl,∅,∅,∅,rfl,∅⟩ rfl rfl rfl (uO (pv 3)) (λ_ _ _ _ _=>(jc (i:=0) (show aS (["_law_one","_law_piles","_law_marks_here"]:List Str) by decide +kernel) rfl (aP rfl))) (λ_ _ _ _ _=>(zw (jA (zq K) (pv 0) (pv 2) ↥63))) (λ_ _ _ _ _=>(jy (jM hr) (pv 1) (pv 0) (λ_ _=>rfl)))) j2)))
   (j5 (jo 8 jL.nd yu)
   (j5 (jo 9 jL.nd (jD (j0 j4 (j0 j4 j2))))
   (j5 (xf bp rfl (Qg K rfl nb.b_enumerate (j0 (pv 6) j2)) (qS (n:=2) K rfl (jn (jc (i:=10) jL.nd rfl (aP rfl)) (jn (jc (i:=11) jL.nd rfl (aP rfl)) qz))) (j5 (jo 12 jL.nd (gf (jM hr) (pv 3) (pv 11) j4 ⟨rfl,rfl,rfl,rfl⟩))
   (j5 (jo 13 jL.nd (je br (hr.mono ⋯) rfl (j0 (je b0 (hr.mono ⋯) rfl (j0 (pv 0) (j0 (pv 5) j2))) (j0 (jm (jd K) ↥99 (pv 10) (λ_ _=>rfl)) j2))))
   (j5 (yJ (jM hr) (pv 8) (pv 11) (jb (qO rfl) rfl nb.b_max fg (j0 j4 (j0 (jh jE (pv 12) (pv 13)) j2))) rfl)
   (j9 (Wu (pv 9) (qC Ym rfl nb.b_int iL (j0 (xX vg (pv 13) j4 (jF _)) j2)) (Vk K) (jb U6 rfl dF boot_abs (j0 (jh jN (jy (jM hr) (pv 8) (pv 11) (λ_ _=>rfl)) (pv 12)) j2)) WG yB))))))
   (j5 (xa (i:=3) jL.nd rfl (df rfl) (pv 8))
   (j9 (jX (zS K bK bI bJ qq (pv 4) (j0 (qa (j0 (jG (osc:=(j7 xS)) (ON:=["_law_scene_here","_law_lane","_law_last","_law_piles","_law_found","_law_year_here","_law_marks_here","_law_gone","_law_later","_law_moves","_law_place","_law_one","_law_high","_law_wish_here"]) (N:=["_law_one","_law_piles"]) (own:=1) (caps:=[3]) ⟨rfl,∅,∅,∅,rfl,∅⟩ rfl rfl rfl (jT K (pv 6)) (λ_ _ _ _ _=>(jc (i:=0) (show aS (["_law_one","_law_piles"]:List Str) by decide +kernel) rfl (aP rfl))) ↥14 (λ_ _ _ _ _=>(jy (jM hr) (pv 1) (pv 0) (λ_ _=>rfl)))) (j0 (jm (jd K) (pv 9) j4 (λ_ _=>rfl)) (j0 (jm (jd K) (pv 9) j4 (λ_ _=>rfl)) (j0 (pv 7) j2))))) j2)))))))))))
   (j9 (jj (pv 4)))))),?_⟩
  left
  intro d0 c9
  left
  refine ⟨aN _,λfo H2 ei dt s2=>?_⟩
  have f1:FrM c.D H (upd H d0 (.dK [])):=(FrM.of_same (jk.refl H)).put c9
  have dp:H fo=none:=f1.no ei
  left
  refine ⟨(),(),?_⟩
  refine qY (λi σ H6=>∃(x5 x6 x7 x8 x9 an am al ae:Option V) (O:Addr) (ps:List (Int×Int)) (Y:List V),σ=[some (.ref sd),some (.int l),some (.int b3),some (.ref O),some (.ref fo),x5,x6,x7,x8,x9,an,am,al,ae]/\H O=none/\H6 O=some (.dK (ps.map kvI))/\gp d gd wr c.ts i ps/\H6 fo=some (.lst Y)/\Y.length=i/\cz (λv (q:QC)=>∃b dl,v=V.ref b/\H6 b=some ↥32/\H6 dl=some ↥60/\dl≠fo) Y (xc d gd wr c.ts 0 i)/\FrM c.D H H6) ?_ ?_ ?_
  ·exact ⟨_,_,_,_,_,_,_,_,_,d0,[],[],rfl,c9,s2 _ _ j6,.inl ⟨rfl,rfl⟩,dt,rfl,.nil,f1.trans (FrM.of_same s2)⟩
  ·clear f1 ei dt s2
   rintro i σ H6 hi ⟨x5,x6,x7,x8,x9,an,am,al,ae,O,ps,Y,rfl,b5,cb,a2,bm,eg,r6,f6⟩
   have f3:i<900:=()
   have S6:=S.frM f6
   left
   refine ⟨sd,c,g,l,_,wy,da,dn,rfl,S6,LF,λmk H7 e2 cd f7=>?_⟩
   rw [e4,<- er,cS] at cd
   have b6:=f7.dk cb (S.D_none b5)
   have ds:=f7.at bm ↥1
   have r7:cz (λv (q:QC)=>∃b dl,v=V.ref b/\H7 b=some ↥32/\H7 dl=some ↥60/\dl≠fo) Y (xc d gd wr c.ts 0 i):=Paired.mapP r6 λv q ⟨b,dl,e,J,M,q3⟩=>⟨b,dl,e,f7.at J ↥1,f7.at M ↥1,q3⟩
   have en:=f6.trans f7
   clear cb bm r6 S6
   have hR:(i:Int)+js d (i:Int)=(i:Int)+js d (i:Int):=rfl
   have dD:=a2.gone d1 hv
   have dy:=λ{p:Nat} (h:p<gd.length)=>a2.high d1 hv h
   have fy:=a2.len
   have ea:=λ{q:Int×Int} (h:q∈ps)=>vz (ns:=d) (gd:=gd) (fst:=0) sg i _ (a2.mem h)
   have e0:=a2.nodup
   clear a2
   have e6:=qf d gd wr c.ts 0 i
   have fx:=yI d gd.length (0+(i:Int))
   have el:ql d gd wr c.ts 0 i=yg gd ↥91 (jB d gd.length (0+(i:Int))) (qL d gd wr c.ts 0 i):=rfl
   have ek:qL d gd wr c.ts 0 (i+1)=(yg gd ↥91 (jB d gd.length (0+(i:Int))) (qL d gd wr c.ts 0 i)).2.2.2:=rfl
   have ew: (↥50).length=gd.length:=by rw [xH (),e6]
   have ex:∀x∈jx (jB d gd.length (0+(i:Int))) (qL d gd wr c.ts 0 i),0<=x:=λx hx=>by
    rcases zJ hx with e | e
    ·right
    ·exact (vz (ns:=d) (gd:=gd) (fst:=0) sg i x e).1
   have f2:=vQ (t:=qV wr c.ts (0+(i:Int))) ew
   generalize e8:(i:Int)+js d (i:Int)=R at *
   clear hR
   unfold yg at el ek
   generalize ec:ze ↥91 ↥50 gd=m at *
   have dd:∀{p:Nat},p<gd.length->m[p]? = some (if chg ↥91 (gd.getD p 0) > - (↥50).getD p 0 then chg ↥91 (gd.getD p 0) else- (↥50).getD p 0):=λ{p} h=>by
    rw [<- ec]
    unfold ze
    rw [bX,aa (),aa h,ak,ak,aa h,aa (show p< (↥50).length by right)]
    rfl
   clear ec
   generalize f4:((qL d gd wr c.ts 0 i).drop ((qL d gd wr c.ts 0 i).length-jB d gd.length (0+(i:Int)))).sum=fa at *
   generalize jx (jB d gd.length (0+(i:Int))) (qL d gd wr c.ts 0 i)=sh at *
   generalize db:cI (· + ·) sh m=I at *
   have f0:I.length=gd.length:=by rw [<- db,eB];right
   have ey:∀{p:Nat},p<gd.length->I[p]? = some (if sh.getD p 0+chg ↥91 (gd.getD p 0) > 0 then sh.getD p 0+chg ↥91 (gd.getD p 0) else 0):=λ{p} h=>by
    rw [<- db,bX,dd h,aa (show p<sh.length by right)]
    show some (sh[p]+_)=_
    have e:sh.getD p 0=sh[p]:=by rw [ak,aa (show p<sh.length by right)];rfl
    rw [e]
    congr 1
    split <;> split <;> right
   clear db
   have e7:∀q∈ps,-(2 ^ 20)<=q.2/\q.2<=2 ^ 20:=λq hq=>by have:=ea hq;right
   clear ea
   left
   refine ⟨O,_,rfl,.inl ⟨b6,λob acc a4=>?_⟩⟩
   have n8:∀{a:Addr} {o:HO},H7 a=some o->(∀kvs,o≠.dK kvs)->(upd H7 O ↥84) a=some o:=λh n=>by rw [j8 (jp h b6 (n _))];exact h
   have ac:(upd H7 O ↥84) O=some ↥84:=j6
   have a9:=n8 cd ↥1
   have dr:=n8 ds ↥1
   have r8:cz (λv (q:QC)=>∃b dl,v=V.ref b/\(upd H7 O ↥84) b=some ↥32/\(upd H7 O ↥84) dl=some ↥60/\dl≠fo) Y (xc d gd wr c.ts 0 i):=Paired.mapP r7 λv q ⟨b,dl,e,J,M,q3⟩=>⟨b,dl,e,n8 J ↥1,n8 M ↥1,q3⟩
   have em:FrM c.D H (upd H7 O ↥84):=en.put b5
   clear n8 b6 cd ds r7 en f7 e2
   generalize upd H7 O ↥84=H8 at *
   refine wD (a:=O) (acc:=acc) (o:=ob) (kvs:=ps.map kvI) (λj σ H9=>∃x:Option V,σ=[x,some (.ref O),some (.ref mk)]/\H9 acc=some (.lst ((((ps.take j).filter λq=>decide (¬q.1∈xJ R gd.length)).map (·.2)).map V.int))/\Ext acc H8 H9) ⟨none,rfl,j6,Ext.put⟩ ?_ ?_ ?_
   ·rintro j σ H9 hj ⟨x,rfl,h9,e9⟩
    exact e9 _ _ ac (j1 ac a4)
   ·rintro j q σ H9 hq ⟨x,rfl,h9,e9⟩
    obtain ⟨z,hz,rfl⟩:=Q8 hq
    have d2:=aA hz
    have hj:j<ps.length:=(List.getElem?_eq_some_iff.mp hz).1
    have ab:=e9 _ _ ac (j1 ac a4)
    have e3:((((ps.take j).filter λq=>decide (¬q.1∈xJ R gd.length)).map (·.2)).map V.int).length<=100:=by
     rw [ag,ag]
     exact aK (bz _ _) (by rw [aG];right)
    show vJ 0 (V.int z.1) _ _ _
    left
    refine ⟨mk,_,rfl,.inl (SqL.of (e9 _ _ a9 (j1 a9 a4))),rfl,yG _,?_⟩
    left
    rw [vM]
    refine zF (λbs=>?_) (λbs=>?_)
    ·left
     refine ⟨O,V.int z.2,rfl,?_,_,h9,bM e3 ⋯,_,rfl,?_,e9.trans Ext.put⟩
     ·have:=zg ps z.1 (bg d2)
      rw [yH e0 d2] at this
      rw [<- this]
      exact .inl ⟨_,.inl z.1,.inr ⟨ob,ab⟩,rfl,rfl⟩
     ·rw [j6,aQ,hz,c6,bu,bY (by rw [decide_eq_true bs]),aq,aq]
      rfl
    ·refine ⟨_,rfl,?_,e9⟩
     rw [aQ,hz,c6,bu,cc (by rw [decide_eq_false (λw=>w bs)];exact ar),i0,aJ]
     exact h9
   rintro σ H9 ⟨x,rfl,h9,e9⟩
   have s9:jk H8 H9:=λc o hc=>e9 c o hc (j1 hc a4)
   rw [ag,aX] at h9
   left
   refine ⟨acc,_,rfl,SqL.of h9,by rw [ag];exact aK (bz _ _) (),λn hn=>?_,?_⟩
   ·obtain ⟨q,hq,rfl⟩:=List.mem_map.mp hn
    exact e7 q (List.mem_filter.mp hq).1
   rw [dD]
   have dv:=em.trans (FrM.of_same s9)
   have ab:=s9 _ _ ac
   have a8:=s9 _ _ a9
   have bl:=s9 _ _ dr
   have r9:=Paired.mapP r8 (G:=λv (q:QC)=>∃b dl,v=V.ref b/\H9 b=some ↥32/\H9 dl=some ↥60/\dl≠fo) λv q ⟨b,dl,e,J,M,q3⟩=>⟨b,dl,e,s9 _ _ J,s9 _ _ M,q3⟩
   clear em ac a9 dr r8 h9 e9 s9 a4
   left
   intro la a6
   have bi:=dv.no a6
   have a1:jk H9 (upd H9 la (.dK [])):=jk.new a6
   left
   refine ⟨by show 2<=sizeLine;decide,λmv b1 ap ct cl=>?_⟩
   have ch:FrM c.D H (upd H9 la (.dK [])):=dv.put bi
   have dc:=ch.no ap
   have aL:=cl _ _ (j6 (H:=H9) (a:=la) (o:=.dK []))
   have Z:=a1.trans cl
   have ce:=ch.trans (FrM.of_same cl)
   have cr:=Z _ _ ab
   have as:=Z _ _ a8
   have cy:=Z _ _ bl
   have dV:=Paired.mapP r9 (G:=λv (q:QC)=>∃b dl,v=V.ref b/\b1 b=some ↥32/\b1 dl=some ↥60/\dl≠fo/\dl≠mv/\b≠mv) λv q ⟨b,dl,e,J,M,q3⟩=>⟨b,dl,e,Z _ _ J,Z _ _ M,q3,j1 (a1 _ _ M) ap,j1 (a1 _ _ J) ap⟩
   have b2:mv≠la:=(j1 j6 ap).symm
   have c2:mk≠la:=j1 a8 a6
   have c1:mk≠mv:=j1 (a1 _ _ a8) ap
   have et:O≠la:=j1 ab a6
   have es:O≠mv:=j1 (a1 _ _ ab) ap
   have eF:fo≠la:=j1 bl a6
   have eD:fo≠mv:=j1 (a1 _ _ bl) ap
   clear dv ab a8 bl r9 a1 ch Z cl a6 ap
   left
   refine ⟨⟨_,SqL.of as⟩,?_⟩
   refine XC (K:=K) (a:=mk) (xs:=(xJ R gd.length).map V.int) (λp σ C=>∃an am al ae:Option V,σ=[some (.ref sd),some (.int l),some (.int b3),some (.ref O),some (.ref fo),some (.int (0+(i:Int))),some (.ref mk),some (.int fa),some (.ref la),some (.ref mv),an,am,al,ae]/\C la=some (.dK ((kvD R (I.take p)).map kvI))/\C mv=some (.lst [.int (↥57).sum,.int ((↥57).sum-(m.take p).sum)])/\∀a o,b1 a=some o->a≠la->a≠mv->C a=some o) ?_ ?_ ?_ ?_
   ·exact ⟨_,_,_,_,rfl,aL,ct,λa o h _ _=>h⟩
   ·rintro p σ C fz ⟨an,am,al,ae,rfl,r,B,U⟩
    exact SqL.of (U _ _ as c2 c1)
   ·rintro p v σ C t c4 ⟨an,am,al,ae,rfl,r,B,U⟩ ht
    obtain ⟨one,rfl,u⟩:=xG c4
    have a3:p<gd.length:=by have:=(List.getElem?_eq_some_iff.mp u).1;rw [zI] at this;exact this
    rw [QQ a3] at u
    have u:=aI u
    subst u
    have fw:t≠la:=(j1 r ht).symm
    have fv:t≠mv:=(j1 B ht).symm
    have sT:jk C (upd C t (.tup [.int (p:Int),.int (R-(p:Int))])):=jk.new ht
    have cv:=sT _ _ r
    have cs:=sT _ _ B
    have T:∀a o,b1 a=some o->a≠la->a≠mv->(upd C t (.tup [.int (p:Int),.int (R-(p:Int))])) a=some o:=λa o h n1 n2=>sT _ _ (U a o h n1 n2)
    left
    refine ⟨t,_,rfl,SqT.of j6,rfl,?_⟩
    refine ⟨_,_,rfl,_,_,rfl,rfl,?_⟩
    left
    clear r B U ht
    generalize upd C t (.tup [.int (p:Int),.int (R-(p:Int))])=H13 at *
    have cm:=T _ _ cr et es
    have dx:=ce.two bi dc T
    have cL:=S.frM dx
    have eu:=hw.keep (FrM.keepT dx)
    obtain ⟨ga,fl,e5⟩:=fb cL
    refine ⟨.inl ⟨_,.inr ⟨ob,cm⟩⟩,?_⟩
    left
    refine ⟨_,.inl ⟨_,.inl (R-(p:Int)),.inr ⟨ob,cm⟩,rfl,rfl⟩,?_⟩
    rw [wu,dy a3]
    left
    refine ⟨sd,c,0+(i:Int),wr,rfl,cL,eu,t1,t2,λtr eT=>?_⟩
    left
    refine ⟨sd,.ref c.gl,rfl,by rw [<- qI c.p c.q c.sg c.gl c.ll];exact qM.k (k:=.inr "grounds") cL.sd,?_⟩
    left
    refine ⟨_,_,_,_,rfl,rfl,SqL.of cL.gl,fl,?_⟩
    left
    refine ⟨_,_,_,_,rfl,rfl,SqL.of e5,qo (v:=V.int (gd.getD p 0)) () (by rw [b7,ax,ak,aa a3];rfl),?_⟩
    left
    refine ⟨tr,_,_,rfl,eT,?_⟩
    left
    have ed:=dd a3
    have e1:=ey a3
    have eh:0<=sh.getD p 0:=by
     rw [ak,aa (show p<sh.length by right)]
     exact ex _ (bQ _)
    generalize chg ↥91 (gd.getD p 0)=X at *
    generalize sh.getD p 0=hg at *
    refine ⟨_,_,rfl,?_⟩
    left
    refine ⟨la,_,rfl,kE.k (k:=.inl (R-(p:Int))) cv (by rw [ag,ku,aG];exact jf ()),?_⟩
    rw [yE _ (kK λz=>by have:=ZL z;rw [aG] at this;right)]
    have bv:(kvD R (I.take p)).map kvI++[((.inl (R-(p:Int)):Key),V.int (if hg+X > 0 then hg+X else 0))]=(kvD R (I.take (p+1))).map kvI:=by
     rw [aQ,e1,c6,QW,aq,aG,lj ()]
     rfl
    have bv:(kvD R (I.take p)).map kvI++[((.inl (R-(p:Int)):Key),V.int (if hg+X > 0 then hg+X else 0))]=(kvD R (I.take (p+1))).map kvI:=bv
    rw [bv]
    have ej:=Jo ed
    have d3:=J5 ed
    have b4:qG ↥89 (.inl (R-(p:Int)))=some (.int (if hg+X > 0 then hg+X else 0)):=by
     rw [<- bv]
     exact (JO _ _ _ _ (kK λz=>by have:=ZL z;rw [aG] at this;right)).trans (if_pos rfl)
    have fu:(upd H13 la (.dK ↥89)) mv=some (.lst [.int (↥57).sum,.int ((↥57).sum-(m.take p).sum)]):=by rw [j8 b2];exact cs
    have eo:∀a o,b1 a=some o->a≠la->a≠mv->(upd H13 la (.dK ↥89)) a=some o:=λa o h n1 n2=>by rw [j8 n1];exact T a o h n1 n2
    have bk:(upd H13 la (.dK ↥89)) la=some (.dK ↥89):=j6
    clear cv cs T bv
    generalize upd H13 la (.dK ↥89)=eq at *
    left
    have dg:qM eq la (.int (R-(p:Int))) (some (.int (if hg+X > 0 then hg+X else 0))):=by
     rw [<- b4]
     exact qM.k (k:=.inl (R-(p:Int))) bk
    refine df ⟨_,rfl,?_⟩
    by_cases a7:X<0
    ·rw [if_pos (decide_eq_true a7)]
     left
     refine ⟨la,_,rfl,dg,?_⟩
     left
     refine ⟨_,_,_,_,rfl,?_,?_,λa o h n1 n2=>by rw [j8 n2];exact eo a o h n1 n2⟩
     ·rw [j8 b2.symm]
      exact bk
     ·obtain ⟨J,M⟩:=V0 (A:=(↥57).sum) (S:=(m.take p).sum) eh a7
      rw [j6,ej,d3,J,M]
      rfl
    ·rw [if_neg (by rw [decide_eq_false a7];exact ar)]
     left
     refine ⟨la,_,rfl,dg,?_⟩
     left
     refine ⟨_,_,_,_,rfl,?_,?_,λa o h n1 n2=>by rw [j8 n2];exact eo a o h n1 n2⟩
     ·rw [j8 b2.symm]
      exact bk
     ·obtain ⟨J,M⟩:=Yd (A:=(↥57).sum) (S:=(m.take p).sum) eh a7
      rw [j6,ej,d3,M,J]
      rfl
   rintro σ C ⟨an,am,al,ae,rfl,r,B,U⟩
   rw [ag,zI,aZ ()] at r
   rw [ag,zI,aZ ()] at B
   have bd:=U _ _ as c2 c1
   have a0:=U _ _ cy eF eD
   have eG:=ce.two bi dc U
   have eS:=Paired.mapP dV (G:=λv (q:QC)=>∃b dl,v=V.ref b/\C b=some ↥32/\C dl=some ↥60/\dl≠fo) λv q ⟨b,dl,e,J,M,q3,q4,q5⟩=>⟨b,dl,e,U _ _ J (jp J aL ↥4) q5,U _ _ M (jp M aL ↥4) q4,q3⟩
   clear U as cy dV cr ce aL ct
   left
   refine ⟨.inl ⟨rfl,_,SqL.of a0⟩,?_⟩
   left
   refine ⟨⟨_,SqL.of bd⟩,λdl bq=>?_⟩
   refine jO (K:=K) (a:=mk) (xs:=(xJ R gd.length).map V.int) (acc:=dl) (λj σ H13=>∃x:Option V,σ=[x,some (.ref la)]/\H13 dl=some (.lst ((I.take j).map V.int))/\Ext dl C H13) ?_ ?_ ?_ ?_
   ·exact ⟨none,rfl,j6,Ext.put⟩
   ·rintro j σ H13 hj ⟨x,rfl,bt,T⟩
    exact SqL.of (T _ _ bd (j1 bd bq))
   ·rintro j v σ H13 c4 ⟨x,rfl,bt,T⟩
    obtain ⟨one,rfl,u⟩:=xG c4
    have hj:j<gd.length:=by have:=(List.getElem?_eq_some_iff.mp u).1;rw [zI] at this;exact this
    rw [QQ hj] at u
    have u:=aI u
    subst u
    have eb:I[j]? = some (I.getD j 0):=by rw [ak,aa ()];rfl
    have b4:qG ((kvD R I).map kvI) (.inl (R-(j:Int)))=some (.int (I.getD j 0)):=by
     have bs:R-(j:Int)∈(kvD R I).map (·.1):=List.mem_map.mpr ⟨(R-(j:Int),I.getD j 0),aA (i:=j) (by rw [Qd,eb];rfl),rfl⟩
     rw [zg _ _ bs,QA,if_pos (),show (R-(R-(j:Int))).toNat=j by right]
    left
    refine ⟨la,_,rfl,(by rw [<- b4];exact qM.k (k:=.inl (R-(j:Int))) (T _ _ r (j1 r bq))),?_⟩
    refine ⟨_,bt,by rw [ag,aG];exact jf (),_,rfl,?_,T.trans Ext.put⟩
    rw [j6,aQ,eb,aq]
    rfl
   rintro σ H13 ⟨x,rfl,bt,T⟩
   have ci:jk C H13:=λc o hc=>T c o hc (j1 hc bq)
   rw [ag,zI,aZ ()] at bt
   left
   refine ⟨_,_,_,_,rfl,rfl,SqL.of (ci _ _ B),rfl,?_⟩
   left
   refine ⟨_,_,_,_,rfl,rfl,SqL.of (ci _ _ B),rfl,?_⟩
   left
   refine ⟨by show 4<=sizeLine;decide,λtq eq eU ev dT=>?_⟩
   have L:=ci.trans dT
   have bn:=L _ _ a0
   refine ⟨_,_,_,rfl,rfl,bn,jf (),?_⟩
   have eH:tq≠fo:=(j1 (ci _ _ a0) eU).symm
   have ep:dl≠fo:=(j1 a0 bq).symm
   refine ⟨_,_,_,_,_,_,_,_,_,la,kvD R I,Y++[.ref tq],rfl,bi,?_,.inr ⟨i,rfl,by rw [e8,ek]⟩,j6,by rw [aw,eg];rfl,?_,(eG.trans (FrM.of_same L)).put dp⟩
   ·rw [j8 (jp (L _ _ r) bn ↥4)]
    exact L _ _ r
   ·rw [uN,el]
    refine cN (Paired.mapP eS λv q ⟨b,fp,e,J,M,q3⟩=>⟨b,fp,e,?_,?_,q3⟩) ⟨tq,dl,rfl,by rw [j8 eH];exact ev,by rw [j8 ep];exact dT _ _ bt,ep⟩
    ·rw [j8 (jp (L _ _ J) bn ↥4)]
     exact L _ _ J
    ·rw [j8 q3]
     exact L _ _ M
  ·rintro σ H6 ⟨x5,x6,x7,x8,x9,an,am,al,ae,O,ps,Y,rfl,b5,cb,a2,bm,eg,r6,f6⟩
   left
   exact k fo Y H6 dp bm (Paired.mapP r6 λv q ⟨b,dl,e,J,M,_⟩=>⟨b,dl,e,J,M⟩) f6
theorem wZ:fM "ValueError" = some (.type "ValueError"):=∅
theorem Yt (K:ah) (j:PE X l tl) (z:X.K=K:=by rfl):PIH X tg l (Y5 K tl):=by subst z;exact VN j
theorem xU:FnScope ["_law_e","_law_known"] ["_law_e"] (j7 xl):=by walk_at "s"
noncomputable def wJ (U G z j:Bool):List (Str×Bool):=[("BadYear",U),("NoLane",G),("NoPlace",z),("BadHand",j),("ValueError",true)]
noncomputable def wP (ws:List (Str×Bool)) (i:Nat):List V:=((ws.take i).filter (·.2)).map λq=>V.str q.1
theorem VL {ws:List (Str×Bool)}{i:Nat}{nm:Str}{b:Bool}(h:ws[i]? = some (nm,b)):wP ws (i+1)=wP ws i++(if b=true then [V.str nm] else []):=by
 unfold wP
 rw [aQ,h,c6,bu,aq]
 cases b <;> rfl
theorem Jv (ws:List (Str×Bool)) (i:Nat):(wP ws i).length<=i:=by
 unfold wP
 rw [ag]
 exact aK (bz _ _) (List.length_take_le _ _)
structure RefK (K:ah) (C0 C1 C2 C3 D:Addr) (b0 b1 b2 b3:Bool):Prop where
 ek:ExK K D
 k0:bf K (.ref D) (.ref C0)=some b0
 k1:bf K (.ref D) (.ref C1)=some b1
 k2:bf K (.ref D) (.ref C2)=some b2
 k3:bf K (.ref D) (.ref C3)=some b3
 k4:bf K (.ref D) (.type "ValueError")=some true
inductive spRefused (K:ah) (C0 C1 C2 C3:Addr) (a:Addr) (cls:aj) (vs:List V) (H:Hp) (Q:VK):Prop
 | mk (D:_) (b0:_) (b1:_) (b2:_) (b3:_) (_:vs=[.ref a]) (_:cls = .ref D) (_:RefK K C0 C1 C2 C3 D b0 b1 b2 b3) (_:∀t H',H' t=some (.tup (.str "no" :: wP (wJ b0 b1 b2 b3) 5))->jk H H'->Q (.ref t) H')
theorem Zk (nb:Nb2 mg) (j:mg "ValueError" = none) (U:mg "BadYear" = some (.ref C0)) (ab:mg "NoLane" = some (.ref C1)) (G:mg "NoPlace" = some (.ref C2)) (Y:mg "BadHand" = some (.ref C3))
  (F:Fun K "_law_refused" "_law_refused" xl f fd):FnH P w K mg base 1 f fd ["_law_e"] (spRefused K C0 C1 C2 C3):=by
 refine F.okH xU (λal A outer s H vs Q a oe cls S h=>?_)
 obtain ⟨D,I,E,C,B,rfl,rfl,⟨ek,k0,k1,k2,k3,k4⟩,k⟩:=h
 have hu:Hu (cxH P w K mg base ["_law_e","_law_known"] "_law_refused" (j7 xl) f al A outer s H):=GN S
 have e:=Vi (X:=cxH P w K mg base ["_law_e","_law_known"] "_law_refused" (j7 xl) f al A outer s H) K ek S.at_ S.free S.out (λz=>by cases z) S.ex
 refine ⟨_,(j5 (jo 1 xU.nd (jD (j0 (qa (j0 jr (j0 (jb e rfl nb.b_isinstance bR (j0 (pv 0) (j0 (qW (v:=V.ref _) rfl U rfl) j2))) j2))) (j0 (qa (j0 jr (j0 (jb e rfl nb.b_isinstance bR (j0 (pv 0) (j0 (qW (v:=V.ref _) rfl ab rfl) j2))) j2))) j2))))
   (j5 (jo 1 xU.nd (jh ua (pv 1) (jD (j0 (qa (j0 jr (j0 (jb e rfl nb.b_isinstance bR (j0 (pv 0) (j0 (qW (v:=V.ref _) rfl G rfl) j2))) j2))) (j0 (qa (j0 jr (j0 (jb e rfl nb.b_isinstance bR (j0 (pv 0) (j0 (qW (v:=V.ref _) rfl Y rfl) j2))) j2))) j2)))))
   (j5 (jo 1 xU.nd (jh ua (pv 1) (jD (j0 (qa (j0 jr (j0 (jb e rfl nb.b_isinstance bR (j0 (pv 0) (j0 (xF (v:=V.ty "ValueError") rfl j wZ rfl) j2))) j2))) j2))))
   (j9 (jj (jh Ug (qa (j0 jr j2)) (qC (xp K) rfl nb.b_tuple cB (j0 (VQ (osc:=(j7 xl)) (ON:=["_law_e","_law_known"]) (N:=["_law_name","_law_so"]) (own:=2) (caps:=[]) ⟨rfl,∅,∅,∅,rfl,∅⟩ hu rfl rfl (Yt K (pv 1)) (λ_ _ _ _ _ R=>(UP (n:=2) K R (jn (jc (i:=0) (show aS (["_law_name","_law_so"]:List Str) by decide +kernel) rfl (aP rfl)) (jn (jc (i:=1) (show aS (["_law_name","_law_so"]:List Str) by decide +kernel) rfl (aP rfl)) qz)))) (λ_ _ _ _ _ R=>(zw (zN (pv 1)))) (λ_ _ _ _ _ R=>(pv 0))) j2)))))))),?_⟩
 left
 refine ⟨_,_,_,rfl,λu h=>h,k0,?_⟩
 left
 refine ⟨by show 2<=sizeLine;decide,λt0 H0 n0 h0 s0=>?_⟩
 left
 refine ⟨_,_,_,rfl,λu h=>h,k1,?_⟩
 left
 refine ⟨by show 2<=sizeLine;decide,λt1 H1 n1 h1 s1=>?_⟩
 left
 refine ⟨by show 2<=sizeLine;decide,λl1 H2 n2 h2 s2=>?_⟩
 left
 refine ⟨_,_,_,rfl,λu h=>h,k2,?_⟩
 left
 refine ⟨by show 2<=sizeLine;decide,λt2 H3 n3 g M=>?_⟩
 left
 refine ⟨_,_,_,rfl,λu h=>h,k3,?_⟩
 left
 refine ⟨by show 2<=sizeLine;decide,λZ H4 n4 h4 s4=>?_⟩
 left
 refine ⟨by show 2<=sizeLine;decide,λl2 H5 n5 h5 L=>?_⟩
 refine ⟨l1,l2,_,_,rfl,rfl,L _ _ (s4 _ _ (M _ _ h2)),h5,by show 4<=sizeLine;decide,λl3 H6 n6 h6 s6=>?_⟩
 left
 refine ⟨_,_,_,rfl,λu h=>h,k4,?_⟩
 left
 refine ⟨by show 2<=sizeLine;decide,λT H7 n7 h7 J=>?_⟩
 left
 refine ⟨by show 1<=sizeLine;decide,λl4 H8 n8 h8 r=>?_⟩
 refine ⟨l3,l4,_,_,rfl,rfl,r _ _ (J _ _ h6),h8,by show 5<=sizeLine;decide,λl5 H9 n9 h9 s9=>?_⟩
 left
 refine ⟨by show 1<=sizeLine;decide,λtn H10 a1 ac O=>?_⟩
 left
 have m:∀{p o},H8 p=some o->H10 p=some o:=λh=>O _ _ (s9 _ _ h)
 have q:∀{p o},H3 p=some o->H10 p=some o:=λh=>m (r _ _ (J _ _ (s6 _ _ (L _ _ (s4 _ _ h)))))
 have p0:H10 t0=some (.tup [.str "BadYear",.bl I]):=q (M _ _ (s2 _ _ (s1 _ _ h0)))
 have p1:H10 t1=some (.tup [.str "NoLane",.bl E]):=q (M _ _ (s2 _ _ h1))
 have p2:H10 t2=some (.tup [.str "NoPlace",.bl C]):=q g
 have p3:H10 Z=some (.tup [.str "BadHand",.bl B]):=m (r _ _ (J _ _ (s6 _ _ (L _ _ h4))))
 have p4:H10 T=some (.tup [.str "ValueError",.bl true]):=m (r _ _ h7)
 have p5:H10 l5=some (.lst [.ref t0,.ref t1,.ref t2,.ref Z,.ref T]):=O _ _ h9
 have all:jk H H10:=((((((((((s0.trans s1).trans s2).trans M).trans s4).trans L).trans s6).trans J).trans r).trans s9).trans O)
 clear m q h0 h1 h2 g h4 h5 h6 h7 h8 h9 s0 s1 s2 M s4 L s6 J r s9 n0 n1 n2 n3 n4 n5 n6 n7 n8 n9
 have pr:∀(i:Nat) (v:V),[V.ref t0,.ref t1,.ref t2,.ref Z,.ref T][i]? = some v->∃t nm b,v = .ref t/\(wJ I E C B)[i]? = some (nm,b)/\H10 t=some (.tup [.str nm,.bl b]):=λi v c=>by
  match i,c with
  | 0,c=>cases c;exact ⟨_,_,_,rfl,rfl,p0⟩
  | 1,c=>cases c;exact ⟨_,_,_,rfl,rfl,p1⟩
  | 2,c=>cases c;exact ⟨_,_,_,rfl,rfl,p2⟩
  | 3,c=>cases c;exact ⟨_,_,_,rfl,rfl,p3⟩
  | 4,c=>cases c;exact ⟨_,_,_,rfl,rfl,p4⟩
  | n+5,c=>cases c
 refine ⟨⟨_,SqL.of p5⟩,λacc d=>?_⟩
 refine jO (K:=K) (a:=l5) (acc:=acc) (xs:=[V.ref t0,.ref t1,.ref t2,.ref Z,.ref T]) (λi σ H'=>∃x y:Option V,σ=[x,y]/\H' acc=some (.lst (wP (wJ I E C B) i))/\Ext acc H10 H') ?_ ?_ ?_ ?_
 ·exact ⟨none,none,rfl,j6,Ext.put⟩
 ·rintro i σ H' hi ⟨x,y,rfl,g,l⟩
  exact SqL.of (l _ _ p5 (j1 p5 d))
 ·rintro i v σ H' c ⟨x,y,rfl,g,l⟩
  obtain ⟨t,nm,b,rfl,hw,ht⟩:=pr i v c
  have kk:=VL hw
  have a2:i<5:=(List.getElem?_eq_some_iff.mp c).1
  have kl:=Jv (wJ I E C B) i
  refine ⟨t,_,rfl,SqT.of (l _ _ ht (j1 ht d)),rfl,?_⟩
  cases b with
  | false =>
   rw [if_neg ar,aJ] at kk
   refine ⟨_,_,rfl,_,_,rfl,rfl,_,rfl,_,rfl,?_⟩
   try dsimp only
   rw [if_neg ar]
   exact ⟨_,_,rfl,by rw [kk];exact g,l⟩
  | true =>
   rw [if_pos rfl] at kk
   refine ⟨_,_,rfl,_,_,rfl,rfl,_,rfl,_,rfl,?_⟩
   try dsimp only
   rw [if_pos rfl]
   refine ⟨_,rfl,_,g,bM kl (by show i<16777216;right),_,_,rfl,?_,l.trans Ext.put⟩
   rw [j6,kk]
 ·rintro σ H' ⟨x,y,rfl,g,l⟩
  refine ⟨acc,_,rfl,SqL.of g,λtt H11 a0 as an=>?_⟩
  have z:Ext acc H10 H11:=l.trans (Ext.of_same an)
  refine ⟨tn,tt,_,_,rfl,rfl,z _ _ ac (j1 ac d),as,by have:=Jv (wJ I E C B) 5;show 1+(wP (wJ I E C B) 5).length<=16777216;right,λtf aL am ap=>?_⟩
  refine k tf aL ap λb o hb=>am _ _ (z _ _ (all _ _ hb) (j1 (all _ _ hb) d))
noncomputable def noT (w:Str):List V:=[.str "no",.str w,.str "ValueError"]
noncomputable def uf (c:ScN) (l n y:Int):Option Str :=
 if 0<=l/\l<(c.ws.length:Int) then (if 0<=n/\n<((ja c.rs (c.ws.getD l.toNat [])).length:Int) then (if 0<=y/\y<=10 ^ 40 then none else some "BadYear") else some "NoPlace") else some "NoLane"
inductive spDue  (vs:List V) (H:Hp) (Q:VK) (z_3:XK):Prop
 | mk (sd:Addr) (c:ScN) (l n y:Int) (_:vs=[.ref sd,.int l,.int n,.int y]) (_:ScAt H sd c) (_:(uf c l n y=none->Q .non H)) (_:∀w t H',uf c l n y=some w->H t=none->H' t=some (.tup (noT w))->jk H H'->Q (.ref t) H')
theorem k8:FnScope ["_law_scene_here","_law_lane","_law_place","_law_year_here"] ["_law_scene_here","_law_lane","_law_place","_law_year_here"] (j7 zV):=by walk_at "s"
theorem G4 (G:Nb2 mg) (F:Fun K "_law_due_spot" "_law_due_spot" zV f fd):FnOk P w K mg base CX0 1 f fd ["_law_scene_here","_law_lane","_law_place","_law_year_here"] spDue:=by
 refine F.ok k8 (λT H Q E h=>?_) (λU A outer s H T Q E M h=>?_)
 ·obtain ⟨i,c,l,n,y,rfl,_⟩:=h
  rfl
 ·obtain ⟨i,c,l,n,y,rfl,S,k,B⟩:=h
  have J:c.zs.length=c.ws.length:=(aV S.gi).trans (ag _)
  have r:qM H i (.str "grounds") (some (.ref c.gl)):=by rw [<- qI c.p c.q c.sg c.gl c.ll];exact qM.k (k:=.inr "grounds") S.sd
  have C:¬(0<=l/\l<(c.ws.length:Int))->∀t H',H t=none->H' t=some (.tup (noT "NoLane"))->jk H H'->Q (.ref t) H':=λz t H'=>B _ t H' (by unfold uf;rw [if_neg z])
  refine ⟨_,(j5 (jV (xn (xj qA vg j4 (pv 1) (jb (jg K) rfl G.b_len aR (j0 (jy (jM M) (pv 0) jr (λ_ _=>rfl)) j2)))) (j9 (jj (qa (j0 jr (j0 jr (j0 jr j2)))))) jw)
   (j5 (jV (xn (xj qA vg j4 (pv 2) (jb (jg K) rfl G.b_len aR (j0 (jm (jd K) (jy (jM M) (pv 0) jr (λ_ _=>rfl)) (pv 1) (λ_ _=>rfl)) j2)))) (j9 (jj (qa (j0 jr (j0 jr (j0 jr j2)))))) jw)
   (j5 (jV (xn (xj qA qA j4 (pv 3) (jh yp j4 j4))) (j9 (jj (qa (j0 jr (j0 jr (j0 jr j2)))))) jw)
   (j9 (jj ur))))),?_⟩
  left
  refine qv (λg=>?_) (λg=>?_)
  ·left
   refine ⟨i,.ref c.gl,rfl,r,?_⟩
   left
   refine ⟨c.gl,_,rfl,.inl (SqL.of S.gl),?_⟩
   rw [J]
   left
   refine zF (λh1=>?_) (λh1=>?_)
   ·left
    refine ⟨by show 3<=sizeLine;decide,λt e d a b=>?_⟩
    exact C (λz=>h1 z.2) t e d a b
   ·clear C
    have hi:l.toNat<c.zs.length:=()
    obtain ⟨X,o,O,R,N⟩:=Paired.get S.gi (aa hi)
    rw [ax] at o
    obtain ⟨wy,L,rfl⟩:=Option.map_eq_some_iff.mp o
    have D:c.ws.getD l.toNat []=wy:=by rw [ak,L];rfl
    have kp:¬(0<=n/\n< ↥133)->∀t H',H t=none->H' t=some (.tup (noT "NoPlace"))->jk H H'->Q (.ref t) H':=λz t H'=>B _ t H' (by unfold uf;rw [D,if_pos ⟨g,h1⟩,if_neg z])
    left
    refine qv (λm=>?_) (λm=>?_)
    ·left
     refine ⟨i,.ref c.gl,rfl,r,?_⟩
     left
     refine ⟨_,_,_,_,rfl,rfl,SqL.of S.gl,qo g (v:=V.ref O) (by rw [aa hi,R]),?_⟩
     left
     refine ⟨O,_,rfl,.inl (SqL.of N),?_⟩
     rw [ag]
     left
     refine zF (λj=>?_) (λj=>?_)
     ·left
      refine ⟨by show 3<=sizeLine;decide,λt e d a b=>?_⟩
      exact kp (λz=>j z.2) t e d a b
     ·clear kp
      have I:¬(0<=y/\y<=10 ^ 40)->∀t H',H t=none->H' t=some (.tup (noT "BadYear"))->jk H H'->Q (.ref t) H':=λz t H'=>B _ t H' (by unfold uf;rw [D,if_pos ⟨g,h1⟩,if_pos ⟨m,j⟩,if_neg z])
      left
      refine qv (λx=>?_) (λx=>?_)
      ·left
       refine zF (λu=>?_) (λu=>?_)
       ·left
        refine ⟨by show 3<=sizeLine;decide,λt e d a b=>?_⟩
        exact I (λz=>u z.2) t e d a b
       ·left
        exact k (by unfold uf;rw [D,if_pos ⟨g,h1⟩,if_pos ⟨m,j⟩,if_pos ⟨x,u⟩])
      ·left
       refine ⟨by show 3<=sizeLine;decide,λt e d a b=>?_⟩
       exact I (λz=>x z.1) t e d a b
    ·left
     refine ⟨by show 3<=sizeLine;decide,λt e d a b=>?_⟩
     exact kp (λz=>m z.1) t e d a b
  ·left
   refine ⟨by show 3<=sizeLine;decide,λt e d a b=>?_⟩
   exact C (λz=>g z.1) t e d a b
inductive spBent  (vs:List V) (H:Hp) (Q:VK) (z_3:XK):Prop
 | mk (L b sd:Addr) (c:ScN) (y:Int) (_:vs=[.ref b,.ref sd,.int y]) (_:jY L H b) (_:ScAt H sd c) (_:ScOk b c) (_:1<=c.ws.length) (_:c.ws.length<=6) (_:(∀w∈c.ws,1<=(ja c.rs w).length/\(ja c.rs w).length<=30)) (_:∀(l n y':Int) (t:Addr) (H':Hp),jY L H' b->Ext b H H'->H t=none->H' t=some (.tup [.int l,.int n,.int y'])->Q (.ref t) H')
theorem qk:FnScope ["_law_box_here","_law_scene_here","_law_year_here","_law_lane","_law_place","_law_pick"] ["_law_box_here","_law_scene_here","_law_year_here"] (j7 zD):=by walk_at "s"
theorem Uv (Y:Nb2 mg) (j:Cal P w K mg base 2 "_law_take" ["_law_box_here","_law_size"] spTakeL) (U:Cal P w K mg base 3 "_law_odd" ["_law_box_here"] spOdd) (G:Cal P w K mg base 3 "_law_spot" ["_law_box_here","_law_scene_here"] spSpot)
  (F:Fun K "_law_bent_spot" "_law_bent_spot" zD f fd):FnOk P w K mg base CX0 4 f fd ["_law_box_here","_law_scene_here","_law_year_here"] spBent:=by
 refine F.ok qk ↥29 (λa6 A outer s H vs Q E x h=>?_)
 ·obtain ⟨L,b,d,c,y,rfl,_⟩:=h
  rfl
 ·obtain ⟨L,b,d,c,y,rfl,B,S,O,am,al,hg,k⟩:=h
  have a3:c.zs.length=c.ws.length:=(aV S.gi).trans (ag _)
  have QK:∀{z a b c:Int},0<=z->z<3->∃n,atI [V.int a,V.int b,V.int c] z=some (V.int n):=λ{z a b c} h0 h1=>by
   have:z=0\/z=1\/z=2:=()
   rcases this with rfl | rfl | rfl
   ·exact ⟨a,rfl⟩
   ·exact ⟨b,rfl⟩
   ·exact ⟨c,rfl⟩
  have X:∀{H':Hp},ScAt H' d c->qM H' d (.str "grounds") (some (.ref c.gl)):=λS'=>by rw [<- qI c.p c.q c.sg c.gl c.ll];exact qM.k (k:=.inr "grounds") S'.sd
  refine ⟨_,(j5 (zj (je G (x.mono ⋯) rfl (j0 (pv 0) ↥34)) (qS (n:=2) K rfl (jn (jc (i:=3) qk.nd rfl (aP rfl)) (jn (jc (i:=4) qk.nd rfl (aP rfl)) qz))))
   (j5 (jo 5 qk.nd (je j (x.mono ⋯) rfl ↥15))
   (zp (jV (PW.pt (Jp ↥113 (kO ↥113))) (j9 (jo 3 qk.nd (jm (jd K) (jD (j0 (jh jN j4 j4) (j0 (jb (jg K) rfl Y.b_len aR (j0 (jy (jM x) (pv 1) jr (λ_ _=>rfl)) j2)) (j0 (je U (x.mono ⋯) rfl ↥42) j2)))) (je j (x.mono ⋯) rfl ↥15) (λ_ _=>rfl)))) jw)
   (zp (jV (PW.pt (Jp ↥113 (Jp ↥113 (kO ↥113)))) (j9 (jo 4 qk.nd (jm (jd K) (jD (j0 (jh jN j4 j4) (j0 (jb (jg K) rfl Y.b_len aR (j0 (jm (jd K) (jy (jM x) (pv 1) jr (λ_ _=>rfl)) (jb (vY rfl) rfl Y.b_min tE (j0 (jb (qO rfl) rfl Y.b_max fg (j0 (pv 3) (j0 j4 j2))) (j0 (jh jN (jb (jg K) rfl Y.b_len aR (j0 (jy (jM x) (pv 1) jr (λ_ _=>rfl)) j2)) j4) j2))) (λ_ _=>rfl)) j2)) (j0 j4 j2)))) (je j (x.mono ⋯) rfl ↥15) (λ_ _=>rfl)))) jw)
   (zp (jV (PW.pt (Jp ↥113 (kO ↥113))) (j9 (jo 2 qk.nd (jm (jd K) (jD (j0 (jh jN j4 j4) (j0 (jh jE (jh yp j4 j4) j4) (j0 (jh yp j4 j4) j2)))) (je j (x.mono ⋯) rfl ↥15) (λ_ _=>rfl)))) jw)
   (j9 (jj (qa (j0 (pv 3) (j0 (pv 4) ↥52)))))))))),?_⟩
  left
  refine ⟨L,b,d,c,rfl,B,S,O,am,al,hg,λln n wy t H1 a2 a1 a4 n0 n1 B1 X1 ht ac=>?_⟩
  left
  refine ⟨t,_,rfl,SqT.of ac,rfl,?_⟩
  refine ⟨_,_,rfl,_,_,rfl,rfl,?_⟩
  left
  refine ⟨L,b,_,rfl,B1,⟨⋯,⋯⟩,λu H2 a0 aL B2 X2=>?_⟩
  have S1:=S.ext O B X1
  have S2:=S1.ext O B1 X2
  have Z:=X1.trans X2
  clear B1 X1 X2 S1 ac
  left
  refine ⟨λσ H3=>∃l:Int,σ=[some (.ref b),some (.ref d),some (.int y),some (.int l),some (.int n),some (.int u)]/\jY L H3 b/\Ext b H H3/\ScAt H3 d c,?_,?_⟩
  ·have D:∃l:Int,[some (V.ref b),some (.ref d),some (.int y),some (.int ln),some (.int n),some (.int u)]=[some (.ref b),some (.ref d),some (.int y),some (.int l),some (.int n),some (.int u)]/\jY L H2 b/\Ext b H H2/\ScAt H2 d c:=⟨ln,rfl,B2,Z,S2⟩
   left
   refine qv (λ_=>?_) (λ_=>?_)
   rotate_left
   left
   refine qv (λ_=>?_) (λ_=>D)
   all_goals
    left
    refine ⟨d,.ref c.gl,rfl,X S2,?_⟩
    left
    refine ⟨c.gl,_,rfl,.inl (SqL.of S2.gl),?_⟩
    left
    refine ⟨L,b,rfl,B2,λz H3 g I=>?_⟩
    left
    refine ⟨by show 3<=sizeLine;decide,λlq H4 C o e=>?_⟩
    left
    refine ⟨L,b,_,rfl,g.same e,⟨⋯,⋯⟩,λv H5 N M B5 r=>?_⟩
    obtain ⟨m,T⟩:=QK (a:=0-1) (b:=(c.zs.length:Int)) (c:=z) N M
    refine ⟨_,_,_,_,rfl,rfl,SqL.of (r _ _ o (g.ne C)),T,?_⟩
    exact ⟨m,rfl,B5,(Z.trans I).trans ((Ext.of_same e).trans r),((S2.ext O B2 I).same e).ext O (g.same e) r⟩
  rintro σ H3 ⟨l,rfl,g,I,J⟩
  clear B2 Z S2
  refine ⟨λσ H3=>∃l n:Int,σ=[some (.ref b),some (.ref d),some (.int y),some (.int l),some (.int n),some (.int u)]/\jY L H3 b/\Ext b H H3/\ScAt H3 d c,?_,?_⟩
  ·have D:∃l' n':Int,[some (V.ref b),some (.ref d),some (.int y),some (.int l),some (.int n),some (.int u)]=[some (.ref b),some (.ref d),some (.int y),some (.int l'),some (.int n'),some (.int u)]/\jY L H3 b/\Ext b H H3/\ScAt H3 d c:=⟨l,n,rfl,g,I,J⟩
   left
   refine qv (λ_=>?_) (λ_=>?_)
   rotate_left
   left
   refine qv (λ_=>?_) (λ_=>?_)
   rotate_left
   left
   refine qv (λ_=>?_) (λ_=>D)
   all_goals
    left
    refine ⟨d,.ref c.gl,rfl,X J,?_⟩
    left
    refine ⟨_,_,rfl,?_⟩
    left
    refine ⟨d,.ref c.gl,rfl,X J,?_⟩
    left
    refine ⟨c.gl,_,rfl,.inl (SqL.of J.gl),?_⟩
    left
    refine ⟨_,_,rfl,?_⟩
    obtain ⟨R,ap,x0,x1⟩:∃R:Int,(if (c.zs.length:Int)-1<if 0 > l then 0 else l then (c.zs.length:Int)-1 else if 0 > l then 0 else l)=R/\0<=R/\R<(c.zs.length:Int):=⟨_,rfl,by split <;> split <;> right,by split <;> split <;> right⟩
    rw [ap]
    have hi:R.toNat<c.zs.length:=()
    obtain ⟨gw,a5,ga,as,an⟩:=Paired.get J.gi (aa hi)
    refine ⟨_,_,_,_,rfl,rfl,SqL.of J.gl,qo x0 (v:=V.ref ga) (by rw [aa hi,as]),?_⟩
    left
    refine ⟨ga,_,rfl,.inl (SqL.of an),?_⟩
    left
    refine ⟨by show 3<=sizeLine;decide,λlq H4 C o e=>?_⟩
    left
    refine ⟨L,b,_,rfl,g.same e,⟨⋯,⋯⟩,λv H5 N M B5 r=>?_⟩
    obtain ⟨m,T⟩:=QK (a:=0-1) (b:=((gw.map V.int).length:Int)) (c:=31) N M
    refine ⟨_,_,_,_,rfl,rfl,SqL.of (r _ _ o (g.ne C)),T,?_⟩
    exact ⟨l,m,rfl,B5,I.trans ((Ext.of_same e).trans r),(J.same e).ext O (g.same e) r⟩
  rintro σ H3 ⟨l,n,rfl,g,I,J⟩
  refine ⟨λσ H3=>∃l n y:Int,σ=[some (.ref b),some (.ref d),some (.int y),some (.int l),some (.int n),some (.int u)]/\jY L H3 b/\Ext b H H3,?_,?_⟩
  ·have D:∃l' n' y':Int,[some (V.ref b),some (.ref d),some (.int y),some (.int l),some (.int n),some (.int u)]=[some (.ref b),some (.ref d),some (.int y'),some (.int l'),some (.int n'),some (.int u)]/\jY L H3 b/\Ext b H H3:=⟨l,n,y,rfl,g,I⟩
   left
   refine qv (λ_=>?_) (λ_=>?_)
   rotate_left
   left
   refine qv (λ_=>?_) (λ_=>D)
   all_goals
    left
    refine ⟨by show 3<=sizeLine;decide,λlq H4 C o e=>?_⟩
    left
    refine ⟨L,b,_,rfl,g.same e,⟨⋯,⋯⟩,λv H5 N M B5 r=>?_⟩
    obtain ⟨m,T⟩:=QK (a:=0-1) (b:=10 ^ (40:Int).toNat+1) (c:=10 ^ (40:Int).toNat) N M
    refine ⟨_,_,_,_,rfl,rfl,SqL.of (r _ _ o (g.ne C)),T,?_⟩
    exact ⟨l,n,m,rfl,B5,I.trans ((Ext.of_same e).trans r)⟩
  rintro σ H4 ⟨l,n,y',rfl,B4,X4⟩
  left
  refine ⟨by show 3<=sizeLine;decide,λt' H5 ab ae s5=>?_⟩
  have tb:t'≠b:=B4.ne ab
  exact k l n y' t' H5 (B4.same s5) (X4.trans (Ext.of_same s5)) (X4.free ab tb) ae
theorem VO {m:List Int}{p e:Nat}{x:Int}(h:m[p]? = some x):((m.take (p+1)).drop e).sum=((m.take p).drop e).sum+(if e<=p then x else 0):=by
 have a:=(List.getElem?_eq_some_iff.mp h).1
 rw [aQ,h,c6,List.drop_append,ni,aG,lj (dA a)]
 by_cases z:e<=p
 ·rw [if_pos z,show e-p=0 by right]
  show _+(x+0)=_
  right
 ·rw [if_neg z,show List.drop (e-p) [x]=[] from iH (by show 1<=_;right)]
  rfl
inductive spFarS  (vs:List V) (H:Hp) (Q:VK) (z_3:XK):Prop
 | mk (sd:Addr) (c:ScN) (g:IceG) (l y:Int) (wy:List Int) (da:Addr) (dn ms:List (Int×Int)) (wr:List (Int×T3)) (_:vs=[.ref sd,.int l,.int y]) (_:ScAt H sd c) (_:LaneF c g l wy da dn) (_:ms.Perm dn) (_: (↥111).Pairwise (· <= ·)) (_:xY H c.sk wr) (_:1<=c.ts.length) (_:c.ts.length<=1000) (_:1<=y) (_:∀t q H',q=ql ms (ja c.rs wy) wr c.ts 0 y.toNat->H t=none->H' t=some ↥120->FrM c.D H H'->Q (.ref t) H')
theorem qi:FnScope ["_law_scene_here","_law_lane","_law_year_here","_law_found","_law_length","_law_place","_law_one","_law_row_here","_law_before"] ["_law_scene_here","_law_lane","_law_year_here"] (j7 zd):=by walk_at "s"
structure FarC (ms:List (Int×Int)) (gd:List Int) (wr:List (Int×T3)) (ts:List T3) (yn:Nat) (mv d0 d1:List Int) (s:Nat):Prop where
 ml:mv.length=gd.length
 l0:d0.length=gd.length
 l1:d1.length=gd.length
 at_:∀n,n<gd.length->∀m,m=((yn+1:Nat):Int)+js ms ((yn+1:Nat):Int)-(n:Int)->mv[n]? = some (qw ms gd wr ts m (ji 0 0 ms m) (((yn+1:Nat):Int)-ji 0 0 ms m+1).toNat-qw ms gd wr ts m (ji 0 0 ms m) (((yn+1:Nat):Int)-ji 0 0 ms m).toNat)/\d1[n]? = some (qw ms gd wr ts m (ji 0 0 ms m) (((yn+1:Nat):Int)-ji 0 0 ms m+1).toNat)
 old:∀n,n<gd.length->∀m,m=(yn:Int)+js ms (yn:Int)-(n:Int)->ji 0 0 ms m<=(yn:Int)/\d0[n]? = some (qw ms gd wr ts m (ji 0 0 ms m) ((yn:Int)-ji 0 0 ms m+1).toNat)
 st:∀n:Nat,n<gd.length->(↥58<=((yn+1:Nat):Int)+js ms ((yn+1:Nat):Int)-((yn:Int)+js ms (yn:Int)-(n:Int))↔gd.length-s<=n)
theorem GW {z:List (Int×Int)}(U:(z.map (·.1)).Pairwise (· < ·)) (Y:∀q∈z,0<=q.1/\0<=q.2) (G:∀y,0<=jR z y) (j:Nat):∃mv d0 d1 s,FarC z gd wr ts j mv d0 d1 s/\ql z gd wr ts 0 (j+1)=((mv.filter λx=>decide (0<x)).sum,(mv.filter λx=>decide (0<x)).sum-mv.sum,(d0.drop (gd.length-s)).sum,d1):=by
 have d:(z.map (·.1)).Nodup:=U.imp λh=>()
 have b:=qf z gd wr ts 0 (j+1)
 have i:=yI z gd.length (0+ ↥37)
 refine ⟨ze (qV wr ts (0+ ↥37)) (jx (jB z gd.length (0+ ↥37)) (qL z gd wr ts 0 (j+1))) gd,qL z gd wr ts 0 (j+1),qL z gd wr ts 0 (j+1+1),jB z gd.length (0+ ↥37),⟨vQ (by rw [xH (),b]),b,qf z gd wr ts 0 (j+1+1),λn a m c=>?_,λn a m c=>?_,λn a=>?_⟩,?_⟩
 ·obtain ⟨_,h1,h2⟩:=QI (wr:=wr) (ts:=ts) U Y G (j+1) n m a c
  exact ⟨G1 h1 h2,h2⟩
 ·obtain ⟨e,_,h2⟩:=QI (wr:=wr) (ts:=ts) U Y G j n m a c
  exact ⟨e,h2⟩
 ·have st:=zT d (j:Int)
  rw [show (j:Int)+1=↥37 by right] at st
  have f:=G ↥37
  unfold jB
  rw [cS]
  generalize jR z ↥37=g at *
  right
 ·unfold ql yg
  rw [b]
  rfl
theorem Wr (nb:Nb2 mg) (G:Cal P w K mg base 1 "_law_ride" ["_law_scene_here","_law_lane","_law_year_here"] spRide) (Y:Cal P w K mg base 3 "_law_life" ["_law_scene_here","_law_lane","_law_one","_law_length"] spLifeL) (U:Cal P w K mg base 3 "_law_depth" ["_law_scene_here","_law_lane","_law_place","_law_year_here"] spDepthL)
  (F:Fun K "_law_far_sums" "_law_far_sums" zd f fd):FnOk P w K mg base CX0 4 f fd ["_law_scene_here","_law_lane","_law_year_here"] spFarS:=by
 refine F.ok qi ↥29 (λdg A outer s H vs Q E I h=>?_)
 ·obtain ⟨O,c,g,l,y,u,da,dn,d,wr,rfl,_⟩:=h
  rfl
 ·obtain ⟨O,c,g,l,y,u,da,dn,d,wr,rfl,S,n,X,hs,hw,t1,t2,y1,k⟩:=h
  have db:=n.g30
  have g1:=n.g1
  have c1:=n.l10
  have b2:∀q∈dn,0<=q.1/\0<=q.2/\q.2<=9:=λq B=>by have:=n.b q B;right
  have cb:(d.map (·.1)).Nodup:=(X.map (·.1)).nodup_iff.mpr n.nd
  have hv:∀z,0<=jR d z:=λz=>(wg (λq B=>by have:=n.b q (X.mem_iff.mp B);right) z).1
  have J:=λy=>xI X y
  obtain ⟨m,rfl⟩:∃m:Nat,y=↥74:=⟨(y-1).toNat,()⟩
  have b6:=λone=>vU X hs n.nd n.pos one (ja c.rs u).length ↥74 ()
  obtain ⟨mv,d0,d1,s,FC,eq⟩:=GW (gd:=ja c.rs u) (wr:=wr) (ts:=c.ts) (qH hs cb) (λq B=>n.pos q (X.mem_iff.mp B)) hv m
  have k:=λt H'=>k t ((mv.filter λx=>decide (0<x)).sum,(mv.filter λx=>decide (0<x)).sum-mv.sum,(d0.drop ((ja c.rs u).length-s)).sum,d1) H' (by rw [b7];exact eq.symm)
  clear eq y1
  have cm:=λ{H':Hp} (S':ScAt H' O c)=>S'.gnd n
  refine ⟨_,(j5 (jo 3 qi.nd (jD (j0 j4 ↥122)))
   (j5 (jo 4 qi.nd (jb (jg K) rfl nb.b_len aR (j0 (jm (jd K) (jy (jM I) (pv 0) jr (λ_ _=>rfl)) (pv 1) (λ_ _=>rfl)) j2)))
   (j5 (xf bp rfl (jU rfl nb.b_range (j0 (pv 4) j2)) (jc (i:=5) qi.nd rfl (aP rfl)) (j5 (jo 6 qi.nd (jh jN (je G (I.mono ⋯) rfl (j0 (pv 0) (j0 (pv 1) ↥52))) (pv 5)))
   (j5 (jo 7 qi.nd (jm (jd K) (jG (osc:=(j7 zd)) (ON:=["_law_scene_here","_law_lane","_law_year_here","_law_found","_law_length","_law_place","_law_one","_law_row_here","_law_before"]) (N:=["_law_row_here","_law_year_here"]) (own:=1) (caps:=[2]) ⟨rfl,∅,∅,∅,rfl,∅⟩ rfl rfl rfl (jT K (je Y (I.mono ⋯) rfl (j0 (pv 0) (j0 (pv 1) (j0 (pv 6) (j0 (pv 4) j2)))))) (λ_ _ _ _ _=>(jc (i:=0) (show aS (["_law_row_here","_law_year_here"]:List Str) by decide +kernel) rfl (aP rfl))) (λ_ _ _ _ _=>(zw (jA xW ↥66 (pv 1) (jF _)))) ↥144) j4 (λ_ _=>rfl)))
   (j5 (jo 3 qi.nd (jD (j0 (jh jE ↥107 (jb (qO rfl) rfl nb.b_max fg (j0 j4 (j0 (jm (qp K) (pv 7) j4 (λ_ _=>rfl)) j2)))) (j0 (jh jE ↥107 (jb (qO rfl) rfl nb.b_max fg (j0 j4 (j0 (jh jN j4 (jm (qp K) (pv 7) j4 (λ_ _=>rfl))) j2)))) (j0 ↥107 (j0 (jh jE ↥107 (jm (qp K) (pv 7) j4 (λ_ _=>rfl))) j2))))))
   (j5 (jo 8 qi.nd (jh jN (je G (I.mono ⋯) rfl (j0 (pv 0) (j0 (pv 1) (j0 (jh jN (pv 2) j4) j2)))) (pv 5)))
   (j9 (jV (jA XG (jh jN (je G (I.mono ⋯) rfl (j0 (pv 0) (j0 (pv 1) ↥52))) (pv 8)) (pv 4) (jF _)) (j9 (zj (jh jE ↥107 (je U (I.mono ⋯) rfl (j0 (pv 0) (j0 (pv 1) (j0 (pv 5) (j0 (jh jN (pv 2) j4) j2)))))) (kD (pv 3) j4 yB))) jw)))))))
   (j9 (jj (qC (xp K) rfl nb.b_tuple cB (j0 (pv 3) j2))))))),?_⟩
  left
  refine ⟨by show 4<=sizeLine;decide,λcr H1 a4 ae s1=>?_⟩
  have S1:=S.frM (FrM.of_same s1)
  obtain ⟨ga,b1,bl⟩:=cm S1
  left
  refine ⟨O,.ref c.gl,rfl,by rw [<- qI c.p c.q c.sg c.gl c.ll];exact qM.k (k:=.inr "grounds") S1.sd,?_⟩
  left
  refine ⟨_,_,_,_,rfl,rfl,SqL.of S1.gl,b1,?_⟩
  left
  refine ⟨ga,_,rfl,.inl (SqL.of bl),?_⟩
  rw [ag]
  left
  refine ⟨(),(),?_⟩
  refine qY (λj σ H3=>∃(x5 x6 x7 x8:Option V) (fa:Addr),σ=[some (.ref O),some (.int l),some (.int ↥74),some (.ref fa),some (.int ((ja c.rs u).length:Int)),x5,x6,x7,x8]/\H fa=none/\H3 fa=some (.lst [.int (↥71).sum,.int ((↥71).sum-(mv.take j).sum),.int ((d0.take j).drop ((ja c.rs u).length-s)).sum,.int (d1.take j).sum])/\FrM c.D H H3) ?_ ?_ ?_
  ·exact ⟨_,_,_,_,cr,rfl,a4,by rw [eO,eO,eO,md];exact ae,FrM.of_same s1⟩
  ·clear a4 ae s1 S1 b1 bl ga k
   rintro j σ H3 hj ⟨x5,x6,x7,x8,fa,rfl,b4,C,f3⟩
   have hj:j<(ja c.rs u).length:=()
   obtain ⟨one,a9⟩:∃one,one=↥74+js d ↥74-(j:Int):=⟨_,rfl⟩
   obtain ⟨Z,bm⟩:=FC.at_ j hj one a9
   obtain ⟨two,a8⟩:∃two,two=(m:Int)+js d (m:Int)-(j:Int):=⟨_,rfl⟩
   obtain ⟨c9,cl⟩:=FC.old j hj two a8
   have bk:=FC.st j hj
   have cL:=(b6 one).mp (by rw [<- J];right)
   have CL:=Xq d (ja c.rs u) wr c.ts one
   have cy:=kj X hs n.nd n.pos one (ja c.rs u).length ()
   have S3:=S.frM f3
   have ro:∀(H5:Hp) (Q5:VK) (E5:XK),ScAt H5 O c->(∀H6,FrM c.D H5 H6->Q5 (.int (↥74+js d ↥74)) H6)->spRide [.ref O,.int l,.int ↥74] H5 Q5 E5:=λH5 Q5 E5 S5 k5=>kW S5 n λH6 f6=>by rw [<- J];exact k5 H6 f6
   left
   simp only [vO,aJ]
   rw [show (0:Int)+(j:Int)=(j:Int) by right]
   refine ro H3 _ _ S3 λH4 f4=>?_
   have am:=f3.trans f4
   have S4:=S.frM am
   have a3:=f4.at C ↥1
   clear S3 C f3 f4
   left
   rw [<- a9]
   simp only [vO,aJ]
   refine ⟨O,c,l,one,_,u,da,dn,d,wr,rfl,S4,n.l0,n.way,rfl,(),(),n.cd,(),n.nd,b2,X,hs,hw.keep (FrM.keepT am),t1,t2,λo H5 an ho ac r5 f5=>?_⟩
   have a7:=am.trans f5
   have S5:=S.frM a7
   have a2:=f5.at a3 ↥1
   clear S4 a3 am f5
   have c4:an.length=_:=(aV r5).trans CL.len
   obtain ⟨k0,dc⟩:∃k0,k0=(↥74-ji 0 0 d one).toNat:=⟨_,rfl⟩
   have as:k0<an.length:=()
   have ap:=CL.at_ k0 ()
   have b3:=CL.step k0
   rw [show (↥74-ji 0 0 d one+1).toNat=k0+1 by right] at Z bm
   rw [show (↥74-ji 0 0 d one).toNat=k0 by right] at Z
   rw [show qw d (ja c.rs u) wr c.ts one (ji 0 0 d one) (k0+1)-qw d (ja c.rs u) wr c.ts one (ji 0 0 d one) k0=(zG d (ja c.rs u) wr c.ts one (ji 0 0 d one) k0).2.2.1 by right] at Z
   have bi:∀(i:Nat) r,(zR d (ja c.rs u) wr c.ts one)[i]? = some r->r.1=ji 0 0 d one+(i:Int):=λi r I=>by
    have hi:=(List.getElem?_eq_some_iff.mp I).1
    rw [CL.len] at hi
    rw [CL.at_ i hi] at I
    rw [<- aI I]
   clear b3 CL
   obtain ⟨q,B,bq,cs,bs⟩:=Paired.get r5 (aa as)
   rw [ap] at B
   have B:=(aI B).symm
   generalize (zG d (ja c.rs u) wr c.ts one (ji 0 0 d one) k0).2.2.1=mk at *
   generalize qw d (ja c.rs u) wr c.ts one (ji 0 0 d one) (k0+1)=dk at *
   generalize ji 0 0 d one=fst at *
   left
   refine ⟨⟨_,SqL.of ac⟩,λacc L=>?_⟩
   refine jO (K:=K) (a:=o) (xs:=an) (acc:=acc) (λi σ H6=>∃x:Option V,σ=[x,some (.int ↥74)]/\H6 acc=some (.lst (if k0<i then [V.ref bq] else []))/\Ext acc H5 H6) ?_ ?_ ?_ ?_
   ·exact ⟨none,rfl,j6,Ext.put⟩
   ·rintro i σ H6 hi ⟨x,rfl,h6,e6⟩
    exact SqL.of (e6 _ _ ac (j1 ac L))
   ·rintro i v σ H6 T ⟨x,rfl,h6,e6⟩
    obtain ⟨r,ch,br,rfl,bn⟩:=Paired.get r5 T
    have c2:=bi i r ch
    have cv:H6 br=some (.tup [.int r.1,.int r.2.1,.int r.2.2.1,.int r.2.2.2]):=e6 _ _ bn (j1 bn L)
    left
    refine qv (λz=>?_) (λz=>?_)
    ·have z:r.1=↥74:=V.int.inj z
     have ei:i=k0:=()
     subst ei
     rw [aa as,cs] at T
     have T:=V.ref.inj (aI T)
     subst T
     left
     refine ⟨_,h6,by rw [if_neg (cp _)];exact jf (by show 0<=_;right),_,rfl,?_,e6.trans Ext.put⟩
     rw [j6,if_neg (cp _),if_pos (dG _)]
     rfl
    ·have z:¬r.1=↥74:=λw=>z (congrArg V.int w)
     refine ⟨_,rfl,?_,e6⟩
     rw [h6]
     by_cases w:k0<i
     ·rw [if_pos w,if_pos (show k0<i+1 by right)]
     ·rw [if_neg w,if_neg (show ¬k0<i+1 by right)]
   rintro σ H6 ⟨x,rfl,h6,e6⟩
   rw [if_pos as] at h6
   have s6:jk H5 H6:=λc o hc=>e6 c o hc (j1 hc L)
   have a6:=a7.trans (FrM.of_same (M:=c.D) s6)
   have S6:=S.frM a6
   have b5:=s6 _ _ a2
   have a5:H6 bq=some (.tup [.int q.1,.int q.2.1,.int q.2.2.1,.int q.2.2.2]):=s6 _ _ bs
   rw [B] at a5
   clear S5 a2 a7 e6 L ac ho r5 bi bs B ap
   refine ⟨acc,_,0,V.ref bq,rfl,rfl,SqL.of h6,qo (dm 0) rfl,?_⟩
   left
   refine ⟨_,_,rfl,?_⟩
   left
   refine ⟨_,_,rfl,?_⟩
   left
   refine ⟨by show 4<=sizeLine;decide,λfb H7 ci a1 s7=>?_⟩
   have b0:=a6.trans (FrM.of_same (M:=c.D) s7)
   have ab:H fb=none:=a6.no ci
   have S7:=S.frM b0
   left
   simp only [vO,aJ]
   refine kW S7 n λH8 f8=>?_
   have bv:=b0.trans f8
   have S8:=S.frM bv
   have a0:=f8.at a1 ↥1
   clear S7 S6 b5 h6 a5 a1
   rw [show ↥74-1=(m:Int) by right,<- J]
   left
   simp only [vO,aJ]
   refine ro H8 _ _ S8 λH9 f9=>?_
   have al:=bv.trans f9
   have S9:=S.frM al
   have aL:=f9.at a0 ↥1
   clear S8 a0
   have eF:=Jo Z
   have eS:=J5 Z
   have eG:=VO (e:=(ja c.rs u).length-s) cl
   have eD:=J5 bm
   left
   refine qv (λz=>?_) (λz=>?_)
   ·rw [if_pos (bk.mp z)] at eG
    left
    simp only [vO,aJ]
    refine ⟨O,c,l,(j:Int),_,u,da,dn,d,wr,rfl,S9,n.l0,n.way,(),(),(),(),n.cd,(),n.nd,b2,X,hs,hw.keep (FrM.keepT al),t1,t2,λdp R bd bt=>?_⟩
    rw [show ↥74-1=(m:Int) by right,<- J,<- a8] at bd
    subst bd
    have ct:=bt.at aL ↥1
    rw [show ↥74-1=(m:Int) by right,show ((m:Int)-ji 0 0 d R).toNat+1=((m:Int)-ji 0 0 d R+1).toNat by right]
    generalize qw d (ja c.rs u) wr c.ts R (ji 0 0 d R) ((m:Int)-ji 0 0 d R+1).toNat=dd at *
    left
    refine ⟨_,_,_,_,fb,rfl,ab,?_,(al.trans bt).put ab⟩
    rw [j6,eF,eS,eG,eD]
    show some (HO.lst [.int _,.int _,.int _,.int _])=some (HO.lst [.int _,.int _,.int _,.int _])
    rw [show (↥71).sum-(mv.take j).sum+(if 0-mk > 0 then 0-mk else 0)=(↥71).sum+(if 0<mk then mk else 0)-((mv.take j).sum+mk) by split <;> split <;> right]
   ·rw [if_neg (λw=>z (bk.mpr w)),lB] at eG
    left
    refine ⟨_,_,_,_,fb,rfl,ab,?_,al⟩
    rw [aL,eF,eS,eG,eD]
    rw [show (↥71).sum-(mv.take j).sum+(if 0-mk > 0 then 0-mk else 0)=(↥71).sum+(if 0<mk then mk else 0)-((mv.take j).sum+mk) by split <;> split <;> right]
  ·rintro σ H3 ⟨x5,x6,x7,x8,fa,rfl,b4,C,f3⟩
   have e1:=FC.ml
   have e2:=FC.l0
   have e3:=FC.l1
   rw [b7,aZ (),aZ (),aZ ()] at C
   left
   refine ⟨fa,_,rfl,SqL.of C,λt H4 ht ce s4=>?_⟩
   exact k t H4 (f3.no ht) ce (f3.trans (FrM.of_same s4))
inductive spTryS (C:Addr) (vs:List V) (H:Hp) (Q:VK) (z_3:XK):Prop
 | mk (p:Addr) (g:IceG) (kd l y:Int) (sk:List (Int×Addr)) (wr:List (Int×T3)) (_:vs=[.ref p,.int kd,.int l,.int y]) (_:IceAt C H p g) (_:g.ys.length=g.rows.length) (_:g.lds.length=g.slopes.length) (_:g.kvs=sk.map kvA) (_:sk.length<64) (_:(∀z∈sk,0<=z.1/\z.1<=99)) (_:xY H sk wr) (_:1<=g.rows.length) (_:g.rows.length<=600) (_: ↥112) (_:(l<0\/ ↥18<=l->∀t H',H' t=some (.tup (noT "NoLane"))->jk H H'->Q (.ref t) H')) (_:(0<=l->l< ↥18->(y<0\/10 ^ 40<y->∀t H',H' t=some (.tup (noT "BadYear"))->jk H H'->Q (.ref t) H') /\
  (0<=y->y<=10 ^ 40->∃(ns ms:List (Int×Int)) (gd:List Int),Zy g l ns/\(∀q∈ns,0<=q.1/\q.1<=99)/\ms.Perm ns/\ (↥111).Pairwise (· <= ·)/\g.slopes.getD l.toNat []=gd/\1<=gd.length/\gd.length<=100/\∀t H',jk H H'->Q (.ref t) H')))
theorem qP:FnScope ["_law_ice","_law_kind","_law_lane","_law_year_here","_law_found","_law_e"] ["_law_ice","_law_kind","_law_lane","_law_year_here"] (j7 zO):=by walk_at "s"
theorem UM (ab:mg "FirnError" = some (.ref CF)) (Y:lQ K (.ref CN) (.ref CF)=some true) (G:lQ K (.ref CY) (.ref CF)=some true)
  (rN:RefK K CY CN CP CB CN false true false false) (rY:RefK K CY CN CP CB CY true false false false)
  (ae:CalX P w K mg base 6 "sums" ["ice","lane","year"] (spSums C CN CY)) (ac:CalX P w K mg base 5 "so_far" ["ice","lane","year"] (spSoFar C CN CY)) (U:CalH P w K mg base 1 "_law_refused" ["_law_e"] (spRefused K CY CN CP CB))
  (F:Fun K "_law_try_sums" "_law_try_sums" zO f fd):FnOk P w K mg base CX0 7 f fd ["_law_ice","_law_kind","_law_lane","_law_year_here"] (spTryS C):=by
 refine F.ok qP ↥29 (λas A outer s H vs Q E o h=>?_)
 ·obtain ⟨p,g,kd,l,y,D,wr,rfl,_⟩:=h
  rfl
 ·obtain ⟨p,g,kd,l,y,D,wr,rfl,I,al,v,ek,V,an,hw,r,am,sg,kN,k⟩:=h
  refine ⟨_,(j5 (jo 4 qP.nd ur)
   (j5 (VC (i:=5) K rfl rfl ab rfl qP.nd rfl rfl (λpn J=>(j9 (jV (jA xW (pv 1) j4 (jF _)) (j9 (jo 4 qP.nd (xD ae (o.mono ⋯) ZO rfl (j0 (pv 0) (j0 (pv 2) (j0 (pv 3) j2)))))) (j9 (jo 4 qP.nd (xD ac (o.mono ⋯) ZO rfl (j0 (pv 0) (j0 (pv 2) (j0 (pv 3) j2))))))))) (λa oe pn=>(j9 (jo 4 qP.nd (UQ U (o.mono (j:=1) ⋯).dp (o.mono (j:=1) ⋯).un rfl (aH _ (List.mem_singleton.mpr rfl)) rfl (j0 (pv 5) j2))))))
   (j9 (jj (pv 4))))),?_⟩
  left
  refine qv (λz=>?_) (λz=>?_)
  ·left
   refine ⟨p,g,l,y,D,wr,rfl,I,v,ek,hw,r,(),sg,(λd=>⟨Y,λa oe m X=>?_⟩),λO N=>?_⟩
   ·left
    refine ⟨_,m,CN,_,_,_,_,rfl,rfl,rN,λt H2 b c=>?_⟩
    show Vu (tVar 4) _ _ _
    left
    exact kN d t H2 b c
   ·obtain ⟨R,k⟩:=k O N
    refine ⟨(λd=>⟨G,λa oe m X=>?_⟩),λB x=>?_⟩
    ·left
     refine ⟨_,m,CY,_,_,_,_,rfl,rfl,rY,λt H2 b c=>?_⟩
     show Vu (tVar 4) _ _ _
     left
     exact R d t H2 b c
    ·obtain ⟨L,M,Z,LD,u,T,S,n,g1,e,k⟩:=k B x
     refine ⟨L,M,Z,LD,T,S,n,g1,e,λt q H' _ b ap s'=>?_⟩
     left
     exact k t H' s'
  ·left
   refine ⟨p,g,l,y,D,wr,rfl,I,al,v,ek,V,an,hw,r,am,sg,(λd=>⟨Y,λa oe m X=>?_⟩),λO N=>?_⟩
   ·left
    refine ⟨_,m,CN,_,_,_,_,rfl,rfl,rN,λt H2 b c=>?_⟩
    show Vu (tVar 4) _ _ _
    left
    exact kN d t H2 b c
   ·obtain ⟨R,k⟩:=k O N
    refine ⟨(λd=>⟨G,λa oe m X=>?_⟩),λB x=>?_⟩
    ·left
     refine ⟨_,m,CY,_,_,_,_,rfl,rfl,rY,λt H2 b c=>?_⟩
     show Vu (tVar 4) _ _ _
     left
     exact R d t H2 b c
    ·obtain ⟨L,M,Z,LD,u,T,S,n,g1,e,k⟩:=k B x
     refine ⟨L,M,Z,LD,u,T,S,n,g1,e,λt H' b s'=>?_⟩
     left
     exact k t H' s'
theorem Eu {w:Str}(h:rj w=true):iz (.tuple [.str "no",.str w,.str "ValueError"])=true:=by
 simp [iz,tF,rm,PyData.depth,sF]
 exact ⟨∅,h,∅⟩
theorem W1 {l n y:Int}{w:Str}(h:uf c l n y=some w):rj w=true:=by
 unfold uf at h
 split at h
 ·split at h
  ·split at h
   ·cases h
   ·cases h;decide +kernel
  ·cases h;decide +kernel
 ·cases h;decide +kernel
theorem ZW {H:Hp}{w:Str}(h:H t=some (.tup (noT w))):Dat H (.ref t) (.tuple [.str "no",.str w,.str "ValueError"]):=.tup h (.cons (.str _) (.cons (.str _) (.cons (.str _) .nil)))
theorem Yl {c:ScN}{l n y:Int}(U:0<=l) (G:l<(c.ws.length:Int)) (Y:c.ws[l.toNat]? = some wy) (z:0<=n) (j:n< ↥133):uf c l n y=if 0<=y/\y<=10 ^ 40 then none else some ("BadYear" : Str):=by
 have a:c.ws.getD l.toNat []=wy:=by rw [ak,Y];rfl
 unfold uf
 rw [a,if_pos ⟨U,G⟩,if_pos ⟨z,j⟩]
theorem V3 {c:ScN}{l n y:Int}(h:l<0\/(c.ws.length:Int)<=l):uf c l n y=some ("NoLane" : Str):=by
 unfold uf
 rw [if_neg ()]
theorem gU.same {j:List V}(h:gU H j qs) (s:jk H H'):gU H' j qs:=Paired.mapP h λ_ _ ⟨b,dl,e,q,d⟩=>⟨b,dl,e,s _ _ q,s _ _ d⟩
theorem VT {ns:List Int}(B:jY L H b) (h:H p=some (.lst ↥129)):p≠b:=λz=>by
 subst z
 obtain ⟨_,_,_,_,_,a,_⟩:=B
 rw [a] at h
 cases ns with
 | nil=>cases h
 | cons x r=>cases h
theorem gU.ext {b:Addr}{j:List V}(h:gU H j qs) (B:jY L H b) (e:Ext b H H'):gU H' j qs:=Paired.mapP h λ_ _ ⟨x,dl,a,q,d⟩=>⟨x,dl,a,e _ _ q (B.ne_tup q),e _ _ d (VT B d)⟩
theorem Es {H:Hp}{o u:Addr}{w:Str}(h:∀z∈([o,u]:List Addr),H z=some (.tup (noT w))) (j:H l=some (.lst [.ref o,.ref u])):Dat H (.ref l) (.list [.tuple [.str "no",.str w,.str "ValueError"],.tuple [.str "no",.str w,.str "ValueError"]]) :=
 .lst j (.cons (ZW (h o (aE ..))) (.cons (ZW (h u (aC _ (aE ..)))) .nil))
theorem QE {w:Str}(h:rj w=true):iz (.list [.tuple [.str "no",.str w,.str "ValueError"],.tuple [.str "no",.str w,.str "ValueError"]])=true:=by
 simp [iz,tF,rm,PyData.depth,sF]
 exact ⟨∅,h,∅⟩
theorem Ql {H:Hp}{a b c d:Int}(h:H t=some (.tup [.int a,.int b,.int c,.int d])):Dat H (.ref t) (.tuple [.int a,.int b,.int c,.int d]):=.tup h (.cons (.int _) (.cons (.int _) (.cons (.int _) (.cons (.int _) .nil))))
theorem xm:FnScope ["_law_script","_law_box_here","_law_scene_here","_law_ice","_law_lane","_law_last","_law_rows","_law_year_here","_law_depths_here","_law_fallen","_law_melted","_law_gone","_law_place","_law_due","_law_found"] ["_law_script"] (j7 vP):=by walk_at "s"
theorem GO (nb:Nb2 mg)
  (bn:Cal P w K mg base 1 "_law_box" ["_law_script"] (spBoxL K)) (U:Cal P w K mg base 2 "_law_take" ["_law_box_here","_law_size"] spTakeL) (a5:Cal P w K mg base 5 "_law_scene" ["_law_box_here"] spScene) (a9:Cal P w K mg base 10 "_law_made" ["_law_scene_here"] (spMade C Pt))
  (bm:Cal P w K mg base 3 "_law_far" ["_law_box_here"] spFar) (a3:Cal P w K mg base 3 "_law_depths" ["_law_scene_here","_law_lane","_law_last"] spDepths) (ap:Cal P w K mg base 4 "_law_far_sums" ["_law_scene_here","_law_lane","_law_year_here"] spFarS)
  (al:Cal P w K mg base 4 "_law_bent_spot" ["_law_box_here","_law_scene_here","_law_year_here"] spBent) (as:Cal P w K mg base 1 "_law_due_spot" ["_law_scene_here","_law_lane","_law_place","_law_year_here"] spDue) (an:Cal P w K mg base 7 "_law_try_sums" ["_law_ice","_law_kind","_law_lane","_law_year_here"] (spTryS C))
  (ac:Cal P w K mg base 3 "_law_alike" ["_law_found","_law_due"] (spAl 2)) (bl:CalX P w K mg base 6 "sums" ["ice","lane","year"] (spSums C CN CY))
  (F:Fun K "law" "law" vP f fd):FnOk P w K mg base CX0 11 f fd ["_law_script"] (spLawT K Pt):=by
 refine F.ok xm ↥29 (λgf A outer s H vs Q E M h=>?_)
 ·obtain ⟨a,ns,rfl,_⟩:=h
  rfl
 ·obtain ⟨a,ns,rfl,hS,f9,fa,k⟩:=h
  have T0:xb H Pt:=.inl fa
  refine ⟨_,(j5 (xa (i:=1) xm.nd rfl (df rfl) (je bn (M.mono ⋯) rfl ↥42))
   (j5 (jo 2 xm.nd (je a5 (M.mono ⋯) rfl ↥34))
   (j5 (xa (i:=3) xm.nd rfl (df rfl) (je a9 (M.mono ⋯) rfl ↥52))
   (j5 (xa (i:=4) xm.nd rfl (df rfl) (je U (M.mono ⋯) rfl (j0 (pv 1) (j0 (jb (jg K) rfl nb.b_len aR (j0 (jy (jM M) (pv 2) jr (λ_ _=>rfl)) j2)) j2))))
   (j5 (xa (i:=5) xm.nd rfl (df rfl) (je U (M.mono ⋯) rfl (j0 (pv 1) (j0 j4 j2))))
   (j5 (jo 6 xm.nd (je a3 (M.mono ⋯) rfl (j0 (pv 2) (j0 (pv 4) (j0 (pv 5) j2)))))
   (zp (xf bp rfl (jT K (jh ua (jD (j0 j4 (j0 (pv 5) j2))) (jG (osc:=(j7 vP)) (ON:=["_law_script","_law_box_here","_law_scene_here","_law_ice","_law_lane","_law_last","_law_rows","_law_year_here","_law_depths_here","_law_fallen","_law_melted","_law_gone","_law_place","_law_due","_law_found"]) (N:=["_law_turn","_law_box_here","_law_last"]) (own:=1) (caps:=[1,5]) ⟨rfl,∅,∅,∅,rfl,∅⟩ rfl rfl rfl (jU rfl nb.b_range (j0 j4 j2)) (λ_ _ _ _ _=>(jc (i:=0) (show aS (["_law_turn","_law_box_here","_law_last"]:List Str) by decide +kernel) rfl (aP rfl))) ↥14 (λ_ _ _ _ _=>(je U (M.mono ⋯) rfl (j0 (pv 1) (j0 (jh jE (pv 2) j4) j2))))))) (jc (i:=7) xm.nd rfl (df rfl)) (j5 (zj (jm (jd K) (pv 6) (pv 7) (λ_ _=>rfl)) (qS (n:=4) K rfl (jn (jc (i:=8) xm.nd rfl (aP rfl)) (jn (jc (i:=9) xm.nd rfl (aP rfl)) (jn (jc (i:=10) xm.nd rfl (aP rfl)) (jn (jc (i:=11) xm.nd rfl (aP rfl)) qz))))))
   (j9 (jV (xn (zN (je ac (M.mono ⋯) rfl (j0 (je bl.cal (M.mono ⋯) rfl (j0 (pv 3) (j0 (pv 4) (j0 (pv 7) j2)))) (j0 (qa (j0 (pv 9) (j0 (pv 10) (j0 (pv 11) (j0 (jb (xN K rfl) rfl nb.b_sum fX (j0 (pv 8) j2)) j2))))) j2))))) (j9 (jj Ju)) jw))))
   (j5 (xa (i:=7) xm.nd rfl (df rfl) (jh jE j4 (je bm (M.mono ⋯) rfl ↥34)))
   (zp (jV (xn (zN (je ac (M.mono ⋯) rfl (j0 (je bl.cal (M.mono ⋯) rfl (j0 (pv 3) (j0 (pv 4) (j0 (pv 7) j2)))) (j0 (je ap (M.mono ⋯) rfl (j0 (pv 2) (j0 (pv 4) (j0 (pv 7) j2)))) j2))))) (j9 (jj Ju)) jw)
   (j5 (zj (je al (M.mono ⋯) rfl (j0 (pv 1) (j0 (pv 2) (j0 j4 j2)))) (qS (n:=3) K rfl (jn (jc (i:=4) xm.nd rfl (df rfl)) (jn (jc (i:=12) xm.nd rfl (aP rfl)) (jn (jc (i:=7) xm.nd rfl (df rfl)) qz)))))
   (zp (jo 13 xm.nd (je as (M.mono ⋯) rfl (j0 (pv 2) (j0 (pv 4) (j0 j4 (j0 (pv 7) j2))))))
   (j5 (yR (j:=14) (osc:=(j7 vP)) (ON:=["_law_script","_law_box_here","_law_scene_here","_law_ice","_law_lane","_law_last","_law_rows","_law_year_here","_law_depths_here","_law_fallen","_law_melted","_law_gone","_law_place","_law_due","_law_found"]) (N:=["_law_kind","_law_ice","_law_lane","_law_year_here"]) (own:=1) (caps:=[3,4,7]) ⟨rfl,∅,∅,∅,rfl,∅⟩ xm.nd rfl (aP rfl) rfl rfl rfl (jU rfl nb.b_range (j0 j4 j2)) (λ_ _ _ _ _=>(jc (i:=0) (show aS (["_law_kind","_law_ice","_law_lane","_law_year_here"]:List Str) by decide +kernel) rfl (aP rfl))) ↥14 (λ_ _ _ _ _=>(je an (M.mono ⋯) rfl (j0 (pv 1) (j0 (pv 0) (j0 (pv 2) (j0 (pv 3) j2)))))))
   (j9 (jj (Er (xX ZH (pv 13) ur (jF _)) (yT (xX (Wg K M.units) (pv 14) (jD (j0 (pv 13) (j0 (pv 13) j2))) (jF _)))))))))))))))))),?_⟩
  left
  refine ⟨a,ns,rfl,hS,λL b H1 hb B1 s1=>?_⟩
  have T1:=T0.same s1
  left
  refine ⟨L,b,rfl,B1,λJ H2 c B2 X2 S2 O=>?_⟩
  have T2:=UW B1 X2 T1
  left
  refine ⟨J,b,c,rfl,S2,O,T2,λp H3 g I3 F3 R3 T3 er et es ek el ld ny nd=>?_⟩
  have W3:Lw C L b J p c g H2 H3:=Lw.start S2 O B2 T2 I3 F3 R3
  have kk:Lk c g:=⟨er,et,es,ek,el,ld,ny,nd⟩
  clear I3 R3 T3 er et es ek el ld ny nd
  have eG:1<=c.ws.length:=by
   rw [O.ro.length]
   exact Jy (qt O.gr.ok) O.l1
  have eF:c.ws.length<=6:=by rw [O.ro.length];exact O.gr.heads
  have ei:∀w∈c.ws,1<=(ja c.rs w).length/\(ja c.rs w).length<=30:=λw hw=>⟨gQ O.gr O.ro hw,(wN (O.gr.good O.l1 O.l8)).2.2.2 c.ws O.ro w hw⟩
  have dy:g.lds.length=g.slopes.length:=by rw [kk.ll,O.ldl,kk.sl,ag]
  have t1:=O.t1
  have t2:=O.t2
  obtain ⟨wr,cd⟩:=xY.of W3.S.sk
  have cv:=cd.good W3.S.sk
  have a1:=λy=>U5 cv O.tg t1 y
  have ex:c.zs.length=c.ws.length:=(aV W3.S.gi).trans (ag _)
  have eT:g.slopes.length=c.ws.length:=by rw [kk.sl,ag]
  have e4:∀{H':Hp},ScAt H' J c->qM H' J (.str "grounds") (some (.ref c.gl)):=λS'=>by rw [<- qI c.p c.q c.sg c.gl c.ll];exact qM.k (k:=.inr "grounds") S'.sd
  have k3:=O.k3
  have db:∀(H3:Hp) (l:Int) (y:Nat) (wy:List Int) (da:Addr) (dn ms:List (Int×Int)) (Q':VK),Lw C L b J p c g H2 H3->xY H3 c.sk wr->LaneF c g l wy da dn->ms.Perm dn->(↥111).Pairwise (· <= ·)->(y:Int)<=10 ^ 40->(∀t q H4,q=ql ms (ja c.rs wy) wr c.ts 0 y->H3 t=none->H4 t=some ↥120->jk H3 H4->Q' (.ref t) H4)->spSums C CN CY [.ref p,.int l,.int (y:Int)] H3 Q' E0:=λH3 l y wy da dn ms Q' W' ch LF hp hs y1 kq=>by
   have fb:=LF.g30
   have l0:=LF.l0
   have l1:=LF.l1
   refine ⟨p,g,l,(y:Int),c.sk,wr,rfl,W'.I,dy,kk.kv,ch,by rw [kk.rows];exact t1,by rw [kk.rows];right,by rw [kk.rows];exact a1,(λhb=>absurd hb ()),λ_ _=>⟨λhb=>absurd hb (),λ_ _=>⟨dn,ms,ja c.rs wy,LF.at_,hp,hs,LF.sl,LF.g1,(),?_⟩⟩⟩
   rw [kk.rows,b7]
   exact kq
  left
  refine ⟨J,.ref c.gl,rfl,e4 W3.S,?_⟩
  left
  refine ⟨c.gl,_,rfl,.inl (SqL.of W3.S.gl),?_⟩
  rw [ex]
  left
  refine ⟨L,b,_,rfl,W3.B,⟨(),()⟩,λln H4 ev eu B4 X4=>?_⟩
  have W4:=W3.take B4 X4
  have ds:=cd.keep (zk W3.B X4)
  clear W3 cd
  obtain ⟨wy,da,dn,LF⟩:=kk.lane O ev eu
  obtain ⟨ms,hp,hs⟩:=uk dn
  have f2:=LF.l10
  have fb:=LF.g30
  have g1:=LF.g1
  left
  refine ⟨L,b,_,rfl,W4.B,⟨⋯,⋯⟩,λb6 H5 fo fl B5 X5=>?_⟩
  have W5:=W4.take B5 X5
  have ce:=ds.keep (zk W4.B X5)
  clear W4 ds
  obtain ⟨T,rfl⟩:∃T:Nat,b6=(T:Int):=⟨b6.toNat,()⟩
  left
  refine ⟨J,c,g,ln,(T:Int),wy,da,dn,ms,wr,rfl,W5.S,LF,hp,ce,t1,(),a1,(),(),λro dd H6 dx bt r6 f6=>?_⟩
  rw [show ((T:Int)+1).toNat=T+1 by right] at r6
  have en:=W5.B.ne dx
  have W6:=W5.fr f6
  have bs:=ce.keep (FrM.keepT f6)
  clear W5 ce
  have e1:dd.length=T+1:=(aV r6).trans (by unfold xc;rw [ag,bG])
  left
  refine ⟨λσ H9=>∃v7 v8 v9 D r Z Y m:Option V,σ=[some (.ref a),some (.ref b),some (.ref J),some (.ref p),some (.int ln),some (.int (T:Int)),some (.ref ro),v7,v8,v9,D,r,Z,Y,m]/\Lw C L b J p c g H2 H9/\xY H9 c.sk wr,?_,?_⟩
  ·left
   refine ⟨by show 2<=sizeLine;decide,λew H9 eg b2 s9=>?_⟩
   have X:=W6.same s9
   have aL:=bs.keep (jq.same s9)
   have ci:=s9 _ _ bt
   have r9:=r6.same s9
   have d3:=W6.B.ne eg
   clear W6 bs bt r6
   left
   refine ⟨⋯,⋯,λacc ae=>?_⟩
   have b5:=X.B.ne ae
   have dg:=X.B.neL ae
   refine qr (lo:=0) (n:=(8:Int).toNat) (acc:=acc) (λi σ H3=>∃(x:Option V) (dr:List Int),σ=[x,some (.ref b),some (.int (T:Int))]/\jY L H3 b/\H3 acc=some (.lst (dr.map V.int))/\dr.length=i/\(∀x∈dr,0<=x/\x<=(T:Int))/\Ext b H9 H3) ?_ ?_ ?_
   ·exact ⟨none,[],rfl,X.B.put b5 dg,j6,rfl,(by intro x hx;cases hx),Ext.new ae⟩
   ·rintro i σ H3 hi ⟨x,dr,rfl,B3,h3,e2,e9,e3⟩
    have f7:i<8:=hi
    left
    refine ⟨L,b,_,rfl,B3,⟨(),()⟩,λv H4 p4 q4 B4 X4=>?_⟩
    have h4:=X4 _ _ h3 b5
    refine ⟨_,h4,by rw [ag];exact jf (),_,dr++[v],rfl,B4.put b5 dg,by rw [j6,aq];rfl,by rw [aw,e2];rfl,λx hx=>?_,λc o hc n=>?_⟩
    ·rcases List.mem_append.mp hx with hx | hx
     ·exact e9 x hx
     ·have:x=v:=by simpa using hx
      right
    ·rw [j8 (j1 hc ae)]
     exact X4 _ _ (e3 c o hc n) n
   rintro σ d1 ⟨x,dr,rfl,ct,dK,eh,cm,a0⟩
   have am:=X.take ct a0
   have R:=aL.keep (zk X.B a0)
   have dc:=r9.ext X.B a0
   have b1:=a0 _ _ ci en
   have bi:=a0 _ _ b2 d3
   clear X aL r9 ci b2
   have c9:dr.length=8:=eh
   left
   refine ⟨ew,acc,_,_,rfl,rfl,bi,dK,by rw [ag,c9];show 2+8<=sizeLine;decide,λyl d f3 a2 ab=>?_⟩
   have a2:d yl=some (.lst ((0::(T:Int)::dr).map V.int)):=a2
   have eD:∀y∈0::(T:Int)::dr,0<=y/\y<=(T:Int):=λy hy=>by
    rcases List.mem_cons.mp hy with rfl | hy
    ·right
    ·rcases List.mem_cons.mp hy with rfl | hy
     ·right
     ·exact cm y hy
   have b4:=am.same ab
   have a8:=R.keep (jq.same ab)
   have eo:=dc.same ab
   have c2:=ab _ _ b1
   clear am R dc b1 bi dK cm
   left
   refine ⟨⟨_,SqL.of a2⟩,?_⟩
   refine gh (K:=K) (a:=yl) (xs:=(0::(T:Int)::dr).map V.int) (λi σ H12=>∃v7 v8 v9 D r Z Y m:Option V,σ=[some (.ref a),some (.ref b),some (.ref J),some (.ref p),some (.int ln),some (.int (T:Int)),some (.ref ro),v7,v8,v9,D,r,Z,Y,m]/\jk d H12) ?_ ?_ ?_ ?_
   ·exact ⟨_,_,_,_,_,_,_,_,rfl,jk.refl _⟩
   ·rintro i σ H12 hi ⟨v7,v8,v9,D,r,Z,Y,m,rfl,e⟩
    exact SqL.of (e _ _ a2)
   ·rintro i v σ H12 eH ⟨v7,v8,v9,D,r,Z,Y,m,rfl,e⟩
    obtain ⟨y,rfl,hy⟩:=xG eH
    obtain ⟨y0,y1⟩:=eD y (aA hy)
    obtain ⟨yn,rfl⟩:∃yn:Nat,y=(yn:Int):=⟨y.toNat,()⟩
    have cb:yn<dd.length:=()
    obtain ⟨q,hq,bq,dl,eb,e8,e6⟩:=Paired.get (eo.same e) (aa cb)
    have hq:ql ms (ja c.rs wy) wr c.ts 0 yn=q:=by
     unfold xc at hq
     rw [ax,eA ()] at hq
     exact aI hq
    have e7:∀x∈q.2.2.2,0<=x/\x<=9*((yn+1:Nat):Int):=by
     rw [<- hq]
     exact vz (ns:=ms) (gd:=ja c.rs wy) (fst:=0) a1 (yn+1)
    have f8:q.2.2.2.length=(ja c.rs wy).length:=by rw [<- hq];exact qf ms (ja c.rs wy) wr c.ts 0 (yn+1)
    left
    refine ⟨_,_,_,_,rfl,rfl,SqL.of (e _ _ c2),qo (v:=V.ref bq) () (by rw [b7,aa cb,eb]),?_⟩
    refine ⟨bq,_,rfl,SqT.of e8,rfl,?_⟩
    refine ⟨_,_,rfl,_,_,rfl,_,_,rfl,_,_,rfl,rfl,?_⟩
    left
    simp only [vO,aJ]
    refine db H12 ln yn wy da dn ms _ (b4.same e) (a8.keep (jq.same e)) LF hp hs (pZ (show (yn:Int)<=60 by right) ⋯) λfz q' d0 bk fs cL a7=>?_
    rw [hq] at bk
    subst bk
    left
    refine ⟨dl,_,rfl,SqL.of (a7 _ _ e6),(),λn hn=>by have:=e7 n hn;right,?_⟩
    left
    refine ⟨by show 4<=sizeLine;decide,λfx dV fp cy a6=>?_⟩
    left
    simp only [vO,aJ]
    refine ⟨_,_,_,rfl,Ql (a6 _ _ cL),Ql cy,rfl,λgg em=>?_⟩
    left
    exact ⟨_,_,_,_,_,_,_,_,rfl,e.trans (a7.trans (a6.trans em))⟩
   ·rintro σ H12 ⟨v7,v8,v9,D,r,Z,Y,m,rfl,e⟩
    exact ⟨_,_,_,_,_,_,_,_,rfl,b4.same e,a8.keep (jq.same e)⟩
  ·clear W6 bs bt r6 dx f6 e1
   rintro σ H7 ⟨v7,v8,v9,D,r,Z,Y,m,rfl,W7,dp⟩
   left
   refine ⟨L,b,rfl,W7.B,λfy H8 gc gb B8 X8=>?_⟩
   have W8:=W7.take B8 X8
   have b0:=dp.keep (zk W7.B X8)
   clear W7 dp
   obtain ⟨yn,ey⟩:∃yn:Nat,1+fy=(yn:Int):=⟨(1+fy).toNat,()⟩
   left
   rw [ey]
   refine ⟨λσ H9=>∃v7 v8 v9 D r Z Y m:Option V,σ=[some (.ref a),some (.ref b),some (.ref J),some (.ref p),some (.int ln),some (.int (T:Int)),some (.ref ro),v7,v8,v9,D,r,Z,Y,m]/\Lw C L b J p c g H2 H9/\xY H9 c.sk wr,?_,?_⟩
   ·left
    simp only [vO,aJ]
    refine db H8 ln yn wy da dn ms _ W8 b0 LF hp hs () λt9 q H9 eq f4 ea s9=>?_
    have X:=W8.same s9
    have aL:=b0.keep (jq.same s9)
    clear W8 b0
    left
    simp only [vO,aJ]
    refine ⟨J,c,g,ln,(yn:Int),wy,da,dn,ms,wr,rfl,X.S,LF,hp,hs,aL,t1,(),(),λf0 q' d1 bk fu c1 cs=>?_⟩
    rw [b7,<- eq] at bk
    subst bk
    have am:=X.fr cs
    have R:=aL.keep (FrM.keepT cs)
    left
    refine ⟨_,_,_,rfl,Ql (cs.at ea ↥1),Ql c1,rfl,λd ab=>?_⟩
    left
    exact ⟨_,_,_,_,_,_,_,_,rfl,am.same ab,R.keep (jq.same ab)⟩
   ·clear W8 b0 B8 X8
    rintro σ H9 ⟨v7,v8,v9,D,r,Z,Y,m,rfl,X,aL⟩
    left
    refine ⟨L,b,J,c,3,rfl,X.B,X.S,O,eG,eF,ei,λl2 n2 y2 t d1 ct a0 ht eS=>?_⟩
    have am:=X.take ct a0
    have R:=aL.keep (zk X.B a0)
    clear X aL
    left
    refine ⟨t,_,rfl,SqT.of eS,rfl,?_⟩
    refine ⟨_,_,rfl,_,_,rfl,_,_,rfl,rfl,?_⟩
    left
    have d2:∀(d:Hp) (kd:Int) (Q':VK),Lw C L b J p c g H2 d->xY d c.sk wr->(∀t' H12,(∀w,uf c l2 0 y2=some w->H12 t'=some (.tup (noT w)))->jk d H12->Q' (.ref t') H12)->spTryS C [.ref p,.int kd,.int l2,.int y2] d Q' E0:=λd kd Q' W' ch kq=>by
     refine ⟨p,g,kd,l2,y2,c.sk,wr,rfl,W'.I,aV W'.I.rows,dy,kk.kv,(),(λz hz=>O.k2 z hz),ch,by rw [kk.rows];exact t1,by rw [kk.rows];right,by rw [kk.rows];exact a1,(λhb t' H' bd s'=>kq t' H' (λw G=>?_) s'),λh0 h1=>?_⟩
     ·rw [V3 (by rw [<- eT];exact hb)] at G
      cases G
      exact bd
     ·obtain ⟨ej,ge,dT,a4⟩:=kk.lane O h0 ()
      obtain ⟨ep,e0,eU⟩:=uk dT
      have ga:=a4.g1
      have fw:=a4.g30
      have dD:=Yl (y:=y2) h0 () a4.way (dm 0) ()
      refine ⟨λhy t' H' bd s'=>kq t' H' (λw G=>?_) s',λy0 y1=>⟨dT,ep,ja c.rs ej,a4.at_,(λq hq=>by have:=a4.b q hq;right),e0,eU,a4.sl,a4.g1,(),λt' H' s'=>kq t' H' (λw G=>?_) s'⟩⟩
      ·rw [dD,if_neg ()] at G
       cases G
       exact bd
      ·rw [dD,if_pos ⟨y0,y1⟩] at G
       cases G
    refine ⟨λσ d=>∃(v8 v9 D r m:Option V) (dv:V),σ=[some (.ref a),some (.ref b),some (.ref J),some (.ref p),some (.int l2),some (.int (T:Int)),some (.ref ro),some (.int y2),v8,v9,D,r,some (.int n2),some dv,m]/\Lw C L b J p c g H2 d/\xY d c.sk wr/\((uf c l2 0 y2=none/\dv = .non)\/∃w t3,uf c l2 0 y2=some w/\dv = .ref t3/\d t3=some (.tup (noT w))),?_,?_⟩
    ·left
     refine ⟨J,c,l2,0,y2,rfl,am.S,λG=>?_,λw t3 d G dt ed ab=>?_⟩
     ·exact ⟨_,_,_,_,_,_,rfl,am,R,.inl ⟨G,rfl⟩⟩
     ·exact ⟨_,_,_,_,_,_,rfl,am.same ab,R.keep (jq.same ab),.inr ⟨w,t3,G,rfl,ed⟩⟩
    clear am R
    rintro σ d ⟨v8,v9,D,r,m,dv,rfl,b4,a8,e5⟩
    left
    refine ⟨⋯,⋯,λacc ae=>?_⟩
    refine qr (lo:=0) (n:=(2:Int).toNat) (acc:=acc) (λj σ H12=>∃(x:Option V) (zs:List Addr),σ=[x,some (.ref p),some (.int l2),some (.int y2)]/\H12 acc=some (.lst (zs.map V.ref))/\zs.length=j/\(∀w,uf c l2 0 y2=some w->∀z∈zs,H12 z=some (.tup (noT w)))/\Ext acc d H12) ?_ ?_ ?_
    ·exact ⟨none,[],rfl,j6,rfl,(λw _ z hz=>by cases hz),Ext.put⟩
    ·rintro j σ H12 hj ⟨x,zs,rfl,cr,bv,br,b3⟩
     have f5:j<2:=hj
     have e:jk d H12:=λc o hc=>b3 c o hc (j1 hc ae)
     left
     simp only [vO,aJ]
     refine d2 H12 _ _ (b4.same e) (a8.keep (jq.same e)) λt' d0 bd a7=>?_
     have dF:=a7 _ _ cr
     left
     refine ⟨_,dF,by rw [ag];exact jf (),_,zs++[t'],rfl,by rw [j6,aq];rfl,by rw [aw,bv];rfl,λw G z hz=>?_,λc o hc n=>by rw [j8 n];exact a7 _ _ (b3 c o hc n)⟩
     have dk:d0 z=some (.tup (noT w)):=by
      rcases List.mem_append.mp hz with h | h
      ·exact a7 _ _ (br w G z h)
      ·rw [List.mem_singleton.mp h]
       exact bd w G
     rw [j8 (jp dk dF ↥4)]
     exact dk
    rintro σ H12 ⟨x,zs,rfl,cr,bv,br,b3⟩
    have e:jk d H12:=λc o hc=>b3 c o hc (j1 hc ae)
    rcases e5 with ⟨G,rfl⟩ | ⟨w,t3,G,rfl,dt⟩
    ·left
     exact k H12
    ·have cl:=W1 G
     have ec:=e _ _ dt
     obtain ⟨o,u,rfl⟩:∃o u,zs=[o,u]:=by
      match zs,bv with
      | [o,u],_=>exact ⟨o,u,rfl⟩
     left
     refine ⟨by show 2<=sizeLine;decide,λf1 dV fv c4 a6=>?_⟩
     refine ⟨λ_=>False,λ_=>False,_,_,Dat.rep (λ_=>id) (Es (λz hz=>a6 _ _ (br w G z hz)) (a6 _ _ cr)),Dat.rep (λ_=>id) (Es (w:=w) (λz hz=>by rw [show z=t3 by simpa using hz];exact a6 _ _ ec) c4),QE cl,QE cl,?_⟩
     rw [SeqAt.eqv_refl _ (SeqAt.canLay_of_shaped (QE cl))]
     exact k dV
end
local macro_rules | `(tactic| walk_at "1")=>`(tactic| exact fun _ _ _ _ _ _ _ hl=>bnd1 hl fun _=>rfl)
local macro_rules | `(tactic| walk_at "2")=>`(tactic| exact fun _ _ _ _ _ _ _ hl=>bnd2 hl fun _ _=>rfl)
local macro_rules | `(tactic| walk_at "3")=>`(tactic| exact fun _ _ _ _ _ _ _ hl=>bnd3 hl fun _ _ _=>rfl)
local macro_rules | `(tactic| walk_at "4")=>`(tactic| exact fun _ _ _ _ _ _ _ hl=>bnd4 hl fun _ _ _ _=>rfl)
local macro_rules | `(tactic| walk_at "5")=>`(tactic| exact fun _ _ _ _ _ _ _ hl=>bnd5 hl fun _ _ _ _ _=>rfl)
local macro_rules | `(tactic| walk_at "6")=>`(tactic| exact fun _ _ _ _ _ _ _ hl=>bnd6 hl fun _ _ _ _ _ _=>rfl)
theorem G6 {l:su}{K:ah}(X:K.In h) (G:h.Ns mainGlobals mg) (e1:mg "law" = some (.ref fa))
  
  {C0:Addr}
  {C1:Addr}
  {C2:Addr}
  {C3:Addr}
  {C4:Addr}
  {C5:Addr}
  {C6:Addr}
  {C7:Addr}
  {C8:Addr}
  
  
  
  
  
  
  
  
  
  
  
  (e7:aY K mainGlobals "Ice" = some (some (.ref CI))) (ew:fN K CI Str.empty=true) (e3:ik K CI=true) (ev:lW K CI=true) (et:bV K (.ref CI) "__setattr__" = some (some (.builtin "object.__setattr__"))) (eS:mU K CI=true) (eU:c3 K (.ref CI)=true)
  (eH:bV K (.ref CI) "valley" = some none)
  (eG:bV K (.ref CI) "cycle" = some none)
  (eF:bV K (.ref CI) "slopes" = some none)
  (eD:bV K (.ref CI) "years" = some none)
  (ey:bV K (.ref CI) "leaps" = some none)
  (a1:gN K "leads_on" ul)
  (a2:gN K "is_reach" yK)
  (a3:gN K "way_down" uo)
  (a4:aY K mainGlobals "lanes" = some (some (.ref f4))) (l4:K.lookup f4=some ⟨hp,ho,.func (bN "lanes" "lanes" (qg xq) (jS xq) (j7 xq) .none hq hr hn ht (.ref cL) hs),hm⟩) (c4:cQ K (.ref cL) "lanes" = true) (k4:c3 K (.ref f4)=true) (e2:PySem.W.codeHdIn K cL 154=true)
  (a5:gN K "way_of" Ja)
  (a6:gN K "count_places" xZ)
  (a7:gN K "fits" Qb)
  (a8:gN K "is_valley" y6)
  (a9:gN K "heights" vT)
  (hg:gN K "is_weather" yW)
  (hf:gN K "change" gk)
  (he:gN K "is_round" yZ)
  (hd:gN K "check_round" yo)
  (hc:gN K "check_told" yY)
  (hb:gM K CI "__init__" "Ice.__init__" xi)
  (ha:gM K CI "check_lane" "Ice.check_lane" xT)
  (g9:gM K CI "check_place" "Ice.check_place" xK)
  (g8:gM K CI "length" "Ice.length" yr)
  (g7:gM K CI "height" "Ice.height" yk)
  (g6:gM K CI "sky" "Ice.sky" ux)
  (g5:gM K CI "tell" "Ice.tell" vq)
  (g4:gM K CI "surge" "Ice.surge" yP)
  (g3:gM K CI "surges" "Ice.surges" zo)
  (g2:gN K "check_asked" yh)
  (g1:gM K CI "rows" "Ice.rows" vL)
  (g0:gM K CI "told" "Ice.told" ya)
  (gT:gN K "settled" yx)
  (gO:gN K "course" za)
  (gI:gN K "total" kh)
  (gF:gN K "so_far" uJ)
  (gD:gN K "year_row" uB)
  (gx:gN K "sums" Zn)
  (gw:gN K "_law_box" wC)
  (gu:gN K "_law_mixed" vB)
  (gt:gN K "_law_take" ut)
  (gs:gN K "_law_whole" vF)
  (dy:gN K "_law_alike" zx)
  (gn:gN K "_law_far" wz)
  (gl:gN K "_law_odd" wE)
  (gi:gN K "_law_weather" yj)
  (ge:gN K "_law_round" y7)
  (gd:gN K "_law_ground_drawn" qJ)
  (gc:gN K "_law_reaches" xB)
  (gb:gN K "_law_roads" zu)
  (ga:gN K "_law_ground" vc)
  (f9:gN K "_law_year" um)
  (f8:gN K "_law_scene" zt)
  (f7:gN K "_law_made" uq)
  (f6:gN K "_law_row" ww)
  (f5:gN K "_law_wish" uu)
  (f3:gN K "_law_ride" ve)
  (f2:gN K "_law_marks" zY)
  (f1:gN K "_law_spot" uy)
  (f0:gN K "_law_refused" xl)
  (fz:gN K "_law_due_spot" zV)
  (fy:gN K "_law_bent_spot" zD)
  (fx:gN K "_law_span" vf)
  (fw:gN K "_law_life" uv)
  (fv:gN K "_law_depths" xS)
  (fu:gN K "_law_life_at" yq)
  (fo:gN K "_law_depth" yc)
  (fb:gN K "_law_far_sums" zd)
  (e9:gN K "_law_try_sums" zO)
  (e8:aY K mainGlobals "law" = some (some (.ref dK))) (eT:K.lookup dK=some ⟨hk,hj,.func (bN "law" "law" (qg vP) (jS vP) (j7 vP) .none eg eh eb ej dt ei),hh⟩) (e6:cQ K dt "law" = true) (e0:c3 K (.ref dK)=true)
  (ea:gE K "BadValley" C0)
  (d3:gE K "BadRound" C1)
  (d2:gE K "NoLane" C2)
  (d1:gE K "BadYear" C3)
  (d0:gE K "BadWeather" C4)
  (dV:gE K "BadSurge" C5)
  (dT:gE K "NoPlace" C6)
  (e5:gE K "BadHand" C7)
  (e4:gE K "FirnError" C8)
  (ed:lQ K (.ref C2) (.ref C8)=some true)
  (ec:lQ K (.ref C3) (.ref C8)=some true)
  (rN:RefK K C3 C2 C6 C7 C2 false true false false)
  (rY:RefK K C3 C2 C6 C7 C3 true false false false)
  (z0:aY K mainGlobals "len" = some none)
  (z1:aY K mainGlobals "range" = some none)
  (z2:aY K mainGlobals "isinstance" = some none)
  (z3:aY K mainGlobals "int" = some none)
  (z4:aY K mainGlobals "bool" = some none)
  (z5:aY K mainGlobals "str" = some none)
  (z6:aY K mainGlobals "list" = some none)
  (z7:aY K mainGlobals "tuple" = some none)
  (z8:aY K mainGlobals "min" = some none)
  (z9:aY K mainGlobals "max" = some none)
  (er:aY K mainGlobals "all" = some none)
  (eq:aY K mainGlobals "zip" = some none)
  (ep:aY K mainGlobals "enumerate" = some none)
  (eo:aY K mainGlobals "sorted" = some none)
  (en:aY K mainGlobals "sum" = some none)
  (em:aY K mainGlobals "dict" = some none)
  (el:aY K mainGlobals "ValueError" = some none)
  (ek:aY K mainGlobals "abs" = some none)
  (q0:aY K mainGlobals "MOST_REACHES" = some (some (.int 8 u0)))
  (q1:aY K mainGlobals "MOST_HEIGHTS" = some (some (.int 12 u1)))
  (q2:aY K mainGlobals "GREATEST_HEIGHT" = some (some (.int 99 u2)))
  (q3:aY K mainGlobals "MOST_LANES" = some (some (.int 6 u3)))
  (q4:aY K mainGlobals "LONGEST_LANE" = some (some (.int 30 u4)))
  (q5:aY K mainGlobals "HIGHEST_LINE" = some (some (.int 100 u5)))
  (q6:aY K mainGlobals "MOST_HANDS" = some (some (.int 9 u6)))
  (q7:aY K mainGlobals "MOST_ROWS" = some (some (.int 12 u7)))
  (q8:aY K mainGlobals "LAST_TOLD" = some (some (.int 99 u8)))
  (q9:aY K mainGlobals "LAST_ASKED" = some (some (.int 10000000000000000000000000000000000000000 u9)))
  (eu:aY K mainGlobals "GREATEST_SURGE" = some (some (.int 9 hl)))
  : ∃fd:FuncData,(∀(s:Shared) (v:aj),pI s fd ⟨[v],[]⟩ [("_law_script",v)])/\∀base:Heap,K.In base->base.Ns mainGlobals mg->Bm mg base->FnOk l.prog w K mg base CX0 11 fa fd ["_law_script"] (spLawT K 154):=by
 have e:=e1.symm.trans (bo X G e8)
 cases e
 have c:Nb2 mg:={ b_len:=bh X G z0,b_range:=bh X G z1,b_isinstance:=bh X G z2,b_int:=bh X G z3,b_bool:=bh X G z4,b_str:=bh X G z5,b_list:=bh X G z6,b_tuple:=bh X G z7,b_min:=bh X G z8,b_max:=bh X G z9,b_all:=bh X G er,b_zip:=bh X G eq,b_enumerate:=bh X G ep,b_sorted:=bh X G eo,b_sum:=bh X G en }
 have dx:=bh X G em
 have bd:=bh X G el
 have dF:=bh X G ek
 have H:=bo X G q0
 have I:=bo X G q1
 have A:=bo X G q2
 have ae:=bo X G q3
 have J:=bo X G q4
 have L:=bo X G q5
 have al:=bo X G q6
 have bk:=bo X G q7
 have bl:=bo X G q8
 have am:=bo X G q9
 have C:=bo X G eu
 have bn:=bo X G ea.e
 have bi:=ea.x
 have cd:=bo X G d3.e
 have b6:=d3.x
 have D:=bo X G d2.e
 have ab:=d2.x
 have p:=bo X G d1.e
 have R:=d1.x
 have an:=bo X G d0.e
 have ac:=d0.x
 have cb:=bo X G dV.e
 have b5:=dV.x
 have S:=bo X G dT.e
 have c2:=dT.x
 have c9:=bo X G e5.e
 have bm:=bo X G e4.e
 have d:Cls K CI:=⟨ew,e3,ev,et⟩
 have i:IceC K CI:=⟨d,eH,eG,eF,eD,ey⟩
 refine ⟨bN "law" "law" (qg vP) (jS vP) (j7 vP) .none eg eh eb ej dt ei,λs v=>.of_eq rfl,λbase es _ ex=>?_⟩
 have CH:=PySem.W.codeHd_of_K es e2
 have z:Zt l.prog w K mg base:=⟨X,G⟩
 have ci:=a1.cal z ↥36 (QN)
 have cy:=a2.cal z ↥36 (Xx c I A ci)
 have ch:=a3.cal z ↥36 (QJ c)
 have P:Cal l.prog w K mg base 5 "lanes" ["reaches"] (spLanes K 154):=Cal.mkC (st:=xq) X G a4 l4 c4 k4 ↥44 (U0 c ch CH ex l4 c4)
 have dn:=a5.calX z ↥36 (YD c D ab P)
 have Q:=a6.cal z ↥36 (wX c)
 have dv:=a7.cal z ↥36 (UD c ae J Q)
 have b1:=a8.cal z ↥44 (Qo c H cy P dv)
 have dk:=a9.calX z ↥36 (Zg c dn)
 have t:=hg.cal z ↥44 (Jg L al)
 have dr:=hf.cal z ↥36 (YO)
 have cv:=he.cal z ↥44 (XI c.toNb bk t)
 have Y:=hd.calX z ↥44 (J9 c cd b6 cv)
 have u:=hc.calX z ↥44 (Jf bl p R)
 have dD:=hb.mak z eS eU e7 ↥93 (wx c i bn bi b1 Y P dk.cal)
 have b:=ha.calX z ↥36 (uz c i D ab)
 have y:=g9.calX z ↥93 (uc c i S c2 d b)
 have j:=g8.calX z ↥36 (kL c i d b)
 have Z:=g7.calX z ↥93 (gP c i d y)
 have c1:=g6.cal z ↥36 (Xh c i)
 have b3:=g5.calX z ↥93 (Q7 c i an ac u t)
 have a0:=g4.calX z (by walk_at "4") (Jl c i d C cb b5 b u)
 have o:=g3.calX z ↥36 (gj c i d b)
 have n:=g2.calX z ↥44 (gv am p R)
 have b4:=g1.cal z ↥44 (Q6 c i)
 have b2:=g0.cal z ↥44 (Qh c i)
 have db:=gT.calX z ↥36 (ZE c d b2 o j)
 have aL:=gO.calX z (by walk_at "4") (YB c dx d o j dr c1 Z)
 have ds:=gI.cal z ↥36 (Uc c)
 have dp:=gF.calX z ↥93 (YQ c d b n db b4 aL ds)
 have ce:=gD.calX z ↥93 (XH c d j aL)
 have da:=gx.calX z ↥93 (Wc c d b n ce)
 have dg:=gw.cal z ↥44 (Go c.toNb)
 have bt:=gu.cal z ↥36 (U7)
 have a:=gt.cal z ↥36 (UK c.toNb bt)
 have B:=gs.cal z ↥44 (Vs c)
 have f:=dy.cal z ↥36 (Yj)
 have f:=dy.cal z ↥36 (JQ 0 c B f)
 have f:=dy.cal z ↥36 (JQ 1 c B f)
 have dd:=gn.cal z ↥44 (Gv c a)
 have dc:=gl.cal z ↥44 (WI a)
 have m:=gi.cal z ↥44 (Zd a)
 have br:=ge.cal z ↥44 (Uq c.toNb a m)
 have r:=gd.cal z ↥93 (k9 c a)
 have U:=gc.cal z ↥44 (Z7 c a r)
 have bs:=gb.cal z ↥44 (Vx c)
 have ap:=ga.cal z ↥36 (V9)
 have cl:=f9.cal z ↥44 (Wj a)
 have bq:=f8.cal z ↥44 (Vo c a U br ap bs cl m)
 have cs:=f7.cal z ↥44 (UL c d dD b3 a0)
 have q:=f6.cal z ↥36 (G8 c)
 have k:=f5.cal z ↥36 (Wf)
 have g:=f3.cal z ↥93 (UF c)
 have bv:=f2.cal z ↥93 (U9 c g)
 have cm:=f1.cal z ↥36 (Uw c a)
 have T:=f0.calH z ↥44 (Zk c bd p D S c9)
 have O:=fz.cal z (by walk_at "4") (G4 c)
 have E:=fy.cal z ↥93 (Uv c a dc cm)
 have cr:=fx.cal z (by walk_at "4") (Uh c g)
 have ct:=fw.cal z (by walk_at "4") (VP c cr g k q)
 have as:=fv.cal z ↥93 (YL c dF bv k q)
 have V:=fu.cal z (by walk_at "4") (Zc c g k q)
 have b0:=fo.cal z (by walk_at "4") (V1 c V)
 have N:=fb.cal z ↥93 (Wr c g ct b0)
 have M:=e9.cal z (by walk_at "4") (UM bm ed ec rN rY da dp T)
 exact GO c dg a bq cs dd as N E O M f da (vp (st:=vP) eT e6 e0)
end K32
end
open PySem PySem.W PyProof.Rows
set_option maxRecDepth 100000 in
set_option maxHeartbeats 0 in
theorem PySem.Challenge.cw_firnfall_k32_sums_of_a_year_holds : PySem.Challenge.rw_firnfall_k32_sums_of_a_year.Holds := by
 w_on
 refine holds_law HO.ws λb=>?_
 refine holds_open (q:=HO.view) (loose:=HO.loose) (N:=12000) (Xt:=HO.xt) (XP:=XL HO.view [])
  (Yf:=Hook.obs ↥86) (Ya:=Hook.val ↥86) (YP:=Hook.says ↥86)
  HO.left (Hook.of ↥86) (Hook.keeps ↥86)
  (λs e=>xl_of s (Bool.and_eq_true_iff.mp e).1) XL.keeps rfl rfl rfl
  (λs e=>recFacts_of (Bool.and_eq_true_iff.mp e).2) rfl
  (by first | assumption | decide +kernel) ↥38 ⟨rfl,rfl,rfl,rfl,rfl,by decide +kernel⟩ ?hw ?hc
 (case hw=>w_witness2)
 k_fill
 refine L2.W0 (l:=PySem.Challenge.rw_firnfall_k32_sums_of_a_year) 11 156 154 ⟨rfl,⋯,⋯⟩ rfl rfl (λw h Y=>⟨PySem.W.km_in_of Y,PySem.W.km_tabs_of Y 154 (by simp)⟩) (λ_=>by kernel_rfl) (λ_=>by kernel_rfl) ?F
 case F =>
  intro w mg d h c G a
  refine' K32.G6 c G a ..
  all_goals try first | refine' L2.gN.mk ?_ ?_ ?_ ?_ | refine' L2.gM.mk ?_ ?_ ?_ ?_ ?_ | refine' L2.gE.mk ?_ ?_ ?_ | refine' K32.RefK.mk ⟨?_,?_,?_,?_,?_,?_,?_,?_⟩ ?_ ?_ ?_ ?_ ?_
  all_goals try show _=_
  all_goals try k_is
  all_goals kernel_rfl
