import PyProof.Rows.All
import Wide.All
import OpenK.AllK
import Wide.FinOn
import Lean
import PyProof.EqAt
import PyProof.EqKinds
import PyProof.TupleCall
import PyProof.NsDelKeeps
import PyProof.AttrMissHeap
import KE.KDictOf
import OpenK.KLine
import KE.KNestM
import PySem.Challenge.RW_firnfall_k25_where_stones_rest
set_option Elab.async false
set_option linter.all false
set_option maxRecDepth 100000
set_option maxHeartbeats 0
open And renaming intro->i5
open Array renaming length_toList->cS,getElem?_setIfInBounds_ne->iB,getD_eq_getD_getElem?->lr,getElem?_eq_getElem->lO,getElem?_toList->nj,getD->oZ,forIn_toList->pf,mk->pz,toList_map->rM
open Bool renaming false_ne_true->au,and_eq_true->bp,false_eq_true->ck,eq_iff_iff->dJ,true_and->fe,and_false->sZ
open False renaming elim->bw
open ForIn renaming forIn->A9
open ForInStep renaming yield->c5
open Int renaming toNat_natCast->bE,emod_lt_of_pos->dA,zero_add->eQ,emod_nonneg->eY,le_refl->og,le_trans->rp,le_of_lt->rA
open List renaming getElem?_eq_getElem->af,length_map->ah,length_append->ao,getD_eq_getElem?_getD->aq,size_toArray->aw,getElem?_map->ay,mem_of_getElem?->aA,mem_append_right->aC,map_append->aE,append_nil->aF,mem_cons_of_mem->aH,range->aJ,mem_cons_self->aK,length_take->aN,map_cons->aS,take_length->aY,length_cons->bf,Nodup->bg,length_singleton->br,length_range->bz,take_add_one->bI,filter_append->bL,length_filter_le->bM,mem_map_of_mem->bN,drop_eq_getElem_cons->bO,all_eq_true->bP,take_of_length_le->bT,map_map->bW,getElem?_append_right->bX,getElem_mem->c7,length_drop->cq,drop_eq_nil_of_le->cw,append_assoc->cA,range_succ->cE,mem_append_left->cF,lookup_cons->cH,reverse->cQ,getElem?_append_left->cV,getElem_map->cX,replicate->du,mem_of_find?_eq_some->dG,mem_of_mem_take->dO,map_congr_left->dW,getElem?_range->dX,filter_cons_of_neg->ee,filter_cons_of_pos->ef,lookup->eE,eq_nil_of_length_eq_zero->eF,getElem?_drop->eL,find?_cons->eV,dropLast_concat_getLast->eZ,mem_cons->ff,length_replicate->fh,length->fm,reverse_reverse->fA,nodup_nil->fC,map_nil->fJ,not_mem_nil->fK,filterMap_cons->fM,any_cons->fP,of_mem_zip->fU,pairwise_cons->fW,pairwise_singleton->i0,filter->i4,getElem?_set_self->i6,all_map->ij,length_pos_of_mem->ik,ext_getElem?->il,getElem?_set->ir,find?_cons_of_pos->iu,find?_cons_of_neg->iz,eq_nil_or_concat->iF,concat_eq_append->iG,getElem?_set_ne->iP,length_set->iV,forIn_cons->iW,length_nil->lg,length_reverse->lp,getElem?_concat_length->ly,getElem?_eq_none_iff->lP,reverse_cons->lT,getElem_take->lU,flatten_cons->lV,headD_eq_head?_getD->m9,getElem?_replicate->ml,ext_getElem->mn,nodup_range->mq,drop_of_length_le->mI,head?_eq_getElem?->mP,filter_nil->mX,range_zero->mY,map_id->nR,drop_zero->o9,replicate_succ'->oj,getLastD_concat->oo,all_cons->oJ,sum_cons->oM,take_sublist->pO,toArray->pY,map_snd_zip->rO,zipIdx_cons->rR,map_reverse->sf,zipIdx_nil->sL,map->tD,forIn_nil->tE,take_zero->tK,take_take->tM
open List.Pairwise renaming nil->ib,map->ip
open List.Perm renaming refl->nO,cons_inv->ph
open Nat renaming le_refl->ar,ne_of_lt->aB,zero_le->aG,le_trans->aI,lt_of_lt_of_le->aQ,lt_of_le_of_lt->bU,lt_succ_of_lt->cf,succ_le_succ->cu,lt_irrefl->cK,ne_of_gt->cN,le_add_right->eA,le_of_lt->fF,le_succ->fZ,zero_add->ig,lt_succ_self->iJ,not_lt_zero->iX,le_succ_of_le->lW,sub_self->mK,add_sub_cancel->px,le_of_eq->pG,sub_zero->rC,zero_min->rE,min_eq_right->si,min_eq_left->sN
open Ne renaming symm->cx
open Option renaming toList_some->dB,map_some->l9,isSome_map->rj,getD_none->rK,bind_some->rW
open Option.some renaming inj->aT
open Or renaming inl->aO,inr->dQ
open Prod renaming snd->Aa
open PyProof.Rows renaming seqObj->bB,boot_isinstance->bJ,boot_list->bZ,callWith_type1->c9,boot_tuple->cJ,listUpdate_at->cZ,IntsAre->di,get?_update_seq->eS,seqEpoch_at->ft,boot_bool->iq,slot_tuple_getitem->iA,AllBare->iL,subscriptTail->iM,envOfC->iU,boot_max->mx,Subscript_->mE,subscriptTail_builtinR->mF,listItems_at->mJ,boot_dict->mO,entry_list_sort->mT,boot_int->nu,boot_str->nv,slot_list_sort->nN,boot_min->om,slot_tupleiter_next->oG,size_push'->pe,plain_sorted->pW,entry_sorted->pX,boot_all->rn,kind_sorted->sG,boot_sorted->sH,list_sort_plain->sI,boot_range->sV,SortKind->t8,args_list_sort->tj,failedOf->tu,IsTup->tW,tail_any->A8,boot_sum->Af,Call_->Aj
open PyProof.Rows.IsTup renaming new->tY
open PyProof.Rows.KeyOrd renaming kle_refl->df,kle_of_klt->ie,kle_trans->iK,kle_antisymm->lj
open PySem renaming wpAny_bind->aa,Value->aj,wpAny->ax,model->aD,boot_len->aP,starEach->aR,wpAny_mono->aZ,World->bo,Around->bx,wpAny_holding->bA,sizeLine_eq->bD,wpAny_field->bG,wpAny_truthy_bool->bQ,wpAny_newObj_type->bS,rawInt->c0,wpAny_loadPart'->c6,foldedSetIterable->cc,compareOp->cg,wpAny_callSpecial?_slot->cj,wpAny_seqItems->cp,bindArgs->cG,wpAny_call_entry->cI,backTo->cM,codeAny->cO,letOwnedTupleGo->cT,Paired->cU,wpAny_Call_Name_kw->cW,wpAny_standAt->cY,wpAny_pyIter_list->d6,assignEach->d9,mem_of_lookup->dg,codeAny_mono->dh,tupleKind->dm,sysModules->dq,wpAny_setField_rec->dz,importedModules->dH,wpAny_passesOwn->dI,codeAny_builtin->dM,holding->dN,attributeBase->dP,wpAny_comprehension_free->dR,IsPair->dU,pyNext->dY,wpAny_pyNext_list_item->eJ,Builtin->eM,wpAny_rule->eN,tupleKind_room_in1->eP,wpAny_execs_nil->eR,behindInMarks->fb,wpAny_attempt->fc,binaryOp->fj,keywordEach->fk,wpAny_newFunctionEnv_cells->fq,wpAny_setField->fB,bootBuiltins->fE,standAt->fG,plainId_quiet->fR,wpAny_newList->fS,wpAny_noRaise->fT,wpAny_call->fV,sliceBounds->fY,NameKind->i8,codeAny_compStart_list->ic,wpAny_pyNext_list_end->iC,assign->iI,wpAny_newFunctionEnv->iR,wpAny_updateSeq_pair->iT,wpAny_typeOf->lu,swapsWith->lA,noteFrame->lB,backToKw->lF,wpAny_newTuple->lJ,firstArgMember->lL,IsZip->lM,pyIter->lX,evalPart_none->lY,wpAny_getItem_list_slice->lZ,wpAny_onRaise->m6,wpAny_eqBool_int->md,wpAny_execs_cons->me,getMethod->mi,cellsFrom->mj,noFill_tuple_add->mm,wpAny_isInstance->mr,OsState->my,builtinsNs->mB,Keyword->mC,getItem->mD,call_meets->mG,theTreesLotGoes->mS,field->mV,wpAny_isTrue_Compare1->mZ,wpAny_pyIter_listiter->nh,codeAny_call_function->ni,wpAny_notOrdered_dict->nk,wpAny_loadName_local->nB,Result->nH,subscripted->nJ,newFunctionEnv->nK,wpAny_letGo->nQ,wpAny_of_eq->nU,ZipApart->nW,isSubtype_stop->nX,leaving->ou,callerA->ow,valueAt->oz,wpAny_loadName_cell->oB,codeAny_forLoop_any->oC,seq_tuple_add->oH,evalPart_some->oI,eval_ListComp->oK,wpAny_pyIter_tuple->oR,wpAny_pyIter_range->oS,typeLookup->oV,PlainAttrs->oW,typeOf->oX,closureFor->oY,slot_listiter_next->pj,getattributeRaised->pq,Within->pA,wpAny_assign_Name->pC,callWith->pH,BindsTo->pN,concat_meets->pQ,seqIndex_neg->pR,compEnvC->pS,codeAny_loop->pT,compTurn->pU,newList->pV,wpAny_pyIter_enum->pZ,atKey->rg,seqItems?->rQ,wpAny_pyIter_zip->rT,checkBuiltinCall->rV,wpAny_Dict_empty->rX,kt_code_dict_new->se,IsRangeIter->sr,bindL->sx,bindC->sy,wpAny_Slice->sA,seqIndex_of->sD,wpAny_noted->sF,wpAny_specialOf->sM,wpAny_Name->sU,wpAny_loadPart->sX,IsPart->sY,compPost->t7,checkCount->t9,getAttr?->tG,boundAndCalled->tH,wpAny_tryCatch->tI,callType_codes->tJ,assignInOrder->tO,rangeSize_one->tQ,intBits_le_64->tR,call_list_seq->tS,wpAny_handled->tU,treeTable->tV,storeName->tX,cellOf->A1,relabel->A2,stored->A3,storedH->A4,Params->Ag,truthy->Ah,newExc->Ai
open PySem.Around renaming under_plainId->d5,frames_deeper->nI,under->pK
open PySem.Builtin.Dict renaming updateFrom->eB,addKeywords->m7,selfAndRest->m8,pairItems->mM
open PySem.Builtin.List renaming listTooLong->fQ
open PySem.Builtin.Range renaming rangeSize->mh
open PySem.Builtin.Slice renaming slicePlaces->dE,sliceAdjust->fL,sliceApplied->lK
open PySem.Builtin.SmallTypes renaming nextOf->bC,ownedTupleIsFree->cD,ownedTupleHandOut->fN
open PySem.Builtin.Tuple renaming tupleExact->dS
open PySem.Calls renaming callWith_builtin->ia,evalArgs_plain->iQ,Name_function_global->lC,spliced_cons->lH,call_function_entry->lN,spliced_nil->pM
open PySem.Code renaming isFrame->pL
open PySem.Data renaming cell->mf,fields->nE
open PySem.EntryCells renaming newEntry->oF
open PySem.Env renaming kindOf->t6
open PySem.F renaming plainAttrs_list->b7,slot_list_append->b9,type_list_append->ba,excBase_ValueError->bH,slot_tuple_iterator_next->dw,args_tuple_add_2->fO,entry_tuple_add->fX,slot_tuple_add->i9,slot_dict_get->iE,args_tuple_iterator_next_1->iY,slot_zip_next->iZ,entry_tuple_iterator_next->lx,args_dict_get_3->mw,entry_dict_get->mL,slot_list_lt->nM,kt_typeCall_dict_1->oa,args_dict_init_2->pw,args_zip_next_1->rf,entry_dict_init->rm,entry_zip_next->rS,kt_called_dict->rZ
open PySem.Fin renaming done->tm
open PySem.Heap renaming get?_push_of_some->ai,lt_size->av,get?_push_size->az,get?_update_other->bY,get?_update_ne->c8,size_push->cB,get?_push_ne->cP,get?_update_self->dC,size_update->dZ,SameBut->eI,ExtBut->iS,MadeExcOf->nZ
open PySem.Heap.DictOf renaming new->mW
open PySem.Heap.IsSliceOf renaming new->lI
open PySem.Heap.SameBut renaming update->oE
open PySem.IsRange renaming new->su
open PySem.NameKind renaming free->bc,cell->iN
open PySem.Obj renaming mapSeq->b8,data_mapFields->eO,mapFields->fg,isFreed_of_fields->fi,cls_mapFields->r9
open PySem.Paired renaming length->aM,snoc->bV
open PySem.PassesOwn renaming never->aV
open PySem.SeqAt renaming shaped->mH
open PySem.SeqAt.EqAt renaming int_str->oP,str_int->oQ
open PySem.Str renaming ofString->ak
open PySem.Value renaming ref->aU,none->aX,type->iH,builtin->iO,isInt_shape->lQ,int->ma,bool->mz,str->oq,isStrOf_shape->oA,float->sj,isStrOf->tN
open PySem.W renaming Frag->ag,nsIn->aW,kitOne->bb,mg_of->bh,mg_none_of->bj,fnOf->bF,findIn->bK,keepIn->bR,kia_one->c3,emptyDict->cz,codeIn->cC,boot_heap->cR,instObj->d8,excIn->dj,callWith_K->dr,cellsFrom_some->eK,exmOne->fD,plainGet->fI,hasDictIn->i7,methodCall_KW->iD,plainGet_of->lh,lookIn->lE,methodObj->lR,plainOver->lS,takerIn->mQ,makesIn->mR,boot_drawn->oN,namesBound->oO,codeRec_of->oU,isFn->pE,kitx_list->pI,kitx_dict->pJ,staticsOk->rG,kmHook->rH,handedIn->rJ,OpenLaw->sJ,topStub->sO,kas_rev->sP,tabObj->sQ,gensDone->sR,laidKept->sS,InstAt->sW,funFrames_hide->tF,kas_tail3->tZ,topRun->A0,openSeen->A5,openGood->A6,openEnds->A7,kas_sort->Ab,kas_item->Ac,kat_snds->Ad
open PySem.W.Looks renaming of_pure->tT,ld->Ae
open PySem.W.OpenLaw renaming row->nA
open StateT renaming run_pure->mU
open Sum renaming inr->bt,inl->eG
open Sum.inl renaming inj->eC
open True renaming intro->de
open PySem PySem.Spec PyProof.Rows
local macro_rules | `(∅)=>`(by omega)
local macro_rules | `(⋯)=>`(by decide)
set_option hygiene false
local macro_rules | `(↥0)=>`((jv "slopes" (V.ref acc) (jv "cycle" (V.ref cy) (jv "valley" (V.ref va) []))))
local macro_rules | `(↥1)=>`((by walk_at "w"))
local macro_rules | `(↥2)=>`((g.slopes.getD l.toNat []))
local macro_rules | `(↥3)=>`((aD X.prog X.w))
local macro_rules | `(↥4)=>`((by walk_at "z"))
local macro_rules | `(↥5)=>`((.dK [((.inr "reaches",.ref p):Key×V),(.inr "rows",.ref q),(.inr "single",.ref g),(.inr "grounds",.ref gl)]))
local macro_rules | `(↥6)=>`((upd (upd Hb g (.dK [])) sd (.dK (xy [] [(.inr "reaches",.ref p),(.inr "rows",.ref q),(.inr "single",.ref g)]))))
local macro_rules | `(↥7)=>`((xX elt tg iter tg2 iter2 ifs ifs2 scope pos))
local macro_rules | `(↥8)=>`(((s.heap.push (bB "list" #[] 0)).update s.heap.objs.size (b8 (· ++ its.toArray))))
local macro_rules | `(↥9)=>`((g.slopes.length:Int))
local macro_rules | `(↥10)=>`((s.heap.push { cls:=.type "range",data:=.fields #[.int lo t,.int hi u,.int 1 v] }))
local macro_rules | `(↥11)=>`((.ref s.heap.objs.size))
local macro_rules | `(↥12)=>`(((k.update a (b8 λ_=>(#[]:Array aj))).push (bB "tuple" its.toArray 0)))
local macro_rules | `(↥13)=>`((X.block scope G H2.objs.size N s H U))
local macro_rules | `(↥14)=>`((X.block scope j C N s H ex))
local macro_rules | `(↥15)=>`((j0 (pv 0) (j0 j5 j2)))
local macro_rules | `(↥16)=>`((s.heap.objs.size+1))
local macro_rules | `(↥17)=>`((upd (upd O ye (HO.dK [])) p (HO.ins C dx (jv "years" (V.ref ye) ↥0))))
local macro_rules | `(↥18)=>`((Ym h'.objs.size (uD (X.env.qual ++ "<lambda>") params body scope ((X.mg "__name__").getD .none) c' j)))
local macro_rules | `(↥19)=>`((.ListComp elt [⟨tg,iter,ifs,0⟩] scope pos))
local macro_rules | `(↥20)=>`((∀b o,s.heap.get? b=some o->h'.get? b=some o))
local macro_rules | `(↥21)=>`((HO.ins C dx (jv "cycle" (V.ref cy) (jv "valley" (V.ref va) []))))
local macro_rules | `(↥22)=>`((x == ("__debug__" : Str)))
local macro_rules | `(↥23)=>`((jr (jf K) (pv 0) j5 (λ_ _=>rfl)))
local macro_rules | `(↥24)=>`(((jE m (ja c.rs u) D c.ts (y+jc e y-n)).drop (y-jn 0 0 m (y+jc e y-n)).toNat))
local macro_rules | `(↥25)=>`((bB "list" its.toArray 0))
local macro_rules | `(↥26)=>`((jX I q (by simp)))
local macro_rules | `(↥27)=>`((λvs H Q E h=>?_))
local macro_rules | `(↥28)=>`((.list [.tuple [.str "no",.str w,.str "ValueError"],.tuple [.str "no",.str w,.str "ValueError"],.tuple [.str "no",.str w,.str "ValueError"]]))
local macro_rules | `(↥29)=>`((upd (upd H Pt (.tbl #[c0 pos.line,c0 pos.col,.ref c'])) c' (Zp c' (X.env.qual ++ "<lambda>"))))
local macro_rules | `(↥30)=>`((.inr "reaches",.ref p))
local macro_rules | `(↥31)=>`((l<0\/ ↥9<=l->E (.ref CN) none H))
local macro_rules | `(↥32)=>`((X.block scope j H2.objs.size N s H G))
local macro_rules | `(↥33)=>`((λ_ _ _ _ _=>jS))
local macro_rules | `(↥34)=>`((X.block scope G C N s H ex))
local macro_rules | `(↥35)=>`((by walk_at "2"))
local macro_rules | `(↥36)=>`((q.1,q.2.1,q.2.2.2-min b q.2.2.2,min b q.2.2.2))
local macro_rules | `(↥37)=>`((qH (qC dn gd wr ts i) ((i:Int)+jc dn (i:Int)-(p:Int))))
local macro_rules | `(↥38)=>`((xB ((jE ms (ja c.rs wy) wr c.ts (y+jc dn y-n)).drop (y-jn 0 0 ms (y+jc dn y-n)).toNat)))
local macro_rules | `(↥39)=>`((bF x x (qf st) (jT st) (j8 st) .none kV doc pm I j z))
local macro_rules | `(↥40)=>`((false,eval e X.env))
local macro_rules | `(↥41)=>`((by decide +kernel))
local macro_rules | `(↥42)=>`((dH PySem.Challenge.pw_firnfall_k25_where_stones_rest.main.body))
local macro_rules | `(↥43)=>`((X.block scope G H2.objs.size N s H j))
local macro_rules | `(↥44)=>`((by intro z;cases z))
local macro_rules | `(↥45)=>`((ms.map (·.1)))
local macro_rules | `(↥46)=>`(((ja c.rs wy).length:Int))
local macro_rules | `(↥47)=>`((wpAny_pure ?_))
local macro_rules | `(↥48)=>`((.Slice none none (some (.UnaryOp .USub (.Constant (.int 1) j3 p3) p4)) p2))
local macro_rules | `(↥49)=>`(((↥2).length:Int))
local macro_rules | `(↥50)=>`((b8 λ_=>(#[]:Array aj)))
local macro_rules | `(↥51)=>`((j0 (pv 1) j2))
local macro_rules | `(↥52)=>`((by with_unfolding_all rfl))
local macro_rules | `(↥53)=>`((j0 (pv 0) j2))
local macro_rules | `(↥54)=>`((j0 (pv 5) (j0 (pv 6) (j0 (pv 7) j2))))
local macro_rules | `(↥55)=>`((by walk_at "1"))
local macro_rules | `(↥56)=>`((.Call (.Attribute o m apos) (e::es) [] pos))
local macro_rules | `(↥57)=>`((.inr "rows",.ref q))
local macro_rules | `(↥58)=>`((Addr×List (Key×V)))
local macro_rules | `(↥59)=>`((j0 (pv 2) j2))
local macro_rules | `(↥60)=>`((∀H',jm H H'->y<0\/10 ^ 40<y->E (.ref CY) none H'))
local macro_rules | `(↥61)=>`((EP X pins σ Q))
local macro_rules | `(↥62)=>`((∀σ2 H2,U σ2 H2->∃m',m'<m/\W (i+1) m' σ2 H2))
local macro_rules | `(↥63)=>`(((.inl z.1,f z.2):Key×V))
local macro_rules | `(↥64)=>`((j0 (pv 0) (j0 (pv 1) (j0 (pv 2) (j0 (pv 3) j2)))))
local macro_rules | `(↥65)=>`((.Call (.Name x p) (e::es) [] pos))
local macro_rules | `(↥66)=>`((cM pos (aR es X.env)))
local macro_rules | `(↥67)=>`((X.env.qual ++ "<lambda>"))
local macro_rules | `(↥68)=>`((.lst (ys++[v])))
local macro_rules | `(↥69)=>`((by simp;omega))
local macro_rules | `(↥70)=>`((jr (jf K) (xE K (pv 0)) (pv 1) (λ_ _=>rfl)))
local macro_rules | `(↥71)=>`((gd.length:Int))
local macro_rules | `(↥72)=>`((A.under (.builtin "type.__call__" ⟨.ref C::us,j⟩)))
local macro_rules | `(↥73)=>`((nA PySem.Challenge.rw_firnfall_k25_where_stones_rest))
local macro_rules | `(↥74)=>`((.tup [.int q.1,.int q.2.1,.int q.2.2.1,.int q.2.2.2]))
local macro_rules | `(↥75)=>`((j pins s σ H _ I h))
local macro_rules | `(↥76)=>`((∃m,W 0 m σ H))
local macro_rules | `(↥77)=>`((.builtin "object.__class__"))
local macro_rules | `(↥78)=>`((HO.ins C dx (jv "valley" (V.ref va) [])))
local macro_rules | `(↥79)=>`((bt (ak "reaches"):Key))
local macro_rules | `(↥80)=>`(((jE ms ↥2 wr g.rows (y+jc ns y-n)).drop (y-jn 0 0 ms (y+jc ns y-n)).toNat))
local macro_rules | `(↥81)=>`(((yn+j:Nat):Int))
local macro_rules | `(↥82)=>`((∀σ2 H2,NX σ2 H2->∃m',m'<m/\W (i+1) m' σ2 H2))
local macro_rules | `(↥83)=>`(((R.update a ↥50).push (bB "tuple" its.toArray 0)))
local macro_rules | `(↥84)=>`((List.getElem?_eq_some_iff.mp hi))
local macro_rules | `(↥85)=>`((s.heap.push { cls:=.type "dict",data:=.dict #[] }))
local macro_rules | `(↥86)=>`((.inr "single",.ref j))
local macro_rules | `(↥87)=>`((rH HO.frag.heap_1 HO.asL HO.asE [154]))
local macro_rules | `(↥88)=>`((List Key×Addr×aj))
local macro_rules | `(↥89)=>`((rs++[(t,hs)]))
local macro_rules | `(↥90)=>`((j0 (pv 0) (j0 (pv 2) (j0 (pv 3) (j0 (pv 4) j2)))))
local macro_rules | `(↥91)=>`((jy (show (bt (ak "single"):Key)≠bt (ak "grounds") by decide +kernel)))
local macro_rules | `(↥92)=>`((λz=>nomatch z))
local macro_rules | `(↥93)=>`((k == bc && env.scope.kind == .function && env.kindOf n == some .cell))
local macro_rules | `(↥94)=>`((c == bc && env.scope.kind == .function && env.kindOf n == some .cell))
local macro_rules | `(↥95)=>`((.frz o (.dK kvs)))
local macro_rules | `(↥96)=>`((jy (show (bt (ak "rows"):Key)≠bt (ak "grounds") by decide +kernel)))
local macro_rules | `(↥97)=>`((jr (qM K) (jr (jf K) (pv 4) (vd zG j5) (λ_ _=>rfl)) j5 (λ_ _=>rfl)))
local macro_rules | `(↥98)=>`((ha pos pins s σ H _ I h))
local macro_rules | `(↥99)=>`((jr (jf K) (jF (jR hr) (pv 0) jt (λ_ _=>rfl)) (pv 1) (λ_ _=>rfl)))
local macro_rules | `(↥100)=>`((λb o hb e=>eb b o hb e))
local macro_rules | `(↥101)=>`((aC _ (aC _ (qz a e))))
local macro_rules | `(↥102)=>`(((jw rs).length:Int))
local macro_rules | `(↥103)=>`((jF (jR J) (pv 0) jt (λ_ _=>rfl)))
local macro_rules | `(↥104)=>`((∀x c,X.env.cells.lookup x=some c->c≠b))
local macro_rules | `(↥105)=>`((by walk_at "3"))
local macro_rules | `(↥106)=>`((∀z H',N z H'->∃G,G<m/\W (i+1) G z H'))
local macro_rules | `(↥107)=>`((ts.length:Int))
local macro_rules | `(↥108)=>`((ns.map (·.1)))
local macro_rules | `(↥109)=>`((List.getElem?_eq_some_iff.mp hq))
local macro_rules | `(↥110)=>`((ju x4 (pv 5) j5 (jx _)))
local macro_rules | `(↥111)=>`((thn (hi pins s σ H _ I h) λv s1 h1=>thn h1 λo r h2=>?_))
local macro_rules | `(↥112)=>`((z pins s σ H _ I h))
local macro_rules | `(↥113)=>`((λw b=>vC c d r fs w (by simpa using b)))
local macro_rules | `(↥114)=>`((∀r∈rs,r.2.length<=100))
local macro_rules | `(↥115)=>`((Addr×List (Int×Int)))
local macro_rules | `(↥116)=>`((bB "list" #[] 0))
local macro_rules | `(↥117)=>`((jy (show ↥79≠bt (ak "grounds") by decide +kernel)))
local macro_rules | `(↥118)=>`((sO PySem.Challenge.pw_firnfall_k25_where_stones_rest))
local macro_rules | `(↥119)=>`((.ins C dx fs))
local macro_rules | `(↥120)=>`((.builtin "getset_descriptor.__get__"))
local macro_rules | `(↥121)=>`((·.setIfInBounds 1 (aU g1.objs.size)))
local macro_rules | `(↥122)=>`((j9 (xQ bH j z rfl zK rfl (j0 jt j2))))
local macro_rules | `(↥123)=>`((j0 (pv 0) (j0 (pv 1) (j0 (pv 3) j2))))
local macro_rules | `(↥124)=>`(((yn:Int)-jn 0 0 ms m))
local macro_rules | `(↥125)=>`((HO.ins C dx ↥0))
local macro_rules | `(↥126)=>`((wpAny_pure ⟨_,rfl,wpAny_pure h⟩))
local macro_rules | `(↥127)=>`((by simp only [aw] <;> omega))
local macro_rules | `(↥128)=>`((je j (a.mono ⋯) rfl ↥15))
local macro_rules | `(↥129)=>`(((cR w.params).nsMap mainGlobals "__annotations__"))
local macro_rules | `(↥130)=>`((b∈X.ex\/X.s₀.heap.objs.size<=b))
local macro_rules | `(↥131)=>`((c.pin (b,o) (aC _ (aC _ (qz j e)))))
local macro_rules | `(↥132)=>`((∃m,W 0 m (ve own caps σ) (upd H acc (.lst []))))
local macro_rules | `(↥133)=>`(((d.map λi=>ns.getD i 0).map V.int))
local macro_rules | `(↥134)=>`(((jw rs).map λh=>(qO rs h).reverse))
local macro_rules | `(↥135)=>`((by walk_at "4"))
local macro_rules | `(↥136)=>`((∀H',jm H H'->l<0\/ ↥9<=l->E (.ref CN) none H'))
local macro_rules | `(↥137)=>`((0<=l->l< ↥9->n<0\/ ↥49<=n->E (.ref CP) none H))
local macro_rules | `(↥138)=>`((.type "list"))
local macro_rules | `(↥139)=>`((d.length:Int))
local macro_rules | `(↥140)=>`((B.length:Int))
local macro_rules | `(↥141)=>`((vN CX P w K mg base N j scope f z A outer s H E))
local macro_rules | `(↥142)=>`((λy=>hc (by simp [y])))
local macro_rules | `(↥143)=>`((Ext.put.trans Ext.put))
local macro_rules | `(↥144)=>`((apos.endLine == cpos.line))
local macro_rules | `(↥145)=>`((upd H s.heap.objs.size (.lst [])))
local macro_rules | `(↥146)=>`((jr (qM K) (pv 0) j5 (λ_ _=>rfl)))
local macro_rules | `(↥147)=>`((jr (jf K) (pv 4) j5 (λ_ _=>rfl)))
local macro_rules | `(↥148)=>`((c.lds.set n (a,zh ns y m)))
local macro_rules | `(↥149)=>`((jF (jR m) (pv 2) jt (λ_ _=>rfl)))
local macro_rules | `(↥150)=>`((jF (jR b) (pv 0) jt (λ_ _=>rfl)))
local macro_rules | `(↥151)=>`((.dK (ps.map kvA)))
local macro_rules | `(↥152)=>`((jn 0 0 ms (m+ ↥71)-jn 0 0 ms m))
local macro_rules | `(↥153)=>`((cxH P w K mg base N z (j8 st) f j A outer s H))
local macro_rules | `(↥154)=>`((q.1,q.2.1,q.2.2.2-min d q.2.2.2,min d q.2.2.2))
set_option hygiene true
section
namespace HO
open PySem PySem.W PyProof.Rows PySem.Calls PySem.Spec
def view:Program:={ PySem.Challenge.pw_firnfall_k25_where_stones_rest with main:={ PySem.Challenge.pw_firnfall_k25_where_stones_rest.main with body:=(PySem.Challenge.pw_firnfall_k25_where_stones_rest.main.body).drop 85 } }
def loose:List Str:=[ak "_wall",ak "FirnError",ak "BadValley",ak "BadRound",ak "BadWeather",ak "BadYear",ak "BadSurge",ak "BadHand",ak "NoLane",ak "NoPlace",ak "MOST_REACHES",ak "MOST_HEIGHTS",ak "GREATEST_HEIGHT",ak "MOST_LANES",ak "LONGEST_LANE",ak "is_valley",ak "is_reach",ak "leads_on",ak "fits",ak "lanes",ak "way_down",ak "way_of",ak "count_places",ak "heights",ak "HIGHEST_LINE",ak "MOST_HANDS",ak "MOST_ROWS",ak "is_weather",ak "is_round",ak "change",ak "LAST_TOLD",ak "LAST_ASKED",ak "GREATEST_SURGE",ak "check_told",ak "check_asked",ak "check_round",ak "Ice",ak "ride_by",ak "earliest",ak "ridden",ak "span",ak "life",ak "parted",ak "way",ak "rest",ak "hidden",ak "_law_box",ak "_law_mixed",ak "_law_take",ak "_law_whole",ak "_law_alike",ak "_law_far",ak "_law_odd",ak "_law_weather",ak "_law_round",ak "_law_ground_drawn",ak "_law_reaches",ak "_law_roads",ak "_law_ground",ak "_law_year",ak "_law_scene",ak "_law_made",ak "_law_row",ak "_law_wish",ak "_law_ride",ak "_law_marks",ak "_law_year_of",ak "_law_walk",ak "_law_spot",ak "_law_refused",ak "_law_due_spot",ak "_law_bent_spot",ak "_law_stone_way",ak "_law_rest_by_life",ak "_law_life_at",ak "_law_way_by_life",ak "_law_try_stone"]
section
local macro_rules | `(tactic| o_head $H)=>`(tactic| (have hook:=$H;assumption))
theorem frag (j: (↥73).Holds): (↥73).Holds:=by
 k_head
end
def asL:List Addr:=[2,3,15,17,18,20,21,22,29,30,31,32,35,42,43,44,47,54,55,56,59,66,67,68,71,78,79,80,83,90,91,92,95,102,103,104,107,114,115,116,119,126,127,128,131,134,135,136,139,140,141,143,144,146,147,148,151,152,153,156,157,158,160,161,163,164,165,167,168,170,171,172,175,176,177,180,181,182,184,185,187,188,189,192,193,194,196,197,199,200,201,203,204,206,207,208,210,211,213,214,215,217,218,220,221,229,232,233,234,236,237,239,240,241,243,244,246,247,248,250,251,253,254,255,257,258,260,261,262,264,265,267,268,269,271,272,274,275,276,278,279,281,282,283,285,286,288,289,290,292,293,295,296,297,299,300,302,303,304,306,307,309,310,311,313,314,316,317,318,321,322,323,326,327,328,330,331,333,334,335,337,338,340,341,342,344,345,347,348,349,350,351,352,353,356,359,360,361,363,364,366,367,368,370,371,373,374,375,377,378,380,381,382,384,385,387,388,389,391,392,394,395,396,398,399,401,402,403,405,406,408,409,410,412,413,415,416,417,419,420,422,423,424,426,427,429,430,431,433,434,436,437,438,440,441,443,444,445,448,449,450,452,453,455,456,457,459,460,462,463,464,466,467,469,470,471,474,475,476,479,480,481,484,485,486,489,490,491,493,494,496,497,498,500,501,503,504,505,508,509,510,512,513,515,516,517,519,520,522,523,524,526,527,529,530,531,534,535,536,539,540,541,543,544,546,547,548,550,551,553,554,555,557,558,560,561,562,565,566,567,569,570,572,573,574,576,577,579,580,581,584,585,586,588,589,591,592,593,595,596,598,599,600,602,603,605,606,607,609,610,612,613,614,617,618]
theorem asE (P:Ag):asL=(frag.heap_1 P).map (·.1):=by kernel_rfl
def Eh:List Obj->Nat->BT->BT
 | [],_,t=>t
 | o::r,n,t=>Eh r (n+1) (t.ins n o)
noncomputable def s0T (w:bo) (os:my):SharedT:=⟨Eh (cR w.params).objs.toList 0 .nil,(cR w.params).objs.size,(cR w.params).life,pz [],oN,boot_toks,os⟩
noncomputable def topT (w:bo) (os:my):Option (Flow×SharedT×Code×Pos):=PySem.W.Fast.tw10110043849684766642 PySem.W.Fast.tw14364793385576792824 PySem.Challenge.pw_firnfall_k25_where_stones_rest w (cR w.params).objs.size ↥129 0 12000 (s0T w os) ↥118
noncomputable def top (w:bo) (os:my):Option Shared:=(topT w os).map λr=>r.2.1.abs
def xt (s:Shared):Bool:=xlAt view [] s && recOk (RowW.records (OpenRow.toRowW ↥73)) s
theorem ran2 (w:bo) (os:my):(top w os).map (λs=>(asL.map s.heap.get?,[154].map s.heap.get?))=some ((frag.heap_1 w.params).map λp=>some p.2,[154].map λ_=>some (sQ #[])):=by kernel_rfl
theorem ws:OpenLaw.wellSaid PySem.Challenge.rw_firnfall_k25_where_stones_rest=true:=by kernel_rfl
theorem ran1 (w:bo) (os:my):(top w os).map (λs=>A5 view loose ↥42 xt true s)=some (A6 view loose):=by kernel_rfl
theorem ran0 (w:bo) (os:my):(top w os).map (λs=>rG ↥42 (cR w.params) s.heap && oO PySem.Challenge.pw_firnfall_k25_where_stones_rest s.heap && sR s && sS (cR w.params) s.heap)=some true:=by kernel_rfl
theorem G4 (w:bo) (os:my):(s0T w os).abs=⟨cR w.params,pz [],oN,boot_toks,os⟩:=by kernel_rfl
theorem Xf {m:Nat}:∀{n:Nat}{s s':Shared}{t:Thread}{f:Flow}{c:Code}{q:Pos},segRun tb p w m j 0 n s t=some (f,s',c,q)->A0 tb p w m j n s t=some s'
 | 0,_,_,_,_,_,_,h=>by cases h
 | n+1,s,s',t,f,c,q,h=>by
  unfold segRun at h
  unfold A0
  cases d:endAt 0 t with
  | some x =>
   rw [d] at h
   have g:through t=true:=by
    obtain ⟨e,code,pos,st⟩:=t
    cases st with
    | cons a b=>cases d
    | nil =>
     unfold endAt at d
     unfold through
     split at d
     ·rename_i _ _ _ _ u
      have l:e=_:=u
      subst l
      rfl
     ·cases d
   rw [g]
   cases h
   rfl
  | none =>
   rw [d] at h
   have g:through t=false:=by
    obtain ⟨e,code,pos,st⟩:=t
    cases st with
    | cons a b=>rfl
    | nil =>
     cases e <;> first | rfl | (rename_i x;cases x <;> first | rfl | cases d)
   rw [g]
   cases k:stepOk m j t with
   | false=>rw [k] at h;cases h
   | true =>
    rw [k] at h
    cases i:step (denote tb) p w s t with
    | halt o r=>rw [i] at h;cases h
    | go r v=>rw [i] at h;exact Xf h
theorem Vn {os:my}(e:top w os=some s):A0 tV PySem.Challenge.pw_firnfall_k25_where_stones_rest w (cR w.params).objs.size ↥129 12000 ⟨cR w.params,pz [],oN,boot_toks,os⟩ ↥118=some s:=by
 obtain ⟨⟨f,b,c,q⟩,h,rfl⟩:=Option.map_eq_some_iff.mp e
 have h2:segRunT tV PySem.Challenge.pw_firnfall_k25_where_stones_rest w (cR w.params).objs.size ↥129 0 12000 (s0T w os) ↥118=some (f,b,c,q):=by
  rw [PySem.W.Fast.te10110043849684766642,PySem.W.Fast.te14364793385576792824]
  exact h
 have a:=Xf (segRun_of h2)
 rw [G4] at a
 exact a
theorem Gs (w:bo):((cR w.params).isNs mainGlobals && (pz []:Array GenState).size == 0)=true:=by kernel_rfl
theorem Ql {N:Nat}{h:Heap}{j d k os}(I:(h.isNs mainGlobals && j.size == 0)=true) (z:A0 tb p w h.objs.size (h.nsMap mainGlobals "__annotations__") N ⟨h,j,d,k,os⟩ (sO p)=some s) (G:(rG (dH p.main.body) h s.heap && oO p s.heap && sR s && sS h s.heap)=true):topFrom tb p w N ⟨h,j,d,k,os⟩=some s:=by
 unfold topFrom
 rw [I]
 show ((A0 tb p w h.objs.size (h.nsMap mainGlobals "__annotations__") N ⟨h,j,d,k,os⟩ (sO p)).bind _)=_
 rw [z]
 show (match rG (dH p.main.body) h s.heap && oO p s.heap && sR s && sS h s.heap with | true=>some s | false=>none)=_
 rw [G]
theorem Ye {N:Nat}(a:fencedOpening tb p w N=some j) (t:topFrom tb p w N j=some s):A7 tb p w N=some s:=by
 unfold A7
 rw [a]
 exact t
theorem left:LeftO (↥73).prog view loose xt (Hook.obs (rH frag.heap_1 asL asE [154])) (Hook.val (rH frag.heap_1 asL asE [154])) 12000:=λw=>by
 obtain ⟨⟨h,m,d,k,os⟩,a,b⟩:=Option.map_eq_some_iff.mp (boot_open (p:=PySem.Challenge.pw_firnfall_k25_where_stones_rest) (N:=12000) (by kernel_rfl) ⋯ (λs=>by kernel_rfl) w)
 obtain ⟨rfl,rfl,rfl,rfl⟩:h=cR w.params/\m=pz []/\d=oN/\k=boot_toks:=by simpa using b
 have c:=ran0 w os
 have h1:=ran1 w os
 have h2:=ran2 w os
 cases e:top w os with
 | none=>rw [e] at h1;cases h1
 | some s =>
  rw [e] at c h1 h2
  have l:(rG ↥42 (cR w.params) s.heap && oO PySem.Challenge.pw_firnfall_k25_where_stones_rest s.heap && sR s && sS (cR w.params) s.heap)=true:=aT c
  have j:A5 view loose ↥42 xt true s=A6 view loose:=aT h1
  obtain ⟨i,g⟩:=Prod.mk.inj (aT h2)
  have f:asL.map s.heap.get? = (frag.heap_1 w.params).map λp=>some p.2:=i
  have t:=Ye a (Ql (Gs w) (Vn e) l)
  show (A7 tV PySem.Challenge.pw_firnfall_k25_where_stones_rest w 12000).map _=_
  rw [t]
  show some (A5 view loose ↥42 xt true s,(asL.map s.heap.get?,[154].map s.heap.get?))=some (A6 view loose,_)
  rw [j,f,g]
  rfl
end HO
end
noncomputable section
namespace L2
noncomputable abbrev Key:=Sum Int Str
noncomputable def JN:Key->aj->Bool
 | .inl k,v=>Value.isInt k v
 | .inr x,v=>tN x v
noncomputable def keyH (w:bo):Key->Int
 | .inl k=>hashInt k
 | .inr x=>hashStr w x
theorem qN:∀{k:Key}{v:aj},JN k v=true->(∃i t,k=eG i/\v=ma i t)\/(∃x t,k=bt x/\v=oq x t)
 | .inl i,v,h=>by
  obtain ⟨t,e⟩:=lQ (k:=i) (v:=v) h
  exact .inl ⟨i,t,rfl,e⟩
 | .inr x,v,h=>by
  obtain ⟨t,e⟩:=oA (x:=x) (v:=v) h
  exact .inr ⟨x,t,rfl,e⟩
theorem Yr (i:Int) (t:Tok):JN (.inl i) (.int i t)=true:=by simp [JN,Value.isInt]
theorem V7 (x:Str) (t:Tok):JN (.inr x) (.str x t)=true:=by simp [JN,tN]
theorem WI (a b:Int):decide ((eG a:Key)=eG b)=(a == b):=by
 by_cases e:a=b
 ·subst e;simp
 ·have h:¬(eG a:Key)=eG b:=λq=>e (eC q)
  rw [decide_eq_false h]
  exact (beq_eq_false_iff_ne.mpr e).symm
theorem G7 (a b:Str):decide ((bt a:Key)=bt b)=decide (a=b):=by
 by_cases e:a=b
 ·subst e;simp
 ·have h:¬(bt a:Key)=bt b:=λq=>e (Sum.inr.inj q)
  rw [decide_eq_false h,decide_eq_false e]
theorem WH (a:Int) (b:Str):decide ((eG a:Key)=bt b)=false:=decide_eq_false (λq=>nomatch q)
theorem Gk (a:Str) (b:Int):decide ((bt a:Key)=eG b)=false:=decide_eq_false (λq=>nomatch q)
noncomputable def jz (prog:Program) (w:bo):PySem.KeyKind prog w Key where
 is:=JN
 hash:=keyH w
 inj:=λv a b ha hb=>by
  rcases qN ha with ⟨i,t,rfl,rfl⟩ | ⟨x,t,rfl,rfl⟩
  ·rcases qN hb with ⟨j,u,rfl,e⟩ | ⟨y,u,rfl,e⟩
   ·injection e with e1 _;rw [e1]
   ·exact nomatch e
  ·rcases qN hb with ⟨j,u,rfl,e⟩ | ⟨y,u,rfl,e⟩
   ·exact nomatch e
   ·injection e with e1 _;rw [e1]
 byValue:=λk v h=>by
  rcases qN h with ⟨i,t,rfl,rfl⟩ | ⟨x,t,rfl,rfl⟩ <;> rfl
 pyHash:=λhv h=>by
  rcases qN hv with ⟨i,t,rfl,rfl⟩ | ⟨x,t,rfl,rfl⟩
  ·exact wpAny_pyHash_int h
  ·exact wpAny_pyHash_str h
 eqBool:=λhu hv h=>by
  rcases qN hu with ⟨i,t,rfl,rfl⟩ | ⟨x,t,rfl,rfl⟩
  ·rcases qN hv with ⟨j,u,rfl,rfl⟩ | ⟨y,u,rfl,rfl⟩
   ·rw [WI] at h;exact md h
   ·rw [WH] at h;exact oP i t y u _ _ _ _ h
  ·rcases qN hv with ⟨j,u,rfl,rfl⟩ | ⟨y,u,rfl,rfl⟩
   ·rw [Gk] at h;exact oQ x t j u _ _ _ _ h
   ·rw [G7] at h;exact wpAny_eqBool_str h
 «strs»:=λk x t v h=>by
  rcases qN h with ⟨i,u,rfl,e⟩ | ⟨y,u,rfl,e⟩
  ·exact nomatch e
  ·injection e with e1 _
   subst e1
   cases v <;> rfl
theorem QY (prog:Program) (w:bo) (i:Int) (t:Tok):(jz prog w).is (.inl i) (.int i t)=true:=Yr i t
theorem XJ (prog:Program) (w:bo) (x:Str) (t:Tok):(jz prog w).is (.inr x) (.str x t)=true:=V7 x t
end L2
namespace L2
inductive V where
 | non | bl (b:Bool) | int (i:Int) | str (x:Str) | byt (b:Array UInt8) | flt (b:UInt64) | ref (a:Addr) | ty (n:String)
 deriving DecidableEq
noncomputable def jJ:V->aj->Prop
 | .non,u=>u=aX
 | .bl b,u=>u=mz b
 | .int i,u=>∃t,u=ma i t
 | .str x,u=>∃t,u=oq x t
 | .byt b,u=>∃t,u=Value.bytes b t
 | .flt b,u=>∃t,u=sj b t
 | .ref a,u=>u=aU a
 | .ty n,u=>u=iH n
noncomputable abbrev jH:List V->List aj->Prop:=cU jJ
theorem jH.length {xs:List V}(r:jH xs us):xs.length=us.length:=aM r
theorem jH.get:∀{xs:List V}{us:List aj}{i:Nat}{x:V},jH xs us->xs[i]? = some x->∃u,us[i]? = some u/\jJ x u
 | _,_,_,_,.nil,e=>by simp at e
 | _,_,0,_,.cons r _,e=>by simp at e;subst e;exact ⟨_,rfl,r⟩
 | _,_,i+1,x,.cons _ t,e=>by
  obtain ⟨u,h1,h2⟩:=jH.get (i:=i) (x:=x) t (by simpa using e)
  exact ⟨u,by simpa using h1,h2⟩
theorem jH.set {x:V}(r:jJ x u):∀{xs:List V}{us:List aj}(i:Nat),jH xs us->jH (xs.set i x) (us.set i u)
 | _,_,_,.nil=>.nil
 | _,_,0,.cons _ t=>.cons r t
 | _,_,i+1,.cons q t=>.cons q (jH.set r i t)
theorem jH.append:∀{xs ys:List V}{us ws:List aj},jH xs us->jH ys ws->jH (xs++ys) (us++ws)
 | _,_,_,_,.nil,s=>s
 | _,_,_,_,.cons r t,s=>.cons r (jH.append t s)
theorem jH.take:∀{xs:List V}{us:List aj}(n:Nat),jH xs us->jH (xs.take n) (us.take n)
 | _,_,0,_=>.nil
 | _,_,_+1,.nil=>.nil
 | _,_,n+1,.cons r t=>.cons r (jH.take n t)
theorem jH.drop:∀{xs:List V}{us:List aj}(n:Nat),jH xs us->jH (xs.drop n) (us.drop n)
 | _,_,0,r=>r
 | _,_,_+1,.nil=>.nil
 | _,_,n+1,.cons _ t=>jH.drop n t
noncomputable def vh:Option V->Option aj->Prop
 | some v,some u=>jJ v u
 | none,none=>True
 | _,_=>False
noncomputable def KV {κ:Type}:List (κ×V)->List (κ×aj)->Prop:=cU λ(p:κ×V) (q:κ×aj)=>p.1=q.1/\jJ p.2 q.2
noncomputable def kV:Key->V
 | .inl i=>.int i
 | .inr x=>.str x
inductive HO where
  | lst (xs:List V)
  | tup (xs:List V)
  | dK (kvs:List (Key×V)) | dT (kvs:List (List Key×V))
  | set (S:Int->Bool) (n:Nat)
  | ins (C dx:Addr) (fs:List (Str×V))
  | own (x:Addr)
  | xd (fs:List (Str×V))
  | met (f x:Addr)
  | rng (lo hi:Int)
  | frz (o:Obj) (u:HO)
  | tbl (ps:Array aj)
  | ext (φ:Heap->Prop)
noncomputable abbrev Hp:=Addr->Option HO
noncomputable def upd (H:Hp) (a:Addr) (o:HO):Hp:=λb=>if b=a then some o else H b
theorem j6 :upd H a o a=some o:=by unfold upd;rw [if_pos rfl]
theorem j7 {a b:Addr}(h:b≠a):upd H a o b=H b:=by unfold upd;rw [if_neg h]
theorem jo {H:Hp}(h:H a=some o) (h':H b=some u) (d:o≠u):a≠b:=by
 intro e;subst e;rw [h] at h';exact d (aT h')
theorem j1 {H:Hp}(h:H a=some o) (h':H b=none):a≠b:=by
 intro e;subst e;rw [h] at h';cases h'
section
variable (P:Program) (w:bo)
noncomputable def qu (H:Hp) (h:Heap) (a:Addr):HO->Prop
 | .lst xs=>xs.length<=sizeLine/\∃(b:List aj) (n:Nat),jH xs b/\h.get? a=some { cls:=.type "list",data:=.seq b.toArray n }
 | .tup xs=>xs.length<=sizeLine/\∃b:List aj,jH xs b/\tW h a b.toArray
 | .dK kvs=>kvs.length<=sizeLine/\(a == dq)=false/\∃c,KV kvs c/\h.DictOf (jz P w) a c
 | .dT kvs=>kvs.length<=sizeLine/\(a == dq)=false/\∃xs:List ↥88,
   cU (λ(p:List Key×V) (q:List Key×Addr×aj)=>p.1=q.1/\H q.2.1=some (.tup (p.1.map kV))/\jJ p.2 q.2.2) kvs xs /\
   ∃o es d,h.get? a=some o/\o.ExactDict/\o.data = .dict es d/\es.toList=xs.map (entryOfKey (dm (jz P w)))/\(xs.map (·.1)).Nodup
 | .set S n=>h.SetOf (intKind P w) a S n
 | .ins C dx fs=>H dx=some (.own a)/\fs.length<=1000/\dx≠a/\h.get? a=some (d8 C dx) /\
   ∃mA,h.Ns1 dx mA/\(∀f,vh (fs.lookup f) (mA f))/\pA mA (fs.map (·.1))
 | .own _=>∃o,h.get? a=some o
 | .xd fs=>∃mA,h.Ns1 a mA/\∀f,vh (fs.lookup f) (mA f)
 | .rng lo hi=>∃t u v,h.get? a=some { cls:=.type "range",data:=.fields #[.int lo t,.int hi u,.int 1 v] }
 | .frz o u=>h.get? a=some o/\qu H h a u
 | .tbl ps=>h.get? a=some { cls:=.none,data:=.fields ps }
 | .met f x=>h.get? a=some (lR (.ref f) (.ref x))
 | .ext φ=>φ h/\(∃o,h.get? a=some o)/\∀h1 h2:Heap,φ h1->(∀o,h1.get? a=some o->h2.get? a=some o)->φ h2
noncomputable def HOk (H:Hp) (h:Heap):Prop:=∀a o,H a=some o->qu P w H h a o
end
section
variable {P:Program}{w:bo}{H H':Hp}{h h':Heap}{a:Addr}{o:HO}
theorem qu.lt (x:qu P w H h a o):a<h.objs.size:=by
 cases o with
 | lst xs=>obtain ⟨_,_,_,_,e⟩:=x;exact av e
 | tup xs=>obtain ⟨_,_,_,p⟩:=x;exact p.lt
 | dK kvs=>obtain ⟨_,_,_,_,o,_,_,e,_⟩:=x;exact av e
 | dT kvs=>obtain ⟨_,_,_,_,o,_,_,e,_⟩:=x;exact av e
 | set S n=>obtain ⟨o,_,_,_,e,_⟩:=x;exact av e
 | ins C dx fs=>obtain ⟨_,_,_,e,_⟩:=x;exact av e
 | own y=>obtain ⟨_,e⟩:=x;exact av e
 | xd fs=>obtain ⟨_,⟨_,_,_,e,_⟩,_⟩:=x;exact av e
 | rng lo hi=>obtain ⟨_,_,_,e⟩:=x;exact av e
 | frz b u=>obtain ⟨e,_⟩:=x;exact av e
 | tbl ps=>exact av (show h.get? a=some _ from x)
 | met f y=>exact av (show h.get? a=some _ from x)
 | ext φ=>obtain ⟨_,⟨_,e⟩,_⟩:=x;exact av e
theorem Paired.mapP {α β:Type}{F G:α->β->Prop}:∀{l₁:List α}{j:List β},cU F l₁ j->(∀a b,F a b->G a b)->cU G l₁ j
 | _,_,.nil,_=>.nil
 | _,_,.cons r t,f=>.cons (f _ _ r) (Paired.mapP t f)
theorem qu.stay (x:qu P w H h a o) (k:∀b u,(b=a\/H b=some (.own a))->h.get? b=some u->h'.get? b=some u)
  (I:∀b,H b=some (.own a)->H' b=some (.own a)) (G:∀b xs,H b=some (.tup xs)->H' b=some (.tup xs)):qu P w H' h' a o:=by
 induction o with
 | lst xs=>obtain ⟨z,j,n,r,e⟩:=x;exact ⟨z,j,n,r,k _ _ (.inl rfl) e⟩
 | tup xs=>obtain ⟨z,j,r,g,e,c⟩:=x;exact ⟨z,j,r,g,k _ _ (.inl rfl) e,c⟩
 | dK kvs=>obtain ⟨z,y,m,r,g,es,i,e,c⟩:=x;exact ⟨z,y,m,r,g,es,i,k _ _ (.inl rfl) e,c⟩
 | dT kvs =>
  obtain ⟨z,y,xs,r,g,es,i,e,c⟩:=x
  exact ⟨z,y,xs,Paired.mapP r λp q z=>⟨z.1,G _ _ z.2.1,z.2.2⟩,g,es,i,k _ _ (.inl rfl) e,c⟩
 | set S n=>obtain ⟨g,es,i,t,e,c⟩:=x;exact ⟨g,es,i,t,k _ _ (.inl rfl) e,c⟩
 | ins C dx fs =>
  obtain ⟨d,z,ne,e,mA,⟨l,es,i,A,c⟩,r⟩:=x
  exact ⟨I _ d,z,ne,k _ _ (.inl rfl) e,mA,⟨l,es,i,k _ _ (.inr d) A,c⟩,r⟩
 | own y=>obtain ⟨g,e⟩:=x;exact ⟨g,k _ _ (.inl rfl) e⟩
 | xd fs=>obtain ⟨mA,⟨l,es,i,e,c⟩,r⟩:=x;exact ⟨mA,⟨l,es,i,k _ _ (.inl rfl) e,c⟩,r⟩
 | rng lo hi=>obtain ⟨t,u,v,e⟩:=x;exact ⟨t,u,v,k _ _ (.inl rfl) e⟩
 | frz g u s=>obtain ⟨e,q⟩:=x;exact ⟨k _ _ (.inl rfl) e,s q⟩
 | tbl ps =>
  have e:h.get? a=some { cls:=.none,data:=.fields ps }:=x
  show h'.get? a=some { cls:=.none,data:=.fields ps }
  exact k a _ (.inl rfl) e
 | met f y =>
  have e:h.get? a=some (lR (.ref f) (.ref y)):=x
  show h'.get? a=some (lR (.ref f) (.ref y))
  exact k a _ (.inl rfl) e
 | ext φ=>obtain ⟨p,⟨o,e⟩,st⟩:=x;exact ⟨st _ _ p λo q=>k _ _ (.inl rfl) q,⟨o,k _ _ (.inl rfl) e⟩,st⟩
theorem HOk.lt (x:HOk P w H h) (e:H a=some o):a<h.objs.size:=(x a o e).lt
theorem HOk.fresh (x:HOk P w H h) (e:h.objs.size<=a):H a=none:=by
 cases q:H a with
 | none=>rfl
 | some u=>exact absurd (aQ (x.lt q) e) (cK _)
theorem HOk.kept (x:HOk P w H h) (k:∀b u,h.get? b=some u->h'.get? b=some u):HOk P w H h':=λa o e =>
 (x a o e).stay (λb u _ q=>k b u q) (λ_ q=>q) λ_ _ q=>q
theorem HOk.laid (x:HOk P w H h) (k:∀b u,h.get? b=some u->h'.get? b=some u) (j:h.objs.size<=a) (new:qu P w (upd H a o) h' a o):HOk P w (upd H a o) h':=λb u e=>by
 have d:=x.fresh j
 by_cases f:b=a
 ·subst f;rw [j6] at e;cases e;exact new
 ·rw [j7 f] at e
  exact (x b u e).stay (λc v _ q=>k c v q) (λc q=>by rw [j7 (j1 q d)];exact q) λc xs q=>by rw [j7 (j1 q d)];exact q
end
noncomputable def Rd (H:Hp) (a:Addr) (u:HO):Prop:=H a=some u\/∃o,H a=some (.frz o u)
theorem Rd.ok {w:bo}(r:Rd H a u) (x:HOk P w H h):qu P w H h a u:=by
 rcases r with r | ⟨o,r⟩
 ·exact x a u r
 ·obtain ⟨_,q⟩:=x a _ r
  exact q
noncomputable def Mut:Option HO->Prop
 | some (.lst _)=>True
 | some (.dK _)=>True
 | some (.dT _)=>True
 | some (.set _ _)=>True
 | some (.ins _ _ _)=>True
 | some (.ext _)=>True
 | _=>False
section
variable {P:Program}{w:bo}{H:Hp}{h h':Heap}{x e:Addr}{o':HO}
theorem HOk.write (ok:HOk P w H h) (j:Mut (H x)) (I:e=x\/H e=some (.own x)) (k:∀b u,b≠e->h.get? b=some u->h'.get? b=some u) (G:∃u,h'.get? e=some u)
  (new:qu P w (upd H x o') h' x o'):HOk P w (upd H x o') h':=λb u q=>by
 have d:∀c y,H c=some (.own y)->c≠x:=λc y r z=>by subst z;rw [r] at j;exact j
 have g:∀c xs,H c=some (.tup xs)->c≠x:=λc xs r z=>by subst z;rw [r] at j;exact j
 by_cases f:b=x
 ·subst f;rw [j6] at q;cases q;exact new
 ·rw [j7 f] at q
  by_cases a:b=e
  ·have i:H b=some (.own x):=by
    rcases I with z | z
    ·exact absurd (a.trans z) f
    ·rw [a];exact z
   rw [q] at i;cases i
   obtain ⟨v,l⟩:=G
   exact ⟨v,by rw [a];exact l⟩
  ·refine (ok b u q).stay (λc v hc r=>k c v ?_ r) (λc r=>by rw [j7 (d c b r)];exact r) λc xs r=>by rw [j7 (g c xs r)];exact r
   rcases hc with rfl | hc
   ·exact a
   ·rintro rfl
    rcases I with z | z
    ·exact d c b hc z
    ·rw [hc] at z;cases z;exact f rfl
end
structure Un (fs ex:List Addr) (H H':Hp) (h h':Heap):Prop where
 keep:∀b o,h.get? b=some o->H b=none->b∉fs->b∉ex->h'.get? b=some o
 slot:∀b o,h.get? b=some o->H b=none->b∈fs->b∉ex->∃sl,h'.get? b=some { o with slots:=sl }
 free:∀b o,h.get? b=some o->H b=none->b∉ex->H' b=none
 there:∀b o,h.get? b=some o->b∉ex->∃o',h'.get? b=some o'
 tups:∀b xs,H b=some (.tup xs)->H' b=some (.tup xs)
 frzs:∀b o u,H b=some (.frz o u)->H' b=some (.frz o u)
 tbls:∀b ps,H b=some (.tbl ps)->∃more,H' b=some (.tbl (ps++more))
section
variable {fs fs' ex ex':List Addr}{H H1 H2:Hp}{h h1 h2 h':Heap}{a x e:Addr}{o:HO}
theorem Un.any (u:Un fs ex H H1 h h1) {b:Addr}{j:Obj}(q:h.get? b=some j) (n:H b=none) (z:b∉ex):∃G,h1.get? b=some { j with slots:=G }:=by
 by_cases a:b∈fs
 ·exact u.slot b j q n a z
 ·exact ⟨j.slots,u.keep b j q n a z⟩
theorem Un.kept (k:∀b u,h.get? b=some u->h'.get? b=some u):Un fs ex H H h h' :=
 ⟨λb a q _ _ _=>k b a q,λb a q _ _ _=>⟨a.slots,k b a q⟩,λ_ _ _ n _=>n,λb a q _=>⟨a,k b a q⟩,λ_ _ q=>q,λ_ _ _ q=>q,λ_ ps q=>⟨#[],by rw [q];simp⟩⟩
theorem Un.refl:Un fs ex H H h h:=Un.kept λ_ _ q=>q
theorem Un.laid (k:∀b u,h.get? b=some u->h'.get? b=some u) (hp:h.objs.size<=a) (hn:H a=none):Un fs ex H (upd H a o) h h' where
 keep:=λb u q _ _ _=>k b u q
 slot:=λb u q _ _ _=>⟨u.slots,k b u q⟩
 free:=λb u q n _=>by rw [j7 (aB (aQ (av q) hp))];exact n
 there:=λb u q _=>⟨u,k b u q⟩
 tups:=λb xs q=>by rw [j7 (j1 q hn)];exact q
 frzs:=λb u xs q=>by rw [j7 (j1 q hn)];exact q
 tbls:=λb ps q=>⟨#[],by rw [j7 (j1 q hn),q];simp⟩
theorem Un.write (j:Mut (H x)) (I:e=x\/H e=some (.own x)) (k:∀b u,b≠e->h.get? b=some u->h'.get? b=some u) (G:∃u,h'.get? e=some u):Un fs ex H (upd H x o) h h':=by
 have d:∀b,H b=none->b≠x:=λb n z=>by subst z;rw [n] at j;exact j
 have f:∀b,H b=none->b≠e:=λb n z=>by
  subst z
  rcases I with r | r
  ·exact d b n r
  ·rw [n] at r;cases r
 have c:∀b u,H b=some u->¬Mut (some u)->b≠x:=λb u q nm z=>by subst z;rw [q] at j;exact nm j
 refine ⟨λb u q n _ _=>k b u (f b n) q,λb u q n _ _=>⟨u.slots,k b u (f b n) q⟩,λb u q n _=>by rw [j7 (d b n)];exact n,λb u q _=>?_,
  λb xs q=>by rw [j7 (c b _ q λz=>z)];exact q,λb u xs q=>by rw [j7 (c b _ q λz=>z)];exact q,λb ps q=>⟨#[],by rw [j7 (c b _ q λz=>z),q];simp⟩⟩
 by_cases a:b=e
 ·subst a;exact G
 ·exact ⟨u,k b u a q⟩
end
noncomputable def trk (h:Heap) (H:Hp):List Addr:=(aJ h.objs.size).filter λa=>(H a).isSome
noncomputable def Jh (h:Heap) (H:Hp):Heap:=PySem.W.hideAll h (trk h H)
theorem V4 (h:Heap) (H:Hp):(Jh h H).objs.size=h.objs.size:=PySem.W.hideAll_size _ _
theorem U4 {h:Heap}{H:Hp}{b:Addr}(e:h.get? b=some o) (n:H b=none):(Jh h H).get? b=some o :=
 PySem.W.hideAll_get _ e λa=>by
  have q:(H b).isSome=true:=(List.mem_filter.mp a).2
  rw [n] at q;simp at q
theorem UC {b:Addr}(e:(Jh h H).get? b=some o):h.get? b=some o/\H b=none:=by
 have a:h.get? b=some o:=PySem.W.of_hideAll (trk h H) e
 refine ⟨a,?_⟩
 cases q:H b with
 | none=>rfl
 | some x =>
  have c:b∈trk h H:=List.mem_filter.mpr ⟨List.mem_range.mpr (av a),by simp [q]⟩
  have z:(Jh h H).get? b=none:=PySem.W.hideAll_none (trk h H) c
  rw [z] at e;cases e
noncomputable def Us (g h:Heap) (L:Addr):List (Addr×Obj):=(aJ h.objs.size).filterMap λa=>if a=L\/(g.get? a).isSome=true then none else (h.get? a).map λo=>(a,o)
noncomputable def xI (g h:Heap) (L d:Addr):List (Addr×Obj):=(Us g h L).filter λp=>decide (p.1≠d)
end L2
namespace L2
structure Mod (K:ag) (mg:Str->Option aj) (base:Heap):Prop where
 kin:K.In base
 glob:base.Ns mainGlobals mg
 blt:∃mb,base.Ns mB mb/\∀x:Str,x ≠ "__name__" -> mb x=fE x
 nolimit:base.NoLimit
structure Cx where
 prog:Program
 w:bo
 K:ag
 mg:Str->Option aj
 base:Heap
 A:bx
 N:List Str
 s₀:Shared
 H₀:Hp
 env:Env
 outer:List Env
 stack:List Env
 ex:List Addr
 fn:Str->Bool
 calm:Bool
 pn:List (Addr×Obj)
 xe:aj->Shared->Prop
noncomputable def frs (l:List Env):List Addr:=l.filterMap (·.frame)
noncomputable abbrev Cx.fs (X:Cx):List Addr:=frs X.outer
noncomputable def Vis (j:Scope) (x:Str):Prop:=j.names.lookup x=some .local\/j.names.lookup x=some .cell\/j.names.lookup x=some .free
noncomputable def Loc (j:Scope) (x:Str):Prop:=j.names.lookup x=some .local\/j.names.lookup x=some .cell
noncomputable def Look (env:Env) (h:Heap) (m:Str->Option aj) (x:Str) (u:aj):Prop :=
 (env.kindOf x=some .local/\m x=some u)\/((env.kindOf x=some .cell\/env.kindOf x=some .free)/\∃c,env.cells.lookup x=some c/\h.IsCell c (some u))
structure Cx.Ok (X:Cx):Prop where
 mod:Mod X.K X.mg X.base
 kind:X.env.scope.kind = .function
 glob:X.env.globals=mainGlobals
 blt:X.env.builtins=mB
 above:X.s₀.heap.objs.size<=X.env.locals
 inj:∀x y c,X.env.cells.lookup x=some c->X.env.cells.lookup y=some c->x=y
 has:∀x,(X.env.kindOf x=some .cell\/X.env.kindOf x=some .free)->∃c,X.env.cells.lookup x=some c
 cab:∀x c,X.fn x=true->X.env.cells.lookup x=some c->X.s₀.heap.objs.size<=c
 hd:X.calm=true->X.A.handled=none
 frames:X.A.frames=some X.stack
 stk:X.stack=X.outer\/(X.stack=X.env::X.outer/\X.env.frame=some X.env.locals)
 exf:∀b∈X.ex,b≠X.env.locals/\∀x c,X.env.cells.lookup x=some c->c≠b
 bs:∀b o,X.base.get? b=some o->X.s₀.heap.get? b=some o/\X.H₀ b=none
 bsz:X.base.objs.size<=X.s₀.heap.objs.size
 noex:∀b o,X.base.get? b=some o->b∉X.ex
 exfs:∀b∈X.ex,b∉X.fs
 funs:X.s₀.heap.FunFrames X.base X.outer
 frf:∀b∈X.fs,X.H₀ b=none
structure Inv (X:Cx) (pins:List (Addr×Obj)) (σ:List (Option V)) (H:Hp) (s:Shared):Prop where
 ok:X.Ok
 os:s.os=X.s₀.os
 bare:iL s.gens
 base:Un X.fs X.ex X.H₀ H X.s₀.heap s.heap
 loc:∃m,s.heap.Ns X.env.locals m/\∀(i:Nat) (x:Str) (v:V),X.N[i]? = some x->σ[i]? = some (some v)->Vis X.env.scope x->∃u,jJ v u/\Look X.env s.heap m x u
 cell:∀x c,X.env.cells.lookup x=some c->∃v,s.heap.IsCell c v
 free:H X.env.locals=none
 freeC:∀x c,X.env.cells.lookup x=some c->H c=none
 pin:∀p∈X.pn++pins,s.heap.get? p.1=some p.2/\H p.1=none/\p.1≠X.env.locals/\p.1∉X.fs/\∀v,p.2.data≠.cell v
 hok:HOk X.prog X.w H s.heap
 len:σ.length=X.N.length
section
variable {X:Cx}{pins:List (Addr×Obj)}{σ:List (Option V)}{H H':Hp}{s:Shared}{h':Heap}
theorem Cx.Ok.nofr (ok:X.Ok) {b:Addr}(e:X.base.get? b=some o):b∉X.fs:=λa=>by
 have:=(ok.funs.mem a).1
 rw [e] at this;cases this
theorem Inv.bs (I:Inv X pins σ H s):∀b o,X.base.get? b=some o->s.heap.get? b=some o/\H b=none:=λb o e =>
 ⟨I.base.keep b o (I.ok.bs b o e).1 (I.ok.bs b o e).2 (I.ok.nofr e) (I.ok.noex b o e),I.base.free b o (I.ok.bs b o e).1 (I.ok.bs b o e).2 (I.ok.noex b o e)⟩
theorem Inv.bk (I:Inv X pins σ H s):∀b o,X.base.get? b=some o->s.heap.get? b=some o:=λb o e=>(I.bs b o e).1
theorem Inv.mod (I:Inv X pins σ H s):Mod X.K X.mg X.base:=I.ok.mod
theorem Inv.kIn (I:Inv X pins σ H s):X.K.In s.heap:=I.ok.mod.kin.keeps I.bk
theorem Inv.lt (I:Inv X pins σ H s):X.env.locals<s.heap.objs.size:=let ⟨_,a,_⟩:=I.loc;a.lt
theorem Inv.sz (I:Inv X pins σ H s):X.s₀.heap.objs.size<=s.heap.objs.size:=aI I.ok.above (fF I.lt)
theorem Inv.nofs (I:Inv X pins σ H s) {a:Addr}(h:s.heap.objs.size<=a):a∉X.fs:=λc=>by
 obtain ⟨_,o,b,_⟩:=I.ok.funs.mem c
 exact absurd (aQ (av b) (aI I.sz h)) (cK _)
theorem Inv.cne (I:Inv X pins σ H s):∀x c,X.env.cells.lookup x=some c->c≠X.env.locals:=λx c e z=>by
 obtain ⟨v,o,b,f⟩:=I.cell x c e
 obtain ⟨m,⟨o',es,g,a,d,_⟩,_⟩:=I.loc
 rw [z,a] at b;cases b;rw [d] at f;cases f
theorem Inv.funs (I:Inv X pins σ H s):s.heap.FunFrames X.base X.outer:=by
 have all:∀(l:List Env),(∀b∈frs l,b∈X.fs)->X.s₀.heap.FunFrames X.base l->s.heap.FunFrames X.base l:=by
  intro l
  induction l with
  | nil=>intro _ _;trivial
  | cons env r g =>
   intro f k
   obtain ⟨m,⟨L,o,a,j,i,n⟩,h⟩:=k
   have d:L∈X.fs:=f L (by unfold frs;rw [fM,a];exact aK)
   obtain ⟨p,e⟩:=I.base.slot L o i (I.ok.frf L d) d λz=>I.ok.exfs L z d
   exact ⟨m,⟨L,_,a,j,e,n⟩,g (λb c=>f b (by unfold frs;rw [fM,a];exact aH _ c)) h⟩
 exact all X.outer (λ_ c=>c) I.ok.funs
theorem Inv.stack (I:Inv X pins σ H s):s.heap.FunFrames X.base X.stack:=by
 rcases I.ok.stk with e | ⟨e,b⟩
 ·rw [e];exact I.funs
 ·rw [e]
  obtain ⟨m,a,_⟩:=I.loc
  refine .cons (by rw [I.ok.kind];decide) b a ?_ I.funs
  exact Heap.get?_none_of_le (aI I.ok.bsz I.ok.above)
theorem Inv.stkSub (I:Inv X pins σ H s):∀b∈frs X.stack,b∈X.env.locals::X.fs:=λb a=>by
 rcases I.ok.stk with e | ⟨e,c⟩
 ·rw [e] at a;exact aH _ a
 ·rw [e] at a
  unfold frs at a
  rw [fM,c] at a
  exact a
theorem Inv.stkFree (I:Inv X pins σ H s):∀b∈frs X.stack,H b=none:=λb hb=>by
 rcases List.mem_cons.mp (I.stkSub b hb) with e | hb
 ·rw [e];exact I.free
 ·obtain ⟨_,o,a,_⟩:=I.ok.funs.mem hb
  exact I.base.free b o a (I.ok.frf b hb) λz=>I.ok.exfs b z hb
theorem Inv.step {t':Nat}{d':Drawn}{ch:List Addr}(I:Inv X pins σ H s)
  (j:∀b∈ch,↥130/\b≠X.env.locals/\ ↥104/\∀p∈X.pn++pins,p.1≠b)
  (keep:∀b o,b≠X.env.locals->b∉X.fs->b∉ch->s.heap.get? b=some o->H b=none->h'.get? b=some o)
  (G:∀b o,b≠X.env.locals->b∈X.fs->b∉ch->s.heap.get? b=some o->H b=none->∃sl,h'.get? b=some { o with slots:=sl }) (free:∀b o,b∉ch->s.heap.get? b=some o->H b=none->H' b=none)
  (U:∀b o,b∉ch->s.heap.get? b=some o->∃o',h'.get? b=some o')
  (Y:∀b xs,H b=some (.tup xs)->H' b=some (.tup xs)) (ae:∀b o u,H b=some (.frz o u)->H' b=some (.frz o u)) (ab:∀b ps,H b=some (.tbl ps)->∃ac,H' b=some (.tbl (ps++ac)))
  (ns:∀m,s.heap.Ns X.env.locals m->h'.Ns X.env.locals m) (hok:HOk X.prog X.w H' h') (hg:iL g') :
  Inv X pins σ H' { s with heap:=h',gens:=g',drawn:=d',toks:=t' }:=by
 have neL:∀b o,X.s₀.heap.get? b=some o->b≠X.env.locals:=λb o e=>aB (aQ (av e) I.ok.above)
 have t:∀b o,X.s₀.heap.get? b=some o->b∉X.ex->b∉ch:=λb o e a h=>by
  rcases (j b h).1 with z | z
  ·exact a z
  ·exact absurd (aQ (av e) z) (cK _)
 have y:∀x c,X.env.cells.lookup x=some c->∀v,s.heap.IsCell c v->h'.IsCell c v:=λx c e v ⟨o,A,C⟩=>by
  have g:c∉ch:=λz=>(j c z).2.2.1 x c e rfl
  by_cases K:c∈X.fs
  ·obtain ⟨sl,q⟩:=G c o (I.cne x c e) K g A (I.freeC x c e)
   exact ⟨_,q,C⟩
  ·exact ⟨o,keep c o (I.cne x c e) K g A (I.freeC x c e),C⟩
 refine ⟨I.ok,I.os,hg,⟨λb o e n h a=>?_,λb o e n h a=>?_,λb o e n a=>?_,λb o e a=>?_,λb xs e=>Y b xs (I.base.tups b xs e),λb o xs e=>ae b o xs (I.base.frzs b o xs e),λb ps e=>?_⟩,?_,λx c e=>?_,?_,λx c e=>?_,λp J=>?_,hok,I.len⟩
 ·exact keep b o (neL b o e) h (t b o e a) (I.base.keep b o e n h a) (I.base.free b o e n a)
 ·obtain ⟨sl,f⟩:=I.base.slot b o e n h a
  obtain ⟨D,B⟩:=G b _ (neL b o e) h (t b o e a) f (I.base.free b o e n a)
  exact ⟨D,B⟩
 ·obtain ⟨o',f⟩:=I.base.there b o e a
  exact free b o' (t b o e a) f (I.base.free b o e n a)
 ·obtain ⟨o',f⟩:=I.base.there b o e a
  exact U b o' (t b o e a) f
 ·obtain ⟨M,f⟩:=I.base.tbls b ps e
  obtain ⟨L,B⟩:=ab b _ f
  exact ⟨M++L,by rw [B,Array.append_assoc]⟩
 ·obtain ⟨m,N,O⟩:=I.loc
  refine ⟨m,ns m N,λi x v f B P=>?_⟩
  obtain ⟨u,r,l⟩:=O i x v f B P
  refine ⟨u,r,?_⟩
  rcases l with l | ⟨k,c,e,z⟩
  ·exact .inl l
  ·exact .inr ⟨k,c,e,y x c e _ z⟩
 ·obtain ⟨v,z⟩:=I.cell x c e
  exact ⟨v,y x c e v z⟩
 ·obtain ⟨m,⟨o,_,_,A,_⟩,_⟩:=I.loc
  exact free _ o (λz=>(j _ z).2.1 rfl) A I.free
 ·obtain ⟨v,o,A,C⟩:=I.cell x c e
  exact free c o (λz=>(j c z).2.2.1 x c e rfl) A (I.freeC x c e)
 ·obtain ⟨e,n,ne,E,d⟩:=I.pin p J
  have g:p.1∉ch:=λz=>(j p.1 z).2.2.2 p J rfl
  exact ⟨keep p.1 p.2 ne E g e n,free p.1 p.2 g e n,ne,E,d⟩
theorem Inv.un {t':Nat}(I:Inv X pins σ H s) (u:Un X.fs [] H H' s.heap h') (hok:HOk X.prog X.w H' h'):Inv X pins σ H' { s with heap:=h',toks:=t' }:=by
 obtain ⟨m,⟨o,es,p,d,r⟩,_⟩:=id I.loc
 obtain ⟨k,j⟩:=u.any d I.free (by simp)
 exact I.step (g':=s.gens) (d':=s.drawn) (ch:=[]) (λ_ z=>nomatch z) (λb o _ c _ e n=>u.keep b o e n c (by simp)) (λb o _ c _ e n=>u.slot b o e n c (by simp)) (λb o _ e n=>u.free b o e n (by simp)) (λb o _ e=>u.there b o e (by simp)) u.tups u.frzs u.tbls (λl i=>by
  obtain ⟨o',f,g,a,h⟩:=i
  rw [d] at a;cases a
  exact ⟨_,f,g,j,h⟩) hok I.bare
theorem Inv.call {t':Nat}{d':Drawn}{ch:List Addr}(I:Inv X pins σ H s) (u:Un (frs X.stack) ch H H' s.heap h') (hok:HOk X.prog X.w H' h') (G:iL g')
  (j:∀b∈ch,↥130/\b≠X.env.locals/\ ↥104/\∀p∈X.pn++pins,p.1≠b) :
  Inv X pins σ H' { s with heap:=h',gens:=g',drawn:=d',toks:=t' }:=by
 obtain ⟨m,⟨o,es,y,g,r⟩,_⟩:=id I.loc
 obtain ⟨t,f⟩:=u.any g I.free λz=>(j _ z).2.1 rfl
 exact I.step (ch:=ch) j (λb o f q a e n=>u.keep b o e n (λz=>(List.mem_cons.mp (I.stkSub b z)).elim f q) a) (λb o _ _ a e n=>u.any e n a) (λb o a e n=>u.free b o e n a) (λb o a e=>u.there b o e a) u.tups u.frzs u.tbls (λv l=>by
  obtain ⟨o',h,i,d,k⟩:=l
  rw [g] at d;cases d
  exact ⟨_,h,i,f,k⟩) hok G
theorem Inv.turned {t':Nat}{it:Addr}(I:Inv X pins σ H s) (k:∀b o,b≠it->s.heap.get? b=some o->h'.get? b=some o) (G:H it=none) (j:it≠X.env.locals)
  (h1:it∈X.ex\/X.s₀.heap.objs.size<=it) (h2:∀x c,X.env.cells.lookup x=some c->c≠it) (U:∀p∈X.pn++pins,p.1≠it):Inv X pins σ H { s with heap:=h',toks:=t' }:=by
 have d:∀b u,H b=some u->b≠it:=λb u e z=>by rw [z,G] at e;cases e
 refine I.step (g':=s.gens) (d':=s.drawn) (ch:=[it]) (λb h=>?_) (λb o _ _ a e _=>k b o (λz=>a (by simp [z])) e) (λb o _ _ a e _=>⟨o.slots,k b o (λz=>a (by simp [z])) e⟩) (λ_ _ _ _ n=>n)
  (λb o a e=>⟨o,k b o (λz=>a (by simp [z])) e⟩) (λ_ _ e=>e) (λ_ _ _ e=>e) (λb ps e=>⟨#[],by rw [e];simp⟩) (λm g=>?_) (λb u e=>?_) I.bare
 ·have e:b=it:=by simpa using h
  subst e
  exact ⟨h1,j,h2,U⟩
 ·obtain ⟨o,es,i,f,r⟩:=g
  exact ⟨o,es,i,k _ o (cx j) f,r⟩
 ·refine (I.hok b u e).stay (λc v a q=>k c v ?_ q) (λ_ q=>q) λ_ _ q=>q
  rcases a with z | z
  ·rw [z];exact d b u e
  ·exact d c _ z
theorem Inv.tok (I:Inv X pins σ H s) (t:Nat):Inv X pins σ H { s with toks:=t }:=I.un (h':=s.heap) (t':=t) Un.refl I.hok
theorem Inv.kept {t':Nat}(I:Inv X pins σ H s) (k:∀b u,s.heap.get? b=some u->h'.get? b=some u):Inv X pins σ H { s with heap:=h',toks:=t' }:=I.un (Un.kept k) (I.hok.kept k)
theorem Inv.laid {a:Addr}{t':Nat}(I:Inv X pins σ H s) (k:∀b u,s.heap.get? b=some u->h'.get? b=some u) (j:s.heap.objs.size<=a) (new:qu X.prog X.w (upd H a o) h' a o) :
  Inv X pins σ (upd H a o) { s with heap:=h',toks:=t' }:=I.un (Un.laid k j (I.hok.fresh j)) (I.hok.laid k j new)
theorem Inv.write {x e:Addr}{t':Nat}(I:Inv X pins σ H s) (z:Mut (H x)) (G:e=x\/H e=some (.own x)) (k:∀b u,b≠e->s.heap.get? b=some u->h'.get? b=some u) (j:∃u,h'.get? e=some u)
  (new:qu X.prog X.w (upd H x o) h' x o):Inv X pins σ (upd H x o) { s with heap:=h',toks:=t' }:=I.un (Un.write z G k j) (I.hok.write z G k j new)
theorem Inv.pins_of {j:List (Addr×Obj)}(I:Inv X pins σ H s) (h:∀p∈j,s.heap.get? p.1=some p.2/\H p.1=none/\p.1≠X.env.locals/\p.1∉X.fs/\∀v,p.2.data≠.cell v):Inv X j σ H s :=
 ⟨I.ok,I.os,I.bare,I.base,I.loc,I.cell,I.free,I.freeC,λp a=>(List.mem_append.mp a).elim (λz=>I.pin p (cF _ z)) (h p),I.hok,I.len⟩
theorem gK {N:List Str}(z:N.Nodup) {i j:Nat}(a:N[i]? = some x) (b:N[j]? = some x):i=j:=by
 obtain ⟨h1,d⟩:=List.getElem?_eq_some_iff.mp a
 obtain ⟨h2,c⟩:=List.getElem?_eq_some_iff.mp b
 exact (List.getElem_inj z).mp (d.trans c.symm)
theorem JP {i:Nat}{Q:Unit->Shared->Prop}(I:Inv X pins σ H s) (hN:X.N.Nodup) (hi:X.N[i]? = some x) (G:Loc X.env.scope x) (r:jJ v u)
  (h:∀s',Inv X pins (σ.set i (some v)) H s'->(∃a,eI a s.heap s'.heap/\(a=X.env.locals\/X.env.cells.lookup x=some a))->Q () s') (hf:X.fn x=true\/X.env.scope.names.lookup x=some .local:=by first | exact .inl rfl | exact .inr rfl | assumption):ax M A (tX X.env x u) Q E s:=by
 obtain ⟨m,hn,hl⟩:=id I.loc
 have ac:(X.env.scope.kind == .class || (X.env.scope.kind == .module && X.env.locals != X.env.globals))=false:=by rw [I.ok.kind];rfl
 have P:i<σ.length:=by rw [I.len];exact (↥84).1
 have cne:=I.cne
 have l:∀{a:Addr} {h':Heap},(∃o,s.heap.get? a=some o/\H a=none)->eI a s.heap h'->HOk X.prog X.w H h':=λ{a h'} ha f b ob e=>by
  obtain ⟨_,_,D⟩:=ha
  refine (I.hok b ob e).stay (λc K hc q=>(f.2 c ?_).trans q) (λ_ q=>q) λ_ _ q=>q
  rintro rfl
  rcases hc with rfl | hc
  ·rw [D] at e;cases e
  ·rw [D] at hc;cases hc
 rcases G with hk | hk
 ·refine wpAny_storeName_local hk hn (λh' al f=>?_) ac
  obtain ⟨oL,_,_,ae,_⟩:=id hn
  refine h _ ⟨I.ok,I.os,I.bare,⟨λb o e n C G=>?_,λb o e n C G=>?_,I.base.free,λb o e G=>?_,I.base.tups,I.base.frzs,I.base.tbls⟩,⟨_,al,λj y T g t e3=>?_⟩,λy c e=>?_,I.free,I.freeC,λp hp=>?_,l ⟨oL,ae,I.free⟩ f,by simpa using I.len⟩ ⟨_,f,.inl rfl⟩
  ·exact (f.2 b (aB (aQ (av e) I.ok.above))).trans (I.base.keep b o e n C G)
  ·obtain ⟨V,g⟩:=I.base.slot b o e n C G
   exact ⟨V,(f.2 b (aB (aQ (av e) I.ok.above))).trans g⟩
  ·obtain ⟨o',g⟩:=I.base.there b o e G
   exact ⟨o',(f.2 b (aB (aQ (av e) I.ok.above))).trans g⟩
  ·by_cases B:j=i
   ·subst B
    rw [hi] at g;cases g
    rw [i6 P] at t
    cases t
    exact ⟨u,r,.inl ⟨hk,by simp⟩⟩
   ·rw [iP (cx B)] at t
    obtain ⟨U,Y,q⟩:=hl j y T g t e3
    refine ⟨U,Y,?_⟩
    rcases q with ⟨k,e⟩ | ⟨k,c,e,z⟩
    ·refine .inl ⟨k,?_⟩
     have:y≠x:=λe=>B (gK hN g (e ▸ hi))
     simp [this,e]
    ·exact .inr ⟨k,c,e,z.sameBut f (cne y c e)⟩
  ·obtain ⟨K,z⟩:=I.cell y c e
   exact ⟨K,z.sameBut f (cne y c e)⟩
  ·obtain ⟨e,n,ne,Z,d⟩:=I.pin p hp
   exact ⟨(f.2 p.1 ne).trans e,n,ne,Z,d⟩
 ·have J:X.fn x=true:=by
   rcases hf with z | z
   ·exact z
   ·rw [z] at hk;cases hk
  obtain ⟨c,hc⟩:=I.ok.has x (.inl hk)
  obtain ⟨K,z⟩:=I.cell x c hc
  refine wpAny_storeName_cell I.ok.kind hk hc z (λh' S f=>?_)
  obtain ⟨oc,O,ab⟩:=id z
  refine h { s with heap:=h' } ⟨I.ok,I.os,I.bare,⟨λb o e n C G=>?_,λb o e n C G=>?_,I.base.free,λb o e G=>?_,I.base.tups,I.base.frzs,I.base.tbls⟩,⟨m,hn.sameBut f (cx (cne x c hc)),λj y T g t e3=>?_⟩,λy L e=>?_,I.free,I.freeC,λp hp=>?_,l ⟨oc,O,I.freeC x c hc⟩ f,by simpa using I.len⟩ ⟨c,f,.inr hc⟩
  ·exact (f.2 b (aB (aQ (av e) (I.ok.cab x c J hc)))).trans (I.base.keep b o e n C G)
  ·obtain ⟨V,g⟩:=I.base.slot b o e n C G
   exact ⟨V,(f.2 b (aB (aQ (av e) (I.ok.cab x c J hc)))).trans g⟩
  ·obtain ⟨o',g⟩:=I.base.there b o e G
   exact ⟨o',(f.2 b (aB (aQ (av e) (I.ok.cab x c J hc)))).trans g⟩
  ·by_cases B:j=i
   ·subst B
    rw [hi] at g;cases g
    rw [i6 P] at t
    cases t
    exact ⟨u,r,.inr ⟨.inl hk,c,hc,S⟩⟩
   ·rw [iP (cx B)] at t
    obtain ⟨U,Y,q⟩:=hl j y T g t e3
    refine ⟨U,Y,?_⟩
    rcases q with q | ⟨k,L,e,z'⟩
    ·exact .inl q
    ·refine .inr ⟨k,L,e,z'.sameBut f ?_⟩
     rintro rfl
     exact B (gK hN g (I.ok.inj _ _ _ e hc ▸ hi))
  ·by_cases R:L=c
   ·subst R;exact ⟨_,S⟩
   ·obtain ⟨w2,z2⟩:=I.cell y L e
    exact ⟨w2,z2.sameBut f R⟩
  ·obtain ⟨e,n,ne,Z,d⟩:=I.pin p hp
   refine ⟨(f.2 p.1 ?_).trans e,n,ne,Z,d⟩
   intro q
   rw [q,O] at e
   have q':oc=p.2:=aT e
   exact d K (by rw [<- q'];exact ab)
theorem uO {i:Nat}{Q:Unit->Shared->Prop}(I:Inv X pins σ H s) (G:X.N.Nodup) (hi:X.N[i]? = some x) (j:Loc X.env.scope x) (r:jJ v u)
  (h:∀s',Inv X pins (σ.set i (some v)) H s'->Q () s') (z:X.fn x=true\/X.env.scope.names.lookup x=some .local:=by first | exact .inl rfl | exact .inr rfl | assumption):ax M A (tX X.env x u) Q E s :=
 JP I G hi j r (λs' a _=>h s' a) z
theorem Inv.call' {s':Shared}{ch:List Addr}(I:Inv X pins σ H s) (z:s'.os=s.os) (u:Un (frs X.stack) ch H H' s.heap s'.heap) (hok:HOk X.prog X.w H' s'.heap) (G:iL s'.gens)
  (j:∀b∈ch,↥130/\b≠X.env.locals/\ ↥104/\∀p∈X.pn++pins,p.1≠b):Inv X pins σ H' s':=by
 obtain ⟨h',g',d',t',o'⟩:=s'
 have e:o'=s.os:=z
 subst e
 exact I.call (g':=g') (t':=t') (d':=d') u hok G j
end
noncomputable abbrev XK:=aj->Option Addr->Hp->Prop
noncomputable abbrev St:=List (Option V)
noncomputable abbrev VK:=V->Hp->Prop
noncomputable abbrev TE:=St->Hp->VK->Prop
noncomputable abbrev TT:=St->Hp->(Bool->Hp->Prop)->Prop
noncomputable abbrev TA:=St->Hp->(List V->Hp->Prop)->Prop
structure Ends where
 nx:St->Hp->Prop
 rt:VK
 bk:St->Hp->Prop:=λ_ _=>False
 ct:St->Hp->Prop:=λ_ _=>False
noncomputable abbrev TS:=Ends->St->Hp->Prop
noncomputable def EP (X:Cx) (pins:List (Addr×Obj)) (σ:St) (Q:VK) (u:aj) (s':Shared):Prop:=∃v H',Inv X pins σ H' s'/\jJ v u/\Q v H'
noncomputable def TP (X:Cx) (pins:List (Addr×Obj)) (σ:St) (Q:Bool->Hp->Prop) (b:Bool) (s':Shared):Prop:=∃H',Inv X pins σ H' s'/\Q b H'
noncomputable def AP (X:Cx) (pins:List (Addr×Obj)) (σ:St) (Q:List V->Hp->Prop) (us:List aj) (s':Shared):Prop:=∃a H',Inv X pins σ H' s'/\jH a us/\Q a H'
noncomputable def SP (X:Cx) (pins:List (Addr×Obj)) (D:Ends) (f:Flow) (s':Shared):Prop :=
 match f with
 | .next=>∃a H',Inv X pins a H' s'/\D.nx a H'
 | .brk=>∃a H',Inv X pins a H' s'/\D.bk a H'
 | .cont=>∃a H',Inv X pins a H' s'/\D.ct a H'
 | .ret u=>∃v a H',Inv X pins a H' s'/\jJ v u/\D.rt v H'
noncomputable def PE (X:Cx) (e:Expr) (t:TE):Prop :=
 ∀(pins:List (Addr×Obj)) (s:Shared) (σ:St) (H:Hp) (Q:VK),Inv X pins σ H s->t σ H Q->ax ↥3 X.A (eval e X.env) ↥61 X.xe s
noncomputable def PT (X:Cx) (e:Expr) (t:TT):Prop :=
 ∀(pins:List (Addr×Obj)) (s:Shared) (σ:St) (H:Hp) (Q:Bool->Hp->Prop),Inv X pins σ H s->t σ H Q->ax ↥3 X.A (isTrue e X.env (eval e X.env)) (TP X pins σ Q) X.xe s
noncomputable def PW (X:Cx) (e:Expr) (t:TT):Prop :=
 ∀(a:Sem aj) (pins:List (Addr×Obj)) (s:Shared) (σ:St) (H:Hp) (Q:Bool->Hp->Prop),Inv X pins σ H s->t σ H Q->ax ↥3 X.A (isTrue e X.env a) (TP X pins σ Q) X.xe s
theorem PW.pt {X:Cx}{e:Expr}{t:TT}(h:PW X e t):PT X e t:=h _
noncomputable def PA (X:Cx) (es:List Expr) (t:TA):Prop :=
 ∀(pos:Pos) (pins:List (Addr×Obj)) (s:Shared) (σ:St) (H:Hp) (Q:List V->Hp->Prop),Inv X pins σ H s->t σ H Q->ax ↥3 X.A (spliced ↥66) (AP X pins σ Q) X.xe s
noncomputable def PS (X:Cx) (st:Stmt) (t:TS):Prop :=
 ∀(pins:List (Addr×Obj)) (s:Shared) (σ:St) (H:Hp) (D:Ends),Inv X pins σ H s->t D σ H->ax ↥3 X.A (exec st X.env) (SP X pins D) X.xe s
noncomputable def PSs (X:Cx) (st:List Stmt) (t:TS):Prop :=
 ∀(pins:List (Addr×Obj)) (s:Shared) (σ:St) (H:Hp) (D:Ends),Inv X pins σ H s->t D σ H->ax ↥3 X.A (execs st X.env) (SP X pins D) X.xe s
theorem thn {α:Type}{t:Sem α}{Q j:α->Shared->Prop}{M:Model}{A:bx}{E:aj->Shared->Prop}{s:Shared}(h:ax M A t Q E s) (z:∀a s,Q a s->j a s):ax M A t j E s:=aZ h z λ_ _ x=>x
end L2
namespace L2
section
variable {X:Cx}
theorem bin {a b:Expr}{ta tb:TE}(ha:PE X a ta) (Y:PE X b tb) {pins:List (Addr×Obj)}{s:Shared}{σ:St}{H:Hp}{R:V->V->Hp->Prop}(I:Inv X pins σ H s) (h:ta σ H λx H1=>tb σ H1 λy H2=>R x y H2)
  {α:Type} {Q:α->Shared->Prop} {f:aj->aj->Sem α}
  (U:∀v u j x y H2,Inv X pins σ H2 j->jJ x v->jJ y u->R x y H2->ax ↥3 X.A (f v u) Q X.xe j) :
  ax ↥3 X.A (eval a X.env) (λv G=>ax ↥3 X.A (eval b X.env) (λu z=>ax ↥3 X.A (f v u) Q X.xe z) X.xe G) X.xe s:=by
 refine thn (ha pins s σ H _ I h) λv s1 ⟨x,H1,k,d,g⟩=>?_
 refine thn (Y pins s1 σ H1 _ k g) λu j ⟨y,H2,i,c,e⟩=>?_
 exact U v u j x y H2 i d c e
inductive tVar (i:Nat) (σ:St) (H:Hp) (Q:VK):Prop
 | mk (v:_) (_:σ[i]? = some (some v)) (_:Q v H)
noncomputable def tC (v:V):TE:=λ_ H Q=>Q v H
theorem Gy {i:Nat}{pos:Pos}(U:X.N[i]? = some x) (G:Vis X.env.scope x) (j: ↥22=false:=by decide) (z:(x == ("__classdict__" : Str))=false:=by decide):PE X (.Name x pos) (tVar i):=by
 intro pins s σ H Q I h
 obtain ⟨v,e,h⟩:=h
 obtain ⟨m,f,k⟩:=I.loc
 obtain ⟨u,r,l⟩:=k i x v U e G
 have b:EP X pins σ Q u s:=⟨v,H,I,r,h⟩
 rcases l with ⟨hk,g⟩ | ⟨hk,c,d,a⟩
 ·exact sU (nB I.ok.kind hk f g b) j
 ·rcases hk with hk | hk
  ·exact sU (oB I.ok.kind hk d a b) j
  ·exact sU (wpAny_loadName_free I.ok.kind hk d a b z) j
theorem j5 {i j pos}:PE X (.Constant (.int i) j pos) (tC (.int i)):=λ_ _ _ H _ I h=>wpAny_Constant_int ⟨.int i,H,I.tok _,⟨_,rfl⟩,h⟩
theorem wv {b j pos}:PE X (.Constant (.bool b) j pos) (tC (.bl b)):=λ_ _ _ H _ I h=>Constant_bool ⟨.bl b,H,I,rfl,h⟩
theorem vW {j pos}:PE X (.Constant .none j pos) (tC .non):=λ_ _ _ H _ I h=>Constant_none ⟨.non,H,I,rfl,h⟩
theorem jt {x j pos}:PE X (.Constant (.str x) j pos) (tC (.str x)):=λ_ _ _ H _ I h=>Calls.Constant_str ⟨.str x,H,I.tok _,⟨_,rfl⟩,h⟩
noncomputable def Gl (X:Cx) (x:Str):Prop:=X.env.kindOf x=some .globalImplicit
theorem yM {pos:Pos}{Q:aj->Shared->Prop}(I:Inv X pins σ H s) (z:Gl X x) (j:X.mg x=some u) (h:Q u s)
  (G: ↥22=false:=by decide):ax ↥3 X.A (eval (.Name x pos) X.env) Q E s :=
 lC I.ok.kind z (Calls.loadGlobal_global (by rw [I.ok.glob];exact I.mod.glob.keeps I.bk) j h) G
theorem yS {pos:Pos}{Q:aj->Shared->Prop}(I:Inv X pins σ H s) (U:Gl X x) (G:X.mg x=none) (j:fE x=some u) (h:Q u s)
  (z:x ≠ "__name__":=by decide) (Y: ↥22=false:=by decide):ax ↥3 X.A (eval (.Name x pos) X.env) Q E s:=by
 obtain ⟨a,h1,h2⟩:=I.mod.blt
 exact lC I.ok.kind U (Calls.loadGlobal_builtin (by rw [I.ok.glob];exact I.mod.glob.keeps I.bk) G (by rw [I.ok.blt];exact h1.keeps I.bk) ((h2 x z).trans j) h) Y
theorem qR {pos:Pos}(z:Gl X x) (j:X.mg x=some u) (r:jJ v u) (G: ↥22=false:=by decide):PE X (.Name x pos) (tC v) :=
 λ_ _ _ H _ I h=>yM I z j ⟨v,H,I,r,h⟩ G
theorem xF {pos:Pos}(U:Gl X x) (G:X.mg x=none) (j:fE x=some u) (r:jJ v u) (z:x ≠ "__name__":=by decide) (Y: ↥22=false:=by decide):PE X (.Name x pos) (tC v) :=
 λ_ _ _ H _ I h=>yS I U G j ⟨v,H,I,r,h⟩ z Y
variable {a b:Expr}{ta tb:TE}{pos:Pos}
noncomputable def PC (X:Cx) (j:CmpOp) (a b:Expr) (t:TE):Prop :=
 ∀(pins:List (Addr×Obj)) (s:Shared) (σ:St) (H:Hp) (Q:VK),Inv X pins σ H s->t σ H Q ->
  ax ↥3 X.A (eval a X.env) (λv d=>ax ↥3 X.A (eval b X.env) (λu c=>ax ↥3 X.A (cg j v u) ↥61 X.xe c) X.xe d) X.xe s
theorem Uf (b:Expr) {j:CmpOp}(h:j≠.In) (h2:j≠.NotIn):fb j b=false:=by
 have c:(j == CmpOp.In)=false:=by cases j <;> first | rfl | exact absurd rfl h
 have a:(j == CmpOp.NotIn)=false:=by cases j <;> first | rfl | exact absurd rfl h2
 cases b <;> simp [fb,c,a]
inductive tBI (Q:Bool->Hp->Prop) (x:V) (H1:Hp):Prop
 | mk (c:_) (_:x = .bl c) (_:Q c H1)
noncomputable def tB (t:TE):TT:=λσ H Q=>t σ H λx H1=>tBI Q x H1
theorem U5 {t:TE}(h:PC X j a b t) (h1:fb j b=false:=by first | exact Uf _ ⋯ ⋯ | rfl):PT X (.Compare a [j] [b] pos) (tB t):=by
 intro pins s σ H Q I g
 refine mZ (thn (h pins s σ H _ I g) λv s1 h1=>thn h1 λu l h2=>thn h2 λc k ⟨x,H1,i,e,f⟩=>?_) h1
 obtain ⟨d,rfl,q⟩:=f
 cases e
 exact bQ ⟨H1,i,q⟩
theorem zD {t:TE}(h:PE X e t) (z:∀j,isTrue e X.env j=(do let v <- j;fG e.pos;dN [v] (Ah v)):=by intro _;rfl):PT X e (tB t):=by
 intro pins s σ H Q I c
 refine isTrue_plain (thn (h pins s σ H _ I c) λv s1 ⟨x,H1,f,a,b⟩=>?_) (z _)
 obtain ⟨d,rfl,q⟩:=b
 cases a
 exact bQ ⟨H1,f,q⟩
variable {tA tB':TT}{xI:List Expr}
noncomputable def tAnd (t u:TT):TT:=λσ H Q=>t σ H λc H1=>if c=true then u σ H1 Q else Q false H1
noncomputable def tOr (t u:TT):TT:=λσ H Q=>t σ H λc H1=>if c=true then Q true H1 else u σ H1 Q
noncomputable def tNot (t:TT):TT:=λσ H Q=>t σ H λc H1=>Q (!c) H1
theorem wS (j:PT X a tA):PW X (.BoolOp .And [a] pos) tA:=by
 intro b pins s σ H Q I h
 refine isTrue_and (thn (j pins s σ H Q I h) λc s1 e=>?_)
 cases c with
 | true=>exact isTrue_and_nil e
 | false=>exact e
theorem gS (j:PT X a tA):PW X (.BoolOp .Or [a] pos) tA:=by
 intro b pins s σ H Q I h
 refine isTrue_or (thn (j pins s σ H Q I h) λc s1 e=>?_)
 cases c with
 | false=>exact isTrue_or_nil e
 | true=>exact e
theorem Qj (z:PT X a tA) (j:PW X (.BoolOp .And (b::xI) pos) tB'):PW X (.BoolOp .And (a::b::xI) pos) (tAnd tA tB'):=by
 intro f pins s σ H Q I h
 refine isTrue_and (thn ↥112 λc s1 ⟨H1,e,d⟩=>?_)
 cases c with
 | true=>exact j f pins s1 σ H1 Q e d
 | false=>exact ⟨H1,e,d⟩
theorem Jt (z:PT X a tA) (j:PW X (.BoolOp .Or (b::xI) pos) tB'):PW X (.BoolOp .Or (a::b::xI) pos) (tOr tA tB'):=by
 intro f pins s σ H Q I h
 refine isTrue_or (thn ↥112 λc s1 ⟨H1,e,d⟩=>?_)
 cases c with
 | true=>exact ⟨H1,e,d⟩
 | false=>exact j f pins s1 σ H1 Q e d
theorem qX (j:PT X a tA):PT X (.UnaryOp .Not a pos) (tNot tA):=by
 intro pins s σ H Q I h
 exact isTrue_not (j pins s σ H (λc H1=>Q (!c) H1) I h)
inductive tAndVI (tb:TE) (σ:St) (Q:VK) (x:V) (H1:Hp):Prop
 | mk (c:_) (_:x = .bl c) (_:if c=true then tb σ H1 Q else Q (.bl false) H1)
noncomputable def Ev (ta tb:TE):TE:=λσ H Q=>ta σ H λx H1=>tAndVI tb σ Q x H1
inductive tOrVI (tb:TE) (σ:St) (Q:VK) (x:V) (H1:Hp):Prop
 | mk (c:_) (_:x = .bl c) (_:if c=true then Q (.bl true) H1 else tb σ H1 Q)
noncomputable def tOrV (ta tb:TE):TE:=λσ H Q=>ta σ H λx H1=>tOrVI tb σ Q x H1
inductive tNotVI (Q:VK) (x:V) (H1:Hp):Prop
 | mk (c:_) (_:x = .bl c) (_:Q (.bl (!c)) H1)
noncomputable def GN (ta:TE):TE:=λσ H Q=>ta σ H λx H1=>tNotVI Q x H1
theorem yX {j}{t:TE}(h:PE X a t):PE X (.BoolOp j [a] pos) t:=λpins s σ H Q I b=>BoolOp_one (h pins s σ H Q I b)
theorem vc (z:PE X a ta) (j:PE X (.BoolOp .And (b::xI) pos) tb):PE X (.BoolOp .And (a::b::xI) pos) (Ev ta tb):=by
 intro pins s σ H Q I h
 refine BoolOp_and (thn ↥112 λv s1 ⟨x,H1,e,f,d⟩=>?_)
 obtain ⟨c,rfl,d⟩:=d
 cases f
 refine bQ ?_
 cases c with
 | true=>exact j pins s1 σ H1 Q e d
 | false=>exact ⟨.bl false,H1,e,rfl,d⟩
theorem Em (z:PE X a ta) (j:PE X (.BoolOp .Or (b::xI) pos) tb):PE X (.BoolOp .Or (a::b::xI) pos) (tOrV ta tb):=by
 intro pins s σ H Q I h
 refine BoolOp_or (thn ↥112 λv s1 ⟨x,H1,e,f,d⟩=>?_)
 obtain ⟨c,rfl,d⟩:=d
 cases f
 refine bQ ?_
 cases c with
 | false=>exact j pins s1 σ H1 Q e d
 | true=>exact ⟨.bl true,H1,e,rfl,d⟩
theorem WA (j:PE X a ta):PE X (.UnaryOp .Not a pos) (GN ta):=by
 intro pins s σ H Q I h
 refine UnaryOp_ (thn ↥75 λv s1 ⟨x,H1,e,d,b⟩=>?_)
 obtain ⟨c,rfl,b⟩:=b
 cases d
 exact not_of (bQ ⟨.bl (!c),H1,e,rfl,b⟩)
noncomputable def tIf (t:TT) (ta tb:TE):TE:=λσ H Q=>t σ H λc H1=>if c=true then ta σ H1 Q else tb σ H1 Q
theorem VI (j:PT X c tA) (G:PE X a ta) (z:PE X b tb):PE X (.IfExp c a b pos) (tIf tA ta tb):=by
 intro pins s σ H Q I h
 refine wpAny_IfExp (thn ↥75 λd s1 ⟨H1,f,e⟩=>?_)
 cases d with
 | true=>exact G pins s1 σ H1 Q f e
 | false=>exact z pins s1 σ H1 Q f e
end
end L2
namespace L2
noncomputable def SqL (K:ag) (H:Hp) (a:Addr) (xs:List V):Prop :=
 Rd H a (.lst xs) \/
  ∃(o:Obj) (b:Array aj) (n:Nat),K.lookup a=some o/\o.cls = .type "list" /\ o.dict=none/\o.data = .seq b n/\b.size<=sizeLine/\jH xs b.toList
noncomputable def SqT (K:ag) (H:Hp) (a:Addr) (xs:List V):Prop :=
 Rd H a (.tup xs) \/
  ∃(o:Obj) (b:Array aj) (n:Nat),K.lookup a=some o/\o.cls = .type "tuple" /\ o.data = .seq b n/\b.size<=sizeLine/\jH xs b.toList
noncomputable def absV:aj->Option V
 | .none=>some .non
 | .bool b=>some (.bl b)
 | .int i _=>some (.int i)
 | .str x _=>some (.str x)
 | .bytes b _=>some (.byt b)
 | .float b _=>some (.flt b)
 | .ref a=>some (.ref a)
 | .type n=>some (.ty n)
 | _=>none
theorem jJ.abs {x:V}(r:jJ x u):absV u=some x:=by
 cases x with
 | non=>cases r;rfl
 | bl _=>cases r;rfl
 | int _=>obtain ⟨t,rfl⟩:=r;rfl
 | str _=>obtain ⟨t,rfl⟩:=r;rfl
 | byt _=>obtain ⟨t,rfl⟩:=r;rfl
 | flt _=>obtain ⟨t,rfl⟩:=r;rfl
 | ref _=>cases r;rfl
 | ty _=>cases r;rfl
theorem jJ.inj {x:V}(r:jJ x u) (q:jJ y u):x=y:=aT (r.abs.symm.trans q.abs)
theorem jH.inj:∀{xs ys:List V}{us:List aj},jH xs us->jH ys us->xs=ys
 | _,_,_,.nil,.nil=>rfl
 | _,_,_,.cons r t,.cons b a=>by rw [r.inj b,jH.inj t a]
section
variable {X:Cx}{pins:List (Addr×Obj)}{σ:St}{H:Hp}{s:Shared}{a:Addr}{xs ys:List V}
theorem SqL.of {K:ag}(h:H a=some (.lst xs)):SqL K H a xs:=.inl (.inl h)
theorem SqT.of {K:ag}(h:H a=some (.tup xs)):SqT K H a xs:=.inl (.inl h)
theorem Inv.list (I:Inv X pins σ H s) (h:SqL X.K H a xs):∃its:List aj,jH xs its/\PlainL s.heap a its.toArray/\xs.length<=sizeLine:=by
 rcases h with h | ⟨o,its,n,c,f,d,b,g,r⟩
 ·obtain ⟨z,its,n,r,e⟩:=h.ok I.hok
  exact ⟨its,r,⟨_,n,e,rfl,rfl,rfl⟩,z⟩
 ·refine ⟨its.toList,r,⟨o,n,I.kIn a o c,f,d,by simpa using b⟩,?_⟩
  have e:=r.length
  simp only [cS] at e
  omega
theorem Inv.tuple (I:Inv X pins σ H s) (h:SqT X.K H a xs):∃its:List aj,jH xs its/\tW s.heap a its.toArray/\xs.length<=sizeLine:=by
 rcases h with h | ⟨o,its,n,c,d,b,f,r⟩
 ·obtain ⟨z,its,r,p⟩:=h.ok I.hok
  exact ⟨its,r,p,z⟩
 ·refine ⟨its.toList,r,⟨o,I.kIn a o c,d,n,by simpa using b⟩,?_⟩
  have e:=r.length
  simp only [cS] at e
  omega
theorem Inv.list_inj (I:Inv X pins σ H s) (h:SqL X.K H a xs) (h':SqL X.K H a ys):xs=ys:=by
 obtain ⟨b,r,⟨o,n,e,_,_,d⟩,_⟩:=I.list h
 obtain ⟨its',g,⟨o',j,c,_,_,f⟩,_⟩:=I.list h'
 rw [e] at c;cases c
 rw [d] at f
 injection f with i _
 have:b=its':=by simpa using congrArg Array.toList i
 subst this
 exact r.inj g
theorem Inv.tuple_inj (I:Inv X pins σ H s) (h:SqT X.K H a xs) (h':SqT X.K H a ys):xs=ys:=by
 obtain ⟨b,r,⟨o,e,_,n,d⟩,_⟩:=I.tuple h
 obtain ⟨its',g,⟨o',c,_,j,f⟩,_⟩:=I.tuple h'
 rw [e] at c;cases c
 rw [d] at f
 injection f with i _
 have:b=its':=by simpa using congrArg Array.toList i
 subst this
 exact r.inj g
end
noncomputable abbrev Cx.wish (X:Cx) (E:aj->Shared->Prop):Cx:={ X with xe:=E }
noncomputable abbrev Cx.nox (X:Cx):Cx:=X.wish λ_ _=>False
theorem Cx.Ok.wish {X:Cx}(ok:X.Ok) (E:aj->Shared->Prop):(X.wish E).Ok :=
 ⟨ok.mod,ok.kind,ok.glob,ok.blt,ok.above,ok.inj,ok.has,ok.cab,ok.hd,ok.frames,ok.stk,ok.exf,ok.bs,ok.bsz,ok.noex,ok.exfs,ok.funs,ok.frf⟩
theorem Cx.Ok.unwish {X:Cx}(ok:(X.wish E).Ok):X.Ok :=
 ⟨ok.mod,ok.kind,ok.glob,ok.blt,ok.above,ok.inj,ok.has,ok.cab,ok.hd,ok.frames,ok.stk,ok.exf,ok.bs,ok.bsz,ok.noex,ok.exfs,ok.funs,ok.frf⟩
section
variable {X:Cx}{pins:List (Addr×Obj)}{σ:St}{H:Hp}{s:Shared}{E:aj->Shared->Prop}
theorem Inv.wish (I:Inv X pins σ H s) (E:aj->Shared->Prop):Inv (X.wish E) pins σ H s:=⟨I.ok.wish E,I.os,I.bare,I.base,I.loc,I.cell,I.free,I.freeC,I.pin,I.hok,I.len⟩
theorem Inv.unwish (I:Inv (X.wish E) pins σ H s):Inv X pins σ H s:=⟨I.ok.unwish,I.os,I.bare,I.base,I.loc,I.cell,I.free,I.freeC,I.pin,I.hok,I.len⟩
theorem SP.unwish {D:Ends}(h:SP (X.wish E) pins D f s'):SP X pins D f s':=by
 cases f with
 | next=>obtain ⟨a,H',I,q⟩:=h;exact ⟨a,H',I.unwish,q⟩
 | brk=>obtain ⟨a,H',I,q⟩:=h;exact ⟨a,H',I.unwish,q⟩
 | cont=>obtain ⟨a,H',I,q⟩:=h;exact ⟨a,H',I.unwish,q⟩
 | ret u=>obtain ⟨v,a,H',I,r,q⟩:=h;exact ⟨v,a,H',I.unwish,r,q⟩
theorem PE.nox {e:Expr}{t:TE}(h:PE X.nox e t):PE X e t:=λpins s σ H Q I a =>
 aZ (h pins s σ H Q (I.wish _) a) (λ_ _ ⟨v,H',b,r,q⟩=>⟨v,H',b.unwish,r,q⟩) λ_ _ z=>bw z
theorem PSs.nox {st:List Stmt}{t:TS}(h:PSs X.nox st t):PSs X st t:=λpins s σ H D I a =>
 aZ (h pins s σ H D (I.wish _) a) (λ_ _ q=>q.unwish) λ_ _ z=>bw z
end
section
variable {X:Cx}{st:Stmt}{xI:List Stmt}{t u:TS}{e:Expr}{te:TE}{pos:Pos}
noncomputable def GS:TS:=λD σ H=>D.nx σ H
noncomputable def tSeq (t u:TS):TS:=λD σ H=>t { D with nx:=u D } σ H
theorem js:PSs X [] GS:=λ_ _ σ H _ I h=>eR ⟨σ,H,I,h⟩
theorem j4 (h1:PS X st t) (h2:PSs X xI u):PSs X (st::xI) (tSeq t u):=by
 intro pins s σ H D I h
 refine me (thn (h1 pins s σ H { D with nx:=u D } I h) λf s1 q=>?_)
 cases f with
 | next =>
  obtain ⟨a,H',b,q⟩:=q
  exact h2 pins s1 a H' D b q
 | ret v=>exact q
 | brk=>exact q
 | cont=>exact q
theorem j9 (h1:PS X st t):PSs X [st] t:=by
 intro pins s σ H D I h
 refine me (thn (h1 pins s σ H D I h) λf s1 q=>?_)
 cases f with
 | next=>exact eR q
 | ret v=>exact q
 | brk=>exact q
 | cont=>exact q
noncomputable def G2:TS:=λD σ H=>D.bk σ H
noncomputable def Eo:TS:=λD σ H=>D.ct σ H
theorem QT:PS X (.Break pos) G2:=λ_ _ σ H _ I h=>wpAny_Break ⟨σ,H,I,h⟩
theorem Xm:PS X (.Continue pos) Eo:=λ_ _ σ H _ I h=>wpAny_Continue ⟨σ,H,I,h⟩
theorem Inv.quiet {s:Shared}(I:Inv X pins σ H s):interactive X.env=false:=by simp [interactive,I.ok.kind]
noncomputable def Es (te:TE):TS:=λD σ H=>te σ H λ_ H1=>D.nx σ H1
theorem jV (j:PE X e te) (hs:lA e none pos.line X.env=pure false:=by rfl):PS X (.Expr e pos) (Es te):=by
 intro pins s σ H D I h
 exact wpAny_Expr_any (thn ↥75 λv s1 ⟨x,H1,b,c,a⟩=>⟨σ,H1,b,a⟩) I.quiet hs
noncomputable def Jb (te:TE):TS:=λD σ H=>te σ H D.rt
theorem ji (j:PE X e te):PS X (.Return (some e) pos) (Jb te):=by
 intro pins s σ H D I h
 exact wpAny_Return_some (thn ↥75 λv s1 ⟨x,H1,c,a,b⟩=>⟨x,σ,H1,c,a,b⟩)
noncomputable def tIfS (c:TT) (t u:TS):TS:=λD σ H=>c σ H λb H1=>if b=true then t D σ H1 else u D σ H1
theorem jI (j:PT X c tc) (G:PSs X a t) (z:PSs X b u):PS X (.If c a b pos) (tIfS tc t u):=by
 intro pins s σ H D I h
 refine wpAny_If (thn ↥75 λd s1 ⟨H1,f,e⟩=>?_)
 cases d with
 | true=>exact G pins s1 σ H1 D f e
 | false=>exact z pins s1 σ H1 D f e
end
noncomputable abbrev TG:=V->St->Hp->(St->Hp->Prop)->Prop
noncomputable abbrev TGs:=List V->St->Hp->(St->Hp->Prop)->Prop
noncomputable def PG (X:Cx) (j:Expr) (t:TG):Prop :=
 ∀(pins:List (Addr×Obj)) (s:Shared) (σ:St) (H:Hp) (v:V) (u:aj) (Q:St->Hp->Prop),Inv X pins σ H s->jJ v u->t v σ H Q ->
  ax ↥3 X.A (iI j X.env u) (λ_ s'=>∃a H',Inv X pins a H' s'/\Q a H') X.xe s
noncomputable def PGs (X:Cx) (ts:List Expr) (t:TGs):Prop :=
 ∀(pins:List (Addr×Obj)) (s:Shared) (σ:St) (H:Hp) (b:List V) (c:List aj) (Q:St->Hp->Prop),Inv X pins σ H s->jH b c->t b σ H Q ->
  ax ↥3 X.A (tO ((d9 ts X.env).map (·.2)) c) (λ_ s'=>∃a H',Inv X pins a H' s'/\Q a H') X.xe s
noncomputable abbrev WM:=V->V->V->Hp->(Hp->Prop)->Prop
noncomputable def Ey (X:Cx) (t:WM):Prop :=
 ∀(pins:List (Addr×Obj)) (s:Shared) (σ:St) (H:Hp) (o i v:V) (a b u:aj) (Q:Hp->Prop),Inv X pins σ H s->jJ o a->jJ i b->jJ v u->t o i v H Q ->
  ax ↥3 X.A (setItem a b u) (λ_ s'=>∃H',Inv X pins σ H' s'/\Q H') X.xe s
noncomputable abbrev TIp:=V->V->Hp->VK->Prop
noncomputable def PIp (X:Cx) (j:Operator) (t:TIp):Prop :=
 ∀(pins:List (Addr×Obj)) (s:Shared) (σ:St) (H:Hp) (x y:V) (v u:aj) (Q:VK),Inv X pins σ H s->jJ x v->jJ y u->t x y H Q ->
  ax ↥3 X.A (inplaceOp j v u) ↥61 X.xe s
section
variable {X:Cx}{pos:Pos}
noncomputable def uy (i:Nat):TG:=λv σ H Q=>Q (σ.set i (some v)) H
theorem jb {i:Nat}(G:X.N.Nodup) (hi:X.N[i]? = some x) (j:Loc X.env.scope x) (z:X.fn x=true\/X.env.scope.names.lookup x=some .local:=by first | exact .inl rfl | exact .inr rfl | assumption):PG X (.Name x pos) (uy i):=by
 intro pins s σ H v u Q I r h
 exact pC (uO I G hi j r (λs' a=>⟨_,H,a,h⟩) z)
noncomputable def gNil:TGs:=λa σ H Q=>a=[]/\Q σ H
inductive gCons (t:TG) (u:TGs) (vs:List V) (σ:St) (H:Hp) (Q:St->Hp->Prop):Prop
 | mk (v:_) (r:_) (_:vs=v::r) (_:t v σ H λσ' H'=>u r σ' H' Q)
theorem qa:PGs X [] gNil:=by
 intro pins s σ H a b Q I r h
 obtain ⟨e,h⟩:=h
 subst e
 cases r
 exact assignInOrder_nil ⟨σ,H,I,h⟩
theorem jh {t:TG}(h1:PG X e t) (h2:PGs X es u)
  (hs:(d9 (e::es) X.env).map (·.2)=iI e X.env::(d9 es X.env).map (·.2):=by rfl):PGs X (e::es) (gCons t u):=by
 intro pins s σ H g j Q I r h
 obtain ⟨v,i,d,h⟩:=h
 subst d
 cases r with
 | cons r b =>
  rw [hs]
  refine assignInOrder_cons (thn (h1 pins s σ H _ _ _ I r h) λ_ s1 ⟨a,H1,f,c⟩=>?_)
  exact h2 pins s1 a H1 _ _ Q f b c
inductive gTup (K:ag) (n:Nat) (t:TGs) (v:V) (σ:St) (H:Hp) (Q:St->Hp->Prop):Prop
 | mk (a:_) (xs:_) (_:v = .ref a) (_:SqT K H a xs) (_:xs.length=n) (_:t xs σ H Q)
theorem WS {k:Nat}{t:TGs}{n:Nat}(G:X.calm=true) (h:PGs X es t)
  (z:(d9 es X.env).length=n:=by rfl) (j:(d9 es X.env).findIdx? (·.1)=none:=by rfl):PG X (.Tuple es k pos) (gTup X.K n t):=by
 intro pins s σ H v u Q I r c
 obtain ⟨a,xs,m,i,l,c⟩:=c
 subst m
 cases r
 obtain ⟨q,d,g,w⟩:=I.tuple i
 refine assign_Tuple_tuple (I.ok.hd G) g (by simp [z,<- l,d.length]) j λh' f=>?_
 have p:Inv X pins σ H { s with heap:=h' }:=I.kept (t':=s.toks) λb o e=>f b o (aB (av e)) e
 exact h pins _ σ H xs _ Q p (by simpa using d) c
noncomputable def gSub (to j:TE) (t:WM):TG:=λv σ H Q=>to σ H λo H1=>j σ H1 λi H2=>t o i v H2 λa=>Q σ a
theorem kJ {t:WM}(U:PE X o to) (hi:PE X i G) (hs:Ey X t)
  (Y:∀v,iI (.Subscript o i pos) X.env v=(do
   let j <- dN [v] (eval o X.env)
   let z <- dN [v,j] (eval i X.env)
   fG pos
   dN [v,j,z] (setItem j z v)
   release [v,j,z] []):=by intro _;rfl):PG X (.Subscript o i pos) (gSub to G t):=by
 intro pins s σ H v u Q I r h
 rw [Y]
 refine aa (bA (thn (U pins s σ H _ I h) λj s1 ⟨x,H1,l,c,f⟩=>?_))
 refine aa (bA (thn (hi pins s1 σ H1 _ l f) λz a ⟨y,H2,k,b,e⟩=>?_))
 refine aa (cY (aa (bA (thn (hs pins a σ H2 x y v j z u _ k c b r e) λ_ n ⟨m,g,d⟩=>?_))))
 exact wpAny_release ⟨σ,m,g,d⟩
noncomputable def We (te:TE) (g:TG):TS:=λD σ H=>te σ H λx H1=>g x σ H1 D.nx
theorem xw (G:PE X e te) (z:PG X tg g) (hs:swapsWithSole [tg] e pos.line X.env=pure false:=by rfl) (j:swappedStores [tg] e X.env=pure none:=by rfl)
  (h1:(d9 [tg] X.env).map (·.2)=[iI tg X.env]:=by rfl):PS X (.Assign [tg] e pos) (We te g):=by
 intro pins s σ H D I h
 refine wpAny_Assign_stores (thn (G pins s σ H _ I h) λv s1 ⟨x,H1,c,a,b⟩=>?_) hs j
 rw [h1]
 exact thn (z pins s1 σ H1 x v _ c a b) λ_ d q=>q
theorem zS {i:Nat}(U:X.N.Nodup) (hi:X.N[i]? = some x) (j:Loc X.env.scope x) (G:PE X e te) (hs:lA e (some (.Name x pos')) pos.line X.env=pure false:=by rfl) (z:X.fn x=true\/X.env.scope.names.lookup x=some .local:=by first | exact .inl rfl | exact .inr rfl | assumption) :
  PS X (.Assign [.Name x pos'] e pos) (We te (uy i)):=by
 intro pins s σ H D I h
 refine wpAny_Assign_Name (thn (G pins s σ H _ I h) λv s1 ⟨y,H1,d,a,b⟩=>?_) hs
 exact uO d U hi j a (λf c=>⟨_,H1,c,b⟩) z
theorem jq (i:Nat)(I:X.N.Nodup) (G:PE X e te) (hi:X.N[i]?=some x:=by rfl) (j:Loc X.env.scope x:=by exact aO rfl) (hs:lA e (some (.Name x pos')) pos.line X.env=pure false:=by rfl) (z:X.fn x=true\/X.env.scope.names.lookup x=some .local:=by first | exact .inl rfl | exact .inr rfl | assumption):PS X (.Assign [.Name x pos'] e pos) (We te (uy i)):=zS I hi j G hs z
inductive tAug (i:Nat) (te:TE) (ti:TIp) (D:Ends) (σ:St) (H:Hp):Prop
 | mk (x:_) (_:σ[i]? = some (some x)) (_:te σ H λy H1=>ti x y H1 λz H2=>D.nx (σ.set i (some z)) H2)
theorem Zr {i:Nat}(hN:X.N.Nodup) (hi:X.N[i]? = some x) (j:Loc X.env.scope x) (he:PE X e te) (Y:PIp X G U) (hf:X.fn x=true\/X.env.scope.names.lookup x=some .local:=by first | exact .inl rfl | exact .inr rfl | assumption) :
  PS X (.AugAssign (.Name x pos') G e pos) (tAug i te U):=by
 intro pins s σ H D I h
 obtain ⟨v,E,h⟩:=h
 obtain ⟨m,q,B⟩:=I.loc
 have b:Vis X.env.scope x:=by rcases j with k | k;exact .inl k;exact .inr (.inl k)
 obtain ⟨u,r,l⟩:=B i x v hi E b
 refine wpAny_AugAssign_Name ?_
 have go:ax ↥3 X.A (eval e X.env) (λw f=>ax ↥3 X.A (inplaceOp G u w) (λr d=>ax ↥3 X.A (tX X.env x r) (λ_=>SP X pins D .next) X.xe d) X.xe f) X.xe s:=by
  refine thn (he pins s σ H _ I h) λw s1 ⟨y,H1,L,n,p⟩=>?_
  refine thn (Y pins s1 σ H1 v y u w _ L r n p) λz P ⟨M,H2,K,g,o⟩=>?_
  exact uO K hN hi j g (λO J=>⟨_,H2,J,o⟩) hf
 rcases l with ⟨hk,t⟩ | ⟨hk,c,C,a⟩
 ·exact nB I.ok.kind hk q t go
 ·rcases hk with hk | hk
  ·exact oB I.ok.kind hk C a go
  ·rcases j with k | k
   ·have:X.env.scope.names.lookup x=some .free:=hk
    rw [k] at this;cases this
   ·have:X.env.scope.names.lookup x=some .free:=hk
    rw [k] at this;cases this
noncomputable def ipI (f:Int->Int->Int):TIp:=λx y H Q=>∃i j,x = .int i/\y = .int j/\Q (.int (f i j)) H
theorem ZB:PIp X .Add (ipI λi j=>i+j):=by
 intro pins s σ H x y v u Q I b a h
 obtain ⟨i,j,d,c,q⟩:=h
 subst d;subst c
 obtain ⟨t,rfl⟩:=b
 obtain ⟨e,rfl⟩:=a
 exact iadd_int ⟨.int _,H,I.tok _,⟨_,rfl⟩,q⟩
end
section
variable {X:Cx}{pos:Pos}
noncomputable def VH (c:TT) (tb:TS):TS:=λD σ H=>∃W:Nat->St->Hp->Prop,(∃m,W m σ H)/\∀m σ H,W m σ H ->
 c σ H λb H1=>if b=true then ∃N:St->Hp->Prop,(∀a H',N a H'->∃d,d<m/\W d a H')/\tb { D with nx:=N,ct:=N,bk:=D.nx } σ H1 else D.nx σ H1
theorem QJ (z:PassesOwn ↥3 X.A X.env X.xe) (G:PT X c tc) (U:PSs X body tb):PS X (.While c body [] pos) (VH tc tb):=by
 intro pins s σ H D I h
 obtain ⟨W,⟨B,x⟩,k⟩:=h
 refine wpAny_While (codeAny_whileLoop (λn s'=>∃q H',Inv X pins q H' s'/\W n q H') ?_ B ⟨σ,H,I,x⟩)
 rintro n s1 ⟨e,H1,C,u⟩
 refine dI z (thn (G pins s1 e H1 _ C (k n e H1 u)) λb y ⟨H2,t,i⟩=>?_)
 cases b with
 | true =>
  obtain ⟨N,r,i⟩:=i
  rw [if_pos rfl]
  refine dI z (thn (U pins y e H2 _ t i) λf E g=>?_)
  cases f with
  | next =>
   obtain ⟨a,d,p,l⟩:=g
   obtain ⟨m,o,j⟩:=r a d l
   exact ⟨m,o,a,d,p,j⟩
  | cont =>
   obtain ⟨a,d,p,l⟩:=g
   obtain ⟨m,o,j⟩:=r a d l
   exact ⟨m,o,a,d,p,j⟩
  | brk=>exact g
  | ret v=>exact g
 | false =>
  rw [if_neg au]
  exact eR ⟨e,H2,t,i⟩
end
structure It where
 go:Nat->Hp->Prop
 yld:Nat->Hp->V->Hp->Prop
 stop:Nat->Hp->Prop
noncomputable def yy (X:Cx) (pins:List (Addr×Obj)) (H:Hp) (b:Addr):Prop :=
 H b=none/\b≠X.env.locals/\b∉X.fs/\ ↥130/\ ↥104/\∀p∈X.pn++pins,p.1≠b
theorem Inv.fpOk {X:Cx}{H':Hp}{s:Shared}{b:Addr}(I:Inv X pins σ H s) (j:s.heap.objs.size<=b) (G:H' b=none):yy X pins H' b:=by
 refine ⟨G,cN (aQ I.lt j),I.nofs j,.inr (aI I.sz j),λx c e z=>?_,λp a z=>?_⟩
 ·obtain ⟨v,q⟩:=I.cell x c e
  exact absurd (aQ q.lt (by rw [z];exact j)) (cK _)
 ·exact absurd (aQ (av (I.pin p a).1) (by rw [z];exact j)) (cK _)
structure Turn (P:Program) (w:bo) (K:ag) (tg:Expr) (J:It) (fp:List Addr) (it:Addr) (tn:Nat->Heap->Prop):Prop where
 mem:it∈fp
 obj:∀i h,tn i h->∀b∈fp,∃o,h.get? b=some o/\∀v,o.data≠.cell v
 keep:∀i h h',tn i h->(∀b∈fp,∀o,h.get? b=some o->h'.get? b=some o)->tn i h'
 item:∀(X:Cx),X.prog=P->X.w=w->X.K=K->X.calm=true->∀(i:Nat) (pins:List (Addr×Obj)) (s:Shared) (σ:St) (H:Hp) (E:aj->Shared->Prop),Inv X pins σ H s->(∀b∈fp,yy X pins H b)->tn i s.heap->J.go i H ->
  ax (aD P w) X.A (dY (.ref it)) (λr s1=>∃u,r=some u /\
   ax (aD P w) X.A (cT tg (.ref it) u) (λ_ s2=>∃x H',Inv X pins σ H' s2/\jJ x u/\J.yld i H x H'/\tn (i+1) s2.heap/\∀b∈fp,H' b=none) E s1) E s
 done:∀(X:Cx),X.prog=P->X.w=w->X.K=K->X.calm=true->∀(i:Nat) (pins:List (Addr×Obj)) (s:Shared) (σ:St) (H:Hp) (E:aj->Shared->Prop),Inv X pins σ H s->(∀b∈fp,yy X pins H b)->tn i s.heap->J.stop i H ->
  ax (aD P w) X.A (dY (.ref it)) (λr s1=>r=none/\Inv X pins σ H s1) E s
 self:∀(A:bx) (i:Nat) (s:Shared) (Q:aj->Shared->Prop) (E:aj->Shared->Prop),tn i s.heap->Q (.ref it) s->ax (aD P w) A (lX (.ref it)) Q E s
noncomputable abbrev TI:=St->Hp->(It->Hp->Prop)->Prop
noncomputable def PIE (X:Cx) (pins:List (Addr×Obj)) (σ:St) (tg:Expr) (R:It->Hp->Prop) (z:aj) (j:Shared):Prop :=
 ∃(it:Addr) (c:List Addr) (a:Nat->Heap->Prop) (J:It) (H':Hp),z = .ref it/\Inv X pins σ H' j/\Turn X.prog X.w X.K tg J c it a/\a 0 j.heap/\(∀b∈c,yy X pins H' b)/\R J H'
noncomputable def PI (X:Cx) (tg iter:Expr) (j:TI):Prop :=
 ∀(pins:List (Addr×Obj)) (s:Shared) (σ:St) (H:Hp) (R:It->Hp->Prop),Inv X pins σ H s->j σ H R ->
  ax ↥3 X.A (eval iter X.env) (λv s1=>ax ↥3 X.A (lX v) (PIE X pins σ tg R) X.xe s1) X.xe s
theorem Jn {s:Shared}{it:Addr}{n:String}{Q:Unit->Shared->Prop}(z:s.heap.get? it=some o) (U:o.cls = .type n) (I:o.data = .fields vs)
  (G:["enumerate","zip","dict_itemiterator","dict_reverseitemiterator","odict_iterator","itertools.zip_longest","itertools.pairwise"].contains n=false) (j:Q () s):ax M A (cT tg (.ref it) u) Q E s:=by
 unfold cT
 cases tg <;> first
  | exact wpAny_pure j
  | (cases u <;> first
    | exact wpAny_pure j
    | (refine aa (wpAny_load z ?_)
       rw [U,I]
       show ax M A (if (["enumerate","zip","dict_itemiterator","dict_reverseitemiterator","odict_iterator","itertools.zip_longest","itertools.pairwise"].contains n && vs[0]? == some (c0 _))=true then _ else _) Q E s
       rw [if_neg (by intro h;rw [G,Bool.false_and] at h;cases h)]
       exact wpAny_pure j))
noncomputable def Itl (K:ag) (a:Addr):It :=
 ⟨λi H=>∃xs x,SqL K H a xs/\xs[i]? = some x,λi H x H'=>H'=H/\∀xs,SqL K H a xs->xs[i]? = some x,λi H=>∃xs,SqL K H a xs/\xs.length<=i⟩
noncomputable def Itt (K:ag) (a:Addr):It :=
 ⟨λi H=>∃xs x,SqT K H a xs/\xs[i]? = some x,λi H x H'=>H'=H/\∀xs,SqT K H a xs->xs[i]? = some x,λi H=>∃xs,SqT K H a xs/\xs.length<=i⟩
noncomputable def Itr (lo:Int) (n:Nat):It:=⟨λi _=>i<n,λi H x H'=>H'=H/\x = .int (lo+i),λi _=>n<=i⟩
theorem YS {K:ag}(a it:Addr):Turn P w K tg (Itl K a) [it] it (λi h=>h.IsListIter it a i) where
 mem:=by simp
 obj:=λi h st b hb=>by
  have e:b=it:=by simpa using hb
  subst e
  obtain ⟨o,e,c,d⟩:=st
  exact ⟨o,e,λv z=>by rw [d] at z;cases z⟩
 keep:=λi h h' st k=>st.at λo e=>k it (by simp) o e
 item:=by
  intro X hP hw hK hc i pins s σ H E I hf st hg
  subst hP hw hK
  obtain ⟨xs,x,hq,hx⟩:=hg
  obtain ⟨its,rv,p,hz⟩:=I.list hq
  obtain ⟨u,hu,ru⟩:=rv.get hx
  obtain ⟨f0,f1,f2,f3,f4,f5⟩:=hf it (by simp)
  refine eJ st p.isList (x:=u) (by simpa using hu) λh' st' sb=>?_
  have I1:Inv X pins σ H { s with heap:=h' }:=I.turned (t':=s.toks) (λb o hb e=>(sb.2 b hb).trans e) f0 f1 f3 f4 f5
  obtain ⟨o,e,c,d⟩:=id st'
  exact ⟨u,rfl,Jn (s:={ s with heap:=h' }) e c d ⋯ ⟨x,H,I1,ru,⟨rfl,λys hy=>by rw [I.list_inj hy hq];exact hx⟩,st',λb hb=>(hf b hb).1⟩⟩
 done:=by
  intro X hP hw hK hc i pins s σ H E I hf st hg
  subst hP hw hK
  obtain ⟨xs,hq,hx⟩:=hg
  obtain ⟨its,rv,p,hz⟩:=I.list hq
  obtain ⟨f0,f1,f2,f3,f4,f5⟩:=hf it (by simp)
  have hl:=rv.length
  exact iC (I.ok.hd hc) st p.isList ↥69 λh' eb=>⟨rfl,I.turned (t':=s.toks) ↥100 f0 f1 f3 f4 f5⟩
 self:=λ_ _ _ _ _ st h=>nh st h
theorem Zf {K:ag}(a it:Addr):Turn P w K tg (Itt K a) [it] it (λi h=>h.IsTupleIter it a i) where
 mem:=by simp
 obj:=λi h st b hb=>by
  have e:b=it:=by simpa using hb
  subst e
  obtain ⟨o,e,c,d⟩:=st
  exact ⟨o,e,λv z=>by rw [d] at z;cases z⟩
 keep:=λi h h' st k=>st.at λo e=>k it (by simp) o e
 item:=by
  intro X hP hw hK hc i pins s σ H E I hf st hg
  subst hP hw hK
  obtain ⟨xs,x,hq,hx⟩:=hg
  obtain ⟨its,rv,p,hz⟩:=I.tuple hq
  obtain ⟨u,hu,ru⟩:=rv.get hx
  obtain ⟨f0,f1,f2,f3,f4,f5⟩:=hf it (by simp)
  refine wpAny_pyNext_tuple_item st (show s.heap.IsTuple a its.toArray from p) (x:=u) (by simpa using hu) λh' st' sb=>?_
  have I1:Inv X pins σ H { s with heap:=h' }:=I.turned (t':=s.toks) (λb o hb e=>(sb.2 b hb).trans e) f0 f1 f3 f4 f5
  obtain ⟨o,e,c,d⟩:=id st'
  exact ⟨u,rfl,Jn (s:={ s with heap:=h' }) e c d ⋯ ⟨x,H,I1,ru,⟨rfl,λys hy=>by rw [I.tuple_inj hy hq];exact hx⟩,st',λb hb=>(hf b hb).1⟩⟩
 done:=by
  intro X hP hw hK hc i pins s σ H E I hf st hg
  subst hP hw hK
  obtain ⟨xs,hq,hx⟩:=hg
  obtain ⟨its,rv,p,hz⟩:=I.tuple hq
  obtain ⟨f0,f1,f2,f3,f4,f5⟩:=hf it (by simp)
  have hl:=rv.length
  exact wpAny_pyNext_tuple_end (I.ok.hd hc) st (show s.heap.IsTuple a its.toArray from p) ↥69 λh' eb=>⟨rfl,I.turned (t':=s.toks) ↥100 f0 f1 f3 f4 f5⟩
 self:=λ_ _ _ _ _ st h=>wpAny_pyIter_tupleiter st h
theorem kO {K:ag}(it:Addr) (lo:Int) (n:Nat):Turn P w K tg (Itr lo n) [it] it (λi h=>sr h it (lo+(i:Nat)*1) ((n:Int)-(i:Nat)) 1) where
 mem:=by simp
 obj:=λi h st b hb=>by
  have e:b=it:=by simpa using hb
  subst e
  exact ⟨_,st,λv z=>by
   have z':nE _=mf v:=z
   cases z'⟩
 keep:=λi h h' st k=>k it (by simp) _ st
 item:=by
  intro X hP hw hK hc i pins s σ H E I hf st hg
  subst hP hw hK
  obtain ⟨f0,f1,f2,f3,f4,f5⟩:=hf it (by simp)
  have W:=Walks.range (prog:=X.prog) (w:=X.w) (I.ok.hd hc) it lo 1 n
  refine W.item i s _ _ hg st λv h' tk hv st' kk=>?_
  obtain ⟨t,rfl⟩:=hv
  have I1:Inv X pins σ H { s with heap:=h',toks:=tk }:=I.turned (λb o hb e=>kk b o (by simpa using hb) e) f0 f1 f3 f4 f5
  refine ⟨_,rfl,Jn (s:={ s with heap:=h',toks:=tk }) (n:="range_iterator") st' rfl rfl ⋯ ⟨.int (lo+i),H,I1,⟨t,?_⟩,⟨rfl,rfl⟩,st',λb hb=>(hf b hb).1⟩⟩
  rw [Int.mul_one]
 done:=by
  intro X hP hw hK hc i pins s σ H E I hf st hg
  subst hP hw hK
  obtain ⟨f0,f1,f2,f3,f4,f5⟩:=hf it (by simp)
  exact wpAny_pyNext_range_end (I.ok.hd hc) st (by have:n<=i:=hg;omega) λh' eb=>⟨rfl,I.turned (t':=s.toks) ↥100 f0 f1 f3 f4 f5⟩
 self:=λ_ _ _ _ _ st h=>wpAny_pyIter_rangeiter st h
end L2
namespace L2
section
variable {X:Cx}{tg:Expr}
inductive iListI (K:ag) (R:It->Hp->Prop) (x:V) (H1:Hp):Prop
 | mk (a:_) (_:x = .ref a) (_:(∃xs,SqL K H1 a xs)/\R (Itl K a) H1)
noncomputable def ZO (K:ag) (tl:TE):TI:=λσ H R=>tl σ H λx H1=>iListI K R x H1
inductive iTupI (K:ag) (R:It->Hp->Prop) (x:V) (H1:Hp):Prop
 | mk (a:_) (_:x = .ref a) (_:(∃xs,SqT K H1 a xs)/\R (Itt K a) H1)
noncomputable def Ea (K:ag) (tl:TE):TI:=λσ H R=>tl σ H λx H1=>iTupI K R x H1
theorem Uk (j:PE X l tl):PI X tg l (ZO X.K tl):=by
 intro pins s σ H R I h
 refine thn ↥75 λv s1 ⟨x,H1,c,d,f⟩=>?_
 obtain ⟨a,e,⟨xs,g⟩,q⟩:=f
 subst e
 cases d
 obtain ⟨k,m,p,n⟩:=c.list g
 refine d6 p.isList ?_
 refine ⟨s1.heap.objs.size,[s1.heap.objs.size],_,_,H1,rfl,c.kept (t':=s1.toks) λb o e=>ai _ e,YS a _,⟨_,az _ rfl,rfl,rfl⟩,λb i=>?_,q⟩
 have e:b=s1.heap.objs.size:=by simpa using i
 subst e
 exact c.fpOk (ar _) (c.hok.fresh (ar _))
theorem Gm (j:PE X l tl):PI X tg l (Ea X.K tl):=by
 intro pins s σ H R I h
 refine thn ↥75 λv s1 ⟨x,H1,c,f,g⟩=>?_
 obtain ⟨a,e,⟨xs,i⟩,q⟩:=g
 subst e
 cases f
 obtain ⟨d,m,p,n⟩:=c.tuple i
 refine oR (show s1.heap.IsTuple a d.toArray from p) ?_
 refine ⟨s1.heap.objs.size,[s1.heap.objs.size],_,_,H1,rfl,c.kept (t':=s1.toks) λb o e=>ai _ e,Zf a _,⟨_,az _ rfl,rfl,rfl⟩,λb k=>?_,q⟩
 have e:b=s1.heap.objs.size:=by simpa using k
 subst e
 exact c.fpOk (ar _) (c.hok.fresh (ar _))
theorem Xv {R:It->Hp->Prop}{lo hi:Int}{t:Tok}{tk:Nat}(I:Inv X pins σ H s) (h1 : -(2 ^ 62)<=lo) (h2:lo<2 ^ 62) (z : -(2 ^ 62)<=hi) (j:hi<2 ^ 62)
  (q:R (Itr lo (hi-lo).toNat) H):ax ↥3 X.A (lX ↥11) (PIE X pins σ tg R) E { s with heap:=s.heap.push { cls:=.type "range",data:=.fields #[.int lo t,.int hi u,.int 1 v] },toks:=tk }:=by
 refine oS (su ..) (small_one h1 h2 z j) ?_
 have a:Inv X pins σ H { s with heap:=s.heap.push { cls:=.type "range",data:=.fields #[.int lo t,.int hi u,.int 1 v] },toks:=tk }:=I.kept λb o e=>ai _ e
 refine ⟨(↥10).objs.size,[(↥10).objs.size],_,_,H,rfl,
  a.kept (t':=tk) λb o e=>ai _ e,kO _ lo (hi-lo).toNat,?_,λb c=>?_,q⟩
 ·have f:lo+((0:Nat):Int)*1=lo:=by simp
  have d:(((hi-lo).toNat:Nat):Int)-((0:Nat):Int)=mh lo hi 1:=by rw [tQ];split <;> omega
  show sr _ _ (lo+((0:Nat):Int)*1) ((((hi-lo).toNat:Nat):Int)-((0:Nat):Int)) 1
  rw [f,d]
  exact az _ rfl
 ·have e:b=(↥10).objs.size:=by simpa using c
  subst e
  exact a.fpOk (ar _) (a.hok.fresh (ar _))
inductive iRng1I (R:It->Hp->Prop) (vs:List V) (H1:Hp):Prop
 | mk (j:Int) (_:vs=[.int j]) (zz2 : -(2 ^ 62)<=j/\j<2 ^ 62/\R (Itr 0 j.toNat) H1)
noncomputable def GX (ta:TA):TI:=λσ H R=>ta σ H λa H1=>iRng1I R a H1
inductive iRng2I (R:It->Hp->Prop) (vs:List V) (H1:Hp):Prop
 | mk (i j:Int) (_:vs=[.int i,.int j]) (_:(-(2 ^ 62)<=i/\i<2 ^ 62 /\ -(2 ^ 62)<=j/\j<2 ^ 62)) (_:R (Itr i (j-i).toNat) H1)
noncomputable def Ee (ta:TA):TI:=λσ H R=>ta σ H λa H1=>iRng2I R a H1
theorem qi {a:Expr}{p pos:Pos}(G:Gl X "range") (z:X.mg "range" = none) (U:PA X [a] ta) (hs:aR [a] X.env=[(false,eval a X.env)]:=by rfl):PI X tg (.Call (.Name "range" p) [a] [] pos) (GX ta):=by
 intro pins s σ H R I h
 refine Aj (yS I G z sV (c9 (thn (U pos pins s σ H _ I h) λk s1 ⟨i,H1,g,d,b⟩=>?_) hs rfl))
 obtain ⟨j,e,b,f,q⟩:=b
 subst e
 cases d with
 | cons r c =>
  cases c
  obtain ⟨t,rfl⟩:=r
  exact call_range_1 (Xv g ∅ ∅ b f (by simpa using q))
theorem JB {a b:Expr}{p pos:Pos}(U:Gl X "range") (G:X.mg "range" = none) (Y:PA X [a,b] ta) (hs:aR [a,b] X.env=[(false,eval a X.env),(false,eval b X.env)]:=by rfl) (z:aR [b] X.env=[(false,eval b X.env)]:=by rfl) :
  PI X tg (.Call (.Name "range" p) [a,b] [] pos) (Ee ta):=by
 intro pins s σ H R I h
 refine Aj (yS I U G sV (c9 (thn (Y pos pins s σ H _ I h) λu s1 ⟨o,H1,n,f,d⟩=>?_) (by rw [hs,z]) (by rw [z];rfl)))
 obtain ⟨i,j,e,⟨d,m,l,k⟩,q⟩:=d
 subst e
 cases f with
 | cons r c =>
  cases c with
  | cons g c =>
   cases c
   obtain ⟨t,rfl⟩:=r
   obtain ⟨v,rfl⟩:=g
   exact call_range_2 (Xv n d m l k q)
noncomputable def GZ (j:TI) (g:TG) (tb:TS):TS:=λD σ H=>j σ H λJ H1=>∃W:Nat->Nat->St->Hp->Prop,(∃m,W 0 m σ H1)/\∀i m σ H,W i m σ H ->
 (J.stop i H/\D.nx σ H)\/(J.go i H/\∃N:St->Hp->Prop,(∀a H',N a H'->∃b,b<m/\W (i+1) b a H')/\∀x H',J.yld i H x H'->g x σ H' λc H2=>tb { D with nx:=N,ct:=N,bk:=D.nx } c H2)
noncomputable def zd (j:List Addr) (h:Heap):List (Addr×Obj):=j.filterMap λb=>(h.get? b).map λo=>(b,o)
theorem qz {j:List Addr}{h:Heap}{b:Addr}(z:b∈j) (e:h.get? b=some o):(b,o)∈zd j h:=List.mem_filterMap.mpr ⟨b,z,by rw [e];rfl⟩
theorem V5 {p:Addr×Obj}(j:p∈zd z h):p.1∈z/\h.get? p.1=some p.2:=by
 obtain ⟨b,a,e⟩:=List.mem_filterMap.mp j
 cases q:h.get? b with
 | none=>rw [q] at e;cases e
 | some o =>
  rw [q] at e
  have c:(b,o)=p:=aT e
  subst c
  exact ⟨a,q⟩
theorem Inv.pinned {s:Shared}{j:List Addr}(I:Inv X pins σ H s) (U:∀b∈j,yy X pins H b) (G:∀b∈j,∃o,s.heap.get? b=some o/\∀v,o.data≠.cell v):Inv X (pins++zd j s.heap) σ H s :=
 I.pins_of λp f=>(List.mem_append.mp f).elim (λz=>I.pin p (aC _ z)) λz=>by
  obtain ⟨a,e⟩:=V5 z
  obtain ⟨i,h,g,_⟩:=U p.1 a
  obtain ⟨o,c,d⟩:=G p.1 a
  rw [e] at c;cases c
  exact ⟨e,i,h,g,d⟩
theorem Inv.unpinned {pins pl:List (Addr×Obj)}{s:Shared}(I:Inv X (pins++pl) σ H s):Inv X pins σ H s:=I.pins_of λp a=>I.pin p (aC _ (cF _ a))
theorem qy {pos:Pos}(G:PassesOwn ↥3 X.A X.env X.xe) (Y:X.calm=true) (hi:PI X tg iter wi) (hg:PG X tg g) (j:PSs X body tb)
  (hs:∀x,cc iter X.env x=pure x:=by intro _;rfl):PS X (.For tg iter body [] pos) (GZ wi g tb):=by
 intro pins s σ H D I h
 refine wpAny_For (thn (hi pins s σ H _ I h) λv s1 h1=>thn h1 λac s2 h2=>?_) hs
 obtain ⟨it,B,Q,J,H2,e,I2,T,R,Z,W,⟨m0,w0⟩,L⟩:=h2
 subst e
 have p:∀{H':Hp},(∀b∈B,H' b=none)->∀b∈B,yy X pins H' b:=λhn b j=>⟨hn b j,(Z b j).2⟩
 refine oC (λn s'=>∃i t H',Inv X pins t H' s'/\Q i s'.heap/\(∀b∈B,H' b=none)/\W i n t H') ?_ m0 ⟨0,σ,H2,I2,R,λb j=>(Z b j).1,w0⟩
 rintro n U ⟨i,q,C,I3,E,K,w3⟩
 rcases L i n q C w3 with ⟨M,qn⟩ | ⟨go,N,hN,step⟩
 ·refine dI G (thn (T.done X rfl rfl rfl Y i pins U q C X.xe I3 (p K) E M) λr s4 ⟨P,I4⟩=>?_)
  subst P
  exact eR ⟨q,C,I4,qn⟩
 ·refine dI G (thn (T.item X rfl rfl rfl Y i pins U q C X.xe I3 (p K) E go) λr s4 ⟨u,P,h4⟩=>?_)
  subst P
  refine dI G (thn h4 λ_ S ⟨x,H5,I5,r5,y5,y,V⟩=>?_)
  have ab:=I5.pinned (p V) (T.obj _ _ y)
  refine dI G (thn (hg _ S q H5 x u _ ab r5 (step x H5 y5)) λ_ s6 ⟨σ6,H6,I6,q6⟩=>?_)
  refine dI G (thn (j _ s6 σ6 H6 _ I6 q6) λf O l=>?_)
  have again:∀{a:St} {k:Hp},Inv X (pins++zd B S.heap) a k O->N a k->∃m,m<n/\∃i t H',Inv X pins t H' O/\Q i O.heap/\(∀b∈B,H' b=none)/\W i m t H':=λ{a k} c z=>by
   obtain ⟨m',hm,w7⟩:=hN a k z
   refine ⟨m',hm,i+1,a,k,c.unpinned,T.keep _ _ _ y λb j o e=>(↥131).1,λb j=>?_,w7⟩
   obtain ⟨o,e,d⟩:=T.obj _ _ y b j
   exact (↥131).2.1
  cases f with
  | next=>obtain ⟨a,k,c,z⟩:=l;exact again c z
  | cont=>obtain ⟨a,k,c,z⟩:=l;exact again c z
  | brk=>obtain ⟨a,k,c,l⟩:=l;exact ⟨a,k,c.unpinned,l⟩
  | ret v=>obtain ⟨x7,a,k,c,r7,l⟩:=l;exact ⟨x7,a,k,c.unpinned,r7,l⟩
end
theorem zx {K:ag}{xs:List V}{g:TG}{tb:TS}{D:Ends}{σ:St}{H:Hp}(Pv:Nat->St->Hp->Prop) (Y:Pv 0 σ H) (I:∀i σ H,i<=xs.length->Pv i σ H->SqL K H a xs)
  (hs:∀i x σ H,xs[i]? = some x->Pv i σ H->g x σ H λj H2=>tb { D with nx:=Pv (i+1),ct:=Pv (i+1),bk:=D.nx } j H2) (U:∀σ H,Pv xs.length σ H->D.nx σ H) :
  ∃W:Nat->Nat->St->Hp->Prop,↥76/\∀i m σ H,W i m σ H ->
   ((Itl K a).stop i H/\D.nx σ H)\/((Itl K a).go i H/\∃N:St->Hp->Prop,↥106/\∀x H',(Itl K a).yld i H x H'->g x σ H' λj H2=>tb { D with nx:=N,ct:=N,bk:=D.nx } j H2):=by
 refine ⟨λi m σ H=>m=xs.length-i/\i<=xs.length/\Pv i σ H,⟨xs.length,by simp,aG _,Y⟩,?_⟩
 rintro i m σ H ⟨rfl,hi,p⟩
 have q:=I i σ H hi p
 by_cases b:i<xs.length
 ·refine .inr ⟨⟨xs,xs[i],q,by simp [b]⟩,Pv (i+1),λz H' c=>⟨xs.length-(i+1),∅,rfl,b,c⟩,λx H' y=>?_⟩
  obtain ⟨e,y⟩:=y
  subst e
  exact hs i x σ _ (y xs q) p
 ·have e:i=xs.length:=∅
  subst e
  exact .inl ⟨⟨xs,q,ar _⟩,U σ H p⟩
theorem UG {K:ag}{xs:List V}{g:TG}{tb:TS}{D:Ends}{σ:St}{H:Hp}(Pv:Nat->St->Hp->Prop) (Y:Pv 0 σ H) (I:∀i σ H,i<=xs.length->Pv i σ H->SqT K H a xs)
  (hs:∀i x σ H,xs[i]? = some x->Pv i σ H->g x σ H λj H2=>tb { D with nx:=Pv (i+1),ct:=Pv (i+1),bk:=D.nx } j H2) (U:∀σ H,Pv xs.length σ H->D.nx σ H) :
  ∃W:Nat->Nat->St->Hp->Prop,↥76/\∀i m σ H,W i m σ H ->
   ((Itt K a).stop i H/\D.nx σ H)\/((Itt K a).go i H/\∃N:St->Hp->Prop,↥106/\∀x H',(Itt K a).yld i H x H'->g x σ H' λj H2=>tb { D with nx:=N,ct:=N,bk:=D.nx } j H2):=by
 refine ⟨λi m σ H=>m=xs.length-i/\i<=xs.length/\Pv i σ H,⟨xs.length,by simp,aG _,Y⟩,?_⟩
 rintro i m σ H ⟨rfl,hi,p⟩
 have q:=I i σ H hi p
 by_cases b:i<xs.length
 ·refine .inr ⟨⟨xs,xs[i],q,by simp [b]⟩,Pv (i+1),λz H' c=>⟨xs.length-(i+1),∅,rfl,b,c⟩,λx H' y=>?_⟩
  obtain ⟨e,y⟩:=y
  subst e
  exact hs i x σ _ (y xs q) p
 ·have e:i=xs.length:=∅
  subst e
  exact .inl ⟨⟨xs,q,ar _⟩,U σ H p⟩
theorem qK {lo:Int}{n:Nat}{g:TG}{tb:TS}{D:Ends}{σ:St}{H:Hp}(Pv:Nat->St->Hp->Prop) (U:Pv 0 σ H)
  (hs:∀i σ H,i<n->Pv i σ H->g (.int (lo+i)) σ H λj H2=>tb { D with nx:=Pv (i+1),ct:=Pv (i+1),bk:=D.nx } j H2) (I:∀σ H,Pv n σ H->D.nx σ H) :
  ∃W:Nat->Nat->St->Hp->Prop,↥76/\∀i m σ H,W i m σ H ->
   ((Itr lo n).stop i H/\D.nx σ H)\/((Itr lo n).go i H/\∃N:St->Hp->Prop,↥106/\∀x H',(Itr lo n).yld i H x H'->g x σ H' λj H2=>tb { D with nx:=N,ct:=N,bk:=D.nx } j H2):=by
 refine ⟨λi m σ H=>m=n-i/\i<=n/\Pv i σ H,⟨n,by simp,aG _,U⟩,?_⟩
 rintro i m σ H ⟨rfl,hi,p⟩
 by_cases a:i<n
 ·refine .inr ⟨a,Pv (i+1),λz H' b=>⟨n-(i+1),∅,rfl,a,b⟩,λx H' y=>?_⟩
  obtain ⟨e,y⟩:=y
  subst e y
  exact hs i σ _ a p
 ·have e:i=n:=∅
  subst e
  exact .inl ⟨ar _,I σ H p⟩
theorem Xw {c:TT}{tb:TS}{D:Ends}{σ:St}{H:Hp}(Pv:St->Hp->Prop) (μ:St->Hp->Nat) (G:Pv σ H)
  (hs:∀σ H,Pv σ H->c σ H λb H1=>if b=true then tb { D with nx:=λj H'=>Pv j H'/\μ j H'<μ σ H,ct:=λj H'=>Pv j H'/\μ j H'<μ σ H,bk:=D.nx } σ H1 else D.nx σ H1)
  (mono:∀σ H Q z,(∀b H1,Q b H1->z b H1)->c σ H Q->c σ H z):VH c tb D σ H:=by
 refine ⟨λm σ H=>m=μ σ H/\Pv σ H,⟨_,rfl,G⟩,?_⟩
 rintro m σ H ⟨rfl,p⟩
 refine mono σ H _ _ (λb H1 q=>?_) (hs σ H p)
 cases b with
 | true=>exact ⟨_,λj H' ⟨a,l⟩=>⟨_,l,rfl,a⟩,q⟩
 | false=>exact q
end L2
namespace L2
noncomputable abbrev R2:=V->V->Hp->VK->Prop
noncomputable def OpR (X:Cx) (f:aj->aj->Sem aj) (r:R2):Prop :=
 ∀(pins:List (Addr×Obj)) (s:Shared) (σ:St) (H:Hp) (x y:V) (v u:aj) (Q:VK),Inv X pins σ H s->jJ x v->jJ y u->r x y H Q ->
  ax ↥3 X.A (f v u) ↥61 X.xe s
noncomputable def UnR (X:Cx) (f:aj->Sem aj) (r:V->Hp->VK->Prop):Prop :=
 ∀(pins:List (Addr×Obj)) (s:Shared) (σ:St) (H:Hp) (x:V) (v:aj) (Q:VK),Inv X pins σ H s->jJ x v->r x H Q ->
  ax ↥3 X.A (f v) ↥61 X.xe s
noncomputable def xl (X:Cx) (f:aj) (r:List V->Hp->VK->Prop):Prop :=
 ∀(pins:List (Addr×Obj)) (s:Shared) (σ:St) (H:Hp) (xs:List V) (a:List aj) (Q:VK),Inv X pins σ H s->jH xs a->r xs H Q ->
  ax ↥3 X.A (call f a) ↥61 X.xe s
noncomputable def TruR (X:Cx) (r:V->Hp->(Bool->Hp->Prop)->Prop):Prop :=
 ∀(pins:List (Addr×Obj)) (s:Shared) (σ:St) (H:Hp) (x:V) (v:aj) (Q:Bool->Hp->Prop),Inv X pins σ H s->jJ x v->r x H Q ->
  ax ↥3 X.A (Ah v) (TP X pins σ Q) X.xe s
noncomputable def tOp (r:R2) (ta tb:TE):TE:=λσ H Q=>ta σ H λx H1=>tb σ H1 λy H2=>r x y H2 Q
noncomputable def tUn (r:V->Hp->VK->Prop) (ta:TE):TE:=λσ H Q=>ta σ H λx H1=>r x H1 Q
inductive rI (C:Int->Int->Prop) (g:Int->Int->V) (x:V) (y:V) (H:Hp) (Q:VK):Prop
 | mk (i:_) (j:_) (_:x = .int i) (_:y = .int j) (_:C i j/\Q (g i j) H)
inductive rI0 (g:Int->Int->V) (x:V) (y:V) (H:Hp) (Q:VK):Prop
 | mk (i:_) (j:_) (_:x = .int i) (_:y = .int j) (_:Q (g i j) H)
inductive rU (g:Int->V) (x:V) (H:Hp) (Q:VK):Prop
 | mk (i:_) (_:x = .int i) (_:Q (g i) H)
section
variable {X:Cx}{a b c:Expr}{ta tb tc:TE}{pos:Pos}
theorem G8 (ha:PE X a ta) (Y:PE X b tb) {s:Shared}{σ:St}{R:V->V->Hp->Prop}(I:Inv X pins σ H s)
  (h:ta σ H λx H1=>tb σ H1 λy H2=>R x y H2) {Q:aj->Shared->Prop} {f:aj->aj->Sem aj}
  (U:∀v u j x y H2,Inv X pins σ H2 j->jJ x v->jJ y u->R x y H2->ax ↥3 X.A (f v u) Q X.xe j) :
  ax ↥3 X.A (eval a X.env) (λv G=>ax ↥3 X.A (eval b X.env) (λu z=>ax ↥3 X.A (f v u) Q X.xe z) X.xe G) X.xe s:=by
 refine thn (ha pins s σ H _ I h) λv s1 ⟨x,H1,k,d,g⟩=>?_
 refine thn (Y pins s1 σ H1 _ k g) λu j ⟨y,H2,i,c,e⟩=>?_
 exact U v u j x y H2 i d c e
theorem jk (z:OpR X (fj j) r) (U:PE X a ta) (G:PE X b tb):PE X (.BinOp a j b pos) (tOp r ta tb):=by
 intro pins s σ H Q I h
 exact wpAny_BinOp (G8 U G I h λv u c x y H2 f e d q=>z pins c σ H2 x y v u Q f e d q)
theorem vd (z:UnR X (unaryOp j) r) (G:PE X a ta):PE X (.UnaryOp j a pos) (tUn r ta):=by
 intro pins s σ H Q I h
 exact UnaryOp_ (thn (G pins s σ H _ I h) λv s1 ⟨x,H1,d,b,c⟩=>z pins s1 σ H1 x v Q d b c)
theorem opI {f:aj->aj->Sem aj}{C:Int->Int->Prop}{g:Int->Int->Int}
  (rule:∀(i j:Int) (t u:Tok) (s:Shared) (Q:aj->Shared->Prop) (E:aj->Shared->Prop),C i j->Q (.int (g i j) s.toks) { s with toks:=s.toks+1 }->ax ↥3 X.A (f (.int i t) (.int j u)) Q E s) :
  OpR X f (rI C λi j=>.int (g i j)):=by
 intro pins s σ H x y v u Q I c b h
 obtain ⟨i,j,rfl,rfl,d,q⟩:=h
 obtain ⟨t,rfl⟩:=c
 obtain ⟨a,rfl⟩:=b
 exact rule i j t a s _ _ d ⟨.int (g i j),H,I.tok _,⟨_,rfl⟩,q⟩
theorem Eg {f:aj->aj->Sem aj}{g:Int->Int->Int}
  (rule:∀(i j:Int) (t u:Tok) (s:Shared) (Q:aj->Shared->Prop) (E:aj->Shared->Prop),Q (.int (g i j) s.toks) { s with toks:=s.toks+1 }->ax ↥3 X.A (f (.int i t) (.int j u)) Q E s) :
  OpR X f (rI0 λi j=>.int (g i j)):=by
 intro pins s σ H x y v u Q I c b h
 obtain ⟨i,j,rfl,rfl,q⟩:=h
 obtain ⟨t,rfl⟩:=c
 obtain ⟨a,rfl⟩:=b
 exact rule i j t a s _ _ ⟨.int (g i j),H,I.tok _,⟨_,rfl⟩,q⟩
theorem UT {f:aj->aj->Sem aj}{g:Int->Int->Bool}
  (rule:∀(i j:Int) (t u:Tok) (s:Shared) (Q:aj->Shared->Prop) (E:aj->Shared->Prop),Q (.bool (g i j)) s->ax ↥3 X.A (f (.int i t) (.int j u)) Q E s) :
  OpR X f (rI0 λi j=>.bl (g i j)):=by
 intro pins s σ H x y v u Q I c b h
 obtain ⟨i,j,rfl,rfl,q⟩:=h
 obtain ⟨t,rfl⟩:=c
 obtain ⟨a,rfl⟩:=b
 exact rule i j t a s _ _ ⟨.bl (g i j),H,I,rfl,q⟩
noncomputable def EB (i j:Int):Prop:=0<=j/\j<=1000000/\i.natAbs<2 ^ 64
noncomputable def Vf (i j:Int):Prop:=(-(2 ^ 64)<i/\i<2 ^ 64)\/(-(2 ^ 64)<j/\j<2 ^ 64)
theorem Vf.ok {i j:Int}(h:Vf i j):IntMulOk i j:=by
 rcases h with ⟨h1,h2⟩ | ⟨h1,h2⟩
 ·exact .of_left (tR h1 h2)
 ·exact .of_right (tR h1 h2)
theorem jO:OpR X (fj .Add) (rI0 λi j=>.int (i+j)):=Eg λ_ _ _ _ _ _ _ q=>add_int q
theorem jU:OpR X (fj .Sub) (rI0 λi j=>.int (i-j)):=Eg λ_ _ _ _ _ _ _ q=>sub_int q
theorem wq:OpR X (fj .Mult) (rI Vf λi j=>.int (i*j)):=opI λ_ _ _ _ _ _ _ a q=>mul_int q a.ok
theorem zC:OpR X (fj .Mod) (rI (λ_ j=>0<j) λi j=>.int (i % j)):=opI λi j _ _ _ _ _ a q=>by
 have h1:(0:Int)<j:=a
 exact mod_int' ∅ (by rw [Int.fmod_eq_emod_of_nonneg i ∅];exact q)
theorem yf:OpR X (fj .Pow) (rI EB λi j=>.int (i ^ j.toNat)):=opI λ_ _ _ _ _ _ _ a q=>pow_int_small a.1 a.2.1 a.2.2 q
theorem unI {f:aj->Sem aj}{g:Int->Int}
  (rule:∀(i:Int) (t:Tok) (s:Shared) (Q:aj->Shared->Prop) (E:aj->Shared->Prop),Q (.int (g i) s.toks) { s with toks:=s.toks+1 }->ax ↥3 X.A (f (.int i t)) Q E s) :
  UnR X f (rU λi=>.int (g i)):=by
 intro pins s σ H x v Q I a h
 obtain ⟨i,rfl,q⟩:=h
 obtain ⟨t,rfl⟩:=a
 exact rule i t s _ _ ⟨.int (g i),H,I.tok _,⟨_,rfl⟩,q⟩
theorem zG:UnR X (unaryOp .USub) (rU λi=>.int (-i)):=unI λ_ _ _ _ _ q=>neg_int q
end
noncomputable def GR:V->V->Bool
 | .non,.non=>true | .non,.int _=>true | .int _,.non=>true | .non,.bl _=>true | .bl _,.non=>true | .non,.str _=>true | .str _,.non=>true
 | .int _,.int _=>true | .bl _,.bl _=>true | .str _,.str _=>true | .byt _,.byt _=>true
 | .int _,.str _=>true | .str _,.int _=>true | .bl _,.str _=>true | .str _,.bl _=>true
 | _,_=>false
noncomputable def rEq:R2:=λx y H Q=>GR x y=true/\Q (.bl (decide (x=y))) H
noncomputable def rNe:R2:=λx y H Q=>GR x y=true/\Q (.bl (!decide (x=y))) H
theorem ZP {i j:Int}:decide (V.int i=V.int j)=(i == j):=by
 rw [dJ]
 simp
theorem Va {i j:Bool}:decide (V.bl i=V.bl j)=(i == j):=by
 rw [dJ]
 simp
theorem Y1 :decide (V.str i=V.str j)=(i == j):=by
 rw [dJ]
 simp
theorem ZU :decide (V.byt i=V.byt j)=(i.toList == j.toList):=by
 rw [dJ]
 cases i
 cases j
 simp
section
variable {X:Cx}{a b c:Expr}{ta tb tc:TE}{pos:Pos}
theorem jX {Q:VK}{k j:Bool}(I:Inv X pins σ H s) (q:Q (.bl k) H) (e:k=j):EP X pins σ Q (.bool j) s:=by
 subst e
 exact ⟨.bl k,H,I,rfl,q⟩
theorem x4:OpR X (cg .Eq) rEq:=by
 intro pins s σ H x y v u Q I d a h
 obtain ⟨c,q⟩:=h
 cases x with
 | non =>
  cases d
  cases y with
  | non=>cases a;exact PySem.EqNone.eq_none_none ↥26
  | bl j=>cases a;exact PySem.EqNone.eq_none_bool ↥26
  | int j=>obtain ⟨b,rfl⟩:=a;exact PySem.EqNone.eq_none_int ↥26
  | str j=>obtain ⟨b,rfl⟩:=a;exact PySem.EqNone.eq_none_str ↥26
  | _=>exact absurd (show false=true from c) au
 | bl i =>
  cases d
  cases y with
  | non=>cases a;exact PySem.EqNone.eq_bool_none ↥26
  | bl j=>cases a;exact eq_bool (jX I q Va)
  | str j=>obtain ⟨b,rfl⟩:=a;exact PySem.EqMixed.eq_bool_str ↥26
  | _=>exact absurd (show false=true from c) au
 | int i =>
  obtain ⟨t,rfl⟩:=d
  cases y with
  | non=>cases a;exact PySem.EqNone.eq_int_none ↥26
  | int j=>obtain ⟨b,rfl⟩:=a;exact eq_int (jX I q ZP)
  | str j=>obtain ⟨b,rfl⟩:=a;exact PySem.EqMixed.eq_int_str ↥26
  | _=>exact absurd (show false=true from c) au
 | str i =>
  obtain ⟨t,rfl⟩:=d
  cases y with
  | non=>cases a;exact PySem.EqNone.eq_str_none ↥26
  | bl j=>cases a;exact PySem.EqMixed.eq_str_bool ↥26
  | int j=>obtain ⟨b,rfl⟩:=a;exact PySem.EqMixed.eq_str_int ↥26
  | str j=>obtain ⟨b,rfl⟩:=a;exact eq_str (jX I q Y1)
  | _=>exact absurd (show false=true from c) au
 | byt i =>
  obtain ⟨t,rfl⟩:=d
  cases y with
  | byt j=>obtain ⟨b,rfl⟩:=a;exact PySem.W.eq_bytes (jX I q ZU)
  | _=>exact absurd (show false=true from c) au
 | _=>cases y <;> exact absurd (show false=true from c) au
theorem VL:OpR X (cg .NotEq) rNe:=by
 intro pins s σ H x y v u Q I d a h
 obtain ⟨c,q⟩:=h
 cases x with
 | non =>
  cases d
  cases y with
  | non=>cases a;exact PySem.EqNone.ne_none_none ↥26
  | bl j=>cases a;exact PySem.EqNone.ne_none_bool ↥26
  | int j=>obtain ⟨b,rfl⟩:=a;exact PySem.EqNone.ne_none_int ↥26
  | str j=>obtain ⟨b,rfl⟩:=a;exact PySem.EqNone.ne_none_str ↥26
  | _=>exact absurd (show false=true from c) au
 | bl i =>
  cases d
  cases y with
  | non=>cases a;exact PySem.EqNone.ne_bool_none ↥26
  | bl j=>cases a;exact ne_bool (jX I q (congrArg not Va))
  | str j=>obtain ⟨b,rfl⟩:=a;exact PySem.EqMixed.ne_bool_str ↥26
  | _=>exact absurd (show false=true from c) au
 | int i =>
  obtain ⟨t,rfl⟩:=d
  cases y with
  | non=>cases a;exact PySem.EqNone.ne_int_none ↥26
  | int j=>obtain ⟨b,rfl⟩:=a;exact ne_int (jX I q (congrArg not ZP))
  | str j=>obtain ⟨b,rfl⟩:=a;exact PySem.EqMixed.ne_int_str ↥26
  | _=>exact absurd (show false=true from c) au
 | str i =>
  obtain ⟨t,rfl⟩:=d
  cases y with
  | non=>cases a;exact PySem.EqNone.ne_str_none ↥26
  | bl j=>cases a;exact PySem.EqMixed.ne_str_bool ↥26
  | int j=>obtain ⟨b,rfl⟩:=a;exact PySem.EqMixed.ne_str_int ↥26
  | str j=>obtain ⟨b,rfl⟩:=a;exact ne_str (jX I q (congrArg not Y1))
  | _=>exact absurd (show false=true from c) au
 | byt i =>
  obtain ⟨t,rfl⟩:=d
  cases y with
  | byt j=>obtain ⟨b,rfl⟩:=a;exact PySem.W.ne_bytes (jX I q (congrArg not ZU))
  | _=>exact absurd (show false=true from c) au
 | _=>cases y <;> exact absurd (show false=true from c) au
theorem yt:OpR X (cg .Lt) (rI0 λi j=>.bl (decide (i<j))):=UT λ_ _ _ _ _ _ _ q=>lt_int q
theorem qB:OpR X (cg .LtE) (rI0 λi j=>.bl (decide (i<=j))):=UT λ_ _ _ _ _ _ _ q=>le_int q
theorem Wq:OpR X (cg .Gt) (rI0 λi j=>.bl (decide (j<i))):=UT λ_ _ _ _ _ _ _ q=>gt_int q
theorem JE:OpR X (cg .GtE) (rI0 λi j=>.bl (decide (j<=i))):=UT λ_ _ _ _ _ _ _ q=>ge_int q
theorem Qm:OpR X (cg .Is) (λx y H Q=>y = .non/\Q (.bl (decide (x = .non))) H):=by
 intro pins s σ H x y v u Q I a b h
 obtain ⟨rfl,q⟩:=h
 cases b
 refine is_none_gen (jX I q ?_)
 cases x <;> first
  | (cases a;rfl)
  | (obtain ⟨t,rfl⟩:=a;rfl)
theorem jx (b:Expr) {j:CmpOp}(h:j≠.In:=by decide) (h2:j≠.NotIn:=by decide):fb j b=false:=by
 have c:(j == CmpOp.In)=false:=by cases j <;> first | rfl | exact absurd rfl h
 have a:(j == CmpOp.NotIn)=false:=by cases j <;> first | rfl | exact absurd rfl h2
 cases b <;> simp [fb,c,a]
theorem zm (z:OpR X (cg j) r) (Y:PE X a ta) (U:PE X b tb) (G:fb j b=false):PE X (.Compare a [j] [b] pos) (tOp r ta tb):=by
 intro pins s σ H Q I h
 exact wpAny_Compare1 (G8 Y U I h λv u c x y H2 f e d q=>z pins c σ H2 x y v u Q f e d q) G
inductive tTestI (Q:Bool->Hp->Prop) (x:V) (H':Hp):Prop
 | mk (k:_) (_:x = .bl k) (_:Q k H')
noncomputable def XN (t:TE):TT:=λσ H Q=>t σ H λx H'=>tTestI Q x H'
theorem ju (G:OpR X (cg j) r) (ha:PE X a ta) (Y:PE X b tb) (U:fb j b=false):PT X (.Compare a [j] [b] pos) (XN (tOp r ta tb)):=by
 intro pins s σ H Q I h
 refine mZ (thn (ha pins s σ H _ I h) λv s1 ⟨x,H1,q,i,n⟩=>thn (Y pins s1 σ H1 _ q n) λu d ⟨y,H2,p,g,m⟩ =>
  thn (G pins d σ H2 x y v u _ p i g m) λc w ⟨z,t,o,f,k,e,l⟩=>?_) U
 subst e
 cases f
 exact bQ ⟨t,o,l⟩
noncomputable def Uc (r j:R2) (ta tb tc:TE):TE:=λσ H Q=>ta σ H λx H1=>tb σ H1 λy H2=>r x y H2 λz a=>∃k,z = .bl k /\
 (if k=true then tc σ a λb c=>j y b c Q else Q (.bl false) a)
theorem yu (ho:OpR X (cg G) r) (U:OpR X (cg j) Y) (ha:PE X a ta) (hb:PE X b tb) (hc:PE X c tc)
  (hm:lastMarks [G,j] [b,c]=false:=by with_unfolding_all rfl):PE X (.Compare a [G,j] [b,c] pos) (Uc r Y ta tb tc):=by
 intro pins s σ H Q I h
 refine Compare_chain (thn (ha pins s σ H _ I h) λv s1 ⟨x,H1,K,A,D⟩=>chain_link (thn (hb pins s1 σ H1 _ K D) λu q ⟨y,H2,J,f,C⟩ =>
  thn (ho pins q σ H2 x y v u _ J A f C) λd p ⟨z,l,i,w,k,e,g⟩=>?_)) hm
 subst e
 cases w
 refine bQ ?_
 cases k with
 | false=>exact ite_ff ⟨.bl false,l,i,rfl,g⟩
 | true=>exact ite_tt (chain_last (thn (hc pins p σ l _ i g) λn o ⟨m,L,E,t,B⟩=>U pins o σ L y m u n Q E f t B))
theorem xk (ho:OpR X (cg G) r) (U:OpR X (cg j) Y) (ha:PE X a ta) (hb:PE X b tb) (hc:PE X c tc)
  (hm:lastMarks [G,j] [b,c]=false:=by with_unfolding_all rfl):PT X (.Compare a [G,j] [b,c] pos) (XN (Uc r Y ta tb tc)):=by
 intro pins s σ H Q I h
 refine isTrue_chain (thn (ha pins s σ H _ I h) λv s1 ⟨x,H1,R,B,J⟩=>test_link (thn (hb pins s1 σ H1 _ R J) λu q ⟨y,H2,P,f,E⟩ =>
  thn (ho pins q σ H2 x y v u _ P B f E) λd p ⟨z,l,i,A,k,e,g⟩=>?_)) hm
 subst e
 cases A
 refine bQ ?_
 cases k with
 | false =>
  obtain ⟨k',M,K⟩:=g
  cases M
  exact ite_ff ⟨l,i,K⟩
 | true =>
  refine ite_tt (test_last (thn (hc pins p σ l _ i g) λn o ⟨m,T,O,w,D⟩=>thn (U pins o σ T y m u n _ O f w D) λd' Z ⟨V,S,N,t,k2,L,C⟩=>?_))
  subst L
  cases t
  exact bQ ⟨S,N,C⟩
noncomputable def Gu (K:ag) (x:V) (H:Hp) (k:Bool):Prop :=
 match x with
 | .non=>k=false
 | .bl b=>k=b
 | .int i=>k=(i != 0)
 | .str y=>y.length<=sizeLine/\k=((y.length:Int) != 0)
 | .byt y=>y.size<=sizeLine/\k=((y.size:Int) != 0)
 | .ref p=>(∃xs,SqL K H p xs/\k = !xs.isEmpty)\/(∃xs,SqT K H p xs/\k = !xs.isEmpty)\/∃kvs,H p=some (.dK kvs)/\k = !kvs.isEmpty
 | _=>False
theorem ZD {κ:Type}{kvs:List (κ×V)}{vs:List (κ×aj)}(r:KV kvs vs):(!vs.isEmpty) = !kvs.isEmpty:=by
 cases r <;> rfl
theorem gv (r:jH xs its):(!its.toArray.isEmpty) = !xs.isEmpty:=by
 cases r <;> simp
theorem kX:(sizeLine:Nat)<2 ^ 63:=by rw [bD];decide
theorem GG:TruR X (λx H Q=>∃k,Gu X.K x H k/\Q k H):=by
 intro pins s σ H x v Q I c h
 obtain ⟨k,e,q⟩:=h
 have u:=kX
 have o:sizeLine=16777216:=bD
 cases x with
 | non =>
  cases c
  have a:k=false:=e
  subst a
  exact truthy_none ⟨H,I,q⟩
 | bl b =>
  cases c
  have a:k=b:=e
  subst a
  exact bQ ⟨H,I,q⟩
 | int i =>
  obtain ⟨t,rfl⟩:=c
  have a:k=(i != 0):=e
  subst a
  exact PySem.P.truthy_int ⟨H,I,q⟩
 | str y =>
  obtain ⟨t,rfl⟩:=c
  obtain ⟨l,a⟩:y.length<=sizeLine/\k=((y.length:Int) != 0):=e
  subst a
  exact PySem.P.truthy_str ∅ ⟨H,I.tok _,q⟩
 | byt y =>
  obtain ⟨t,rfl⟩:=c
  obtain ⟨l,a⟩:y.size<=sizeLine/\k=((y.size:Int) != 0):=e
  subst a
  exact PySem.W.truthy_bytes ∅ ⟨H,I.tok _,q⟩
 | ref p =>
  cases c
  have a:(∃xs,SqL X.K H p xs/\k = !xs.isEmpty)\/(∃xs,SqT X.K H p xs/\k = !xs.isEmpty)\/∃kvs,H p=some (.dK kvs)/\k = !kvs.isEmpty:=e
  rcases a with ⟨xs,d,a⟩ | ⟨xs,d,a⟩ | ⟨kvs,d,a⟩
  ·subst a
   obtain ⟨g,r,pl,j⟩:=I.list d
   have f:=r.length
   exact wpAny_truthy_list pl.isList (by simp only [aw];omega) ⟨H,I.tok _,by rw [gv r];exact q⟩
  ·subst a
   obtain ⟨g,r,pl,j⟩:=I.tuple d
   have f:=r.length
   exact truthy_tuple pl (by simp only [aw];omega) ⟨H,I.tok _,by rw [gv r];exact q⟩
  ·subst a
   obtain ⟨j,n,vs,r,m⟩:kvs.length<=sizeLine/\(p == dq)=false/\∃vs,KV kvs vs/\s.heap.DictOf (jz X.prog X.w) p vs:=I.hok p _ d
   have f:kvs.length=vs.length:=aM r
   exact wpAny_truthy_dict n m ∅ ⟨H,I.tok _,by rw [ZD r];exact q⟩
 | _=>exact (show False from e).elim
theorem Vz (G:PE X a ta) (z:∀j,isTrue a X.env j=(do let v <- j;fG a.pos;dN [v] (Ah v))) :
  PT X a (λσ H Q=>ta σ H λx H'=>∃k,Gu X.K x H' k/\Q k H'):=by
 intro pins s σ H Q I h
 exact isTrue_plain (thn (G pins s σ H _ I h) λv s1 ⟨x,H1,d,b,c⟩=>GG pins s1 σ H1 x v Q d b c) (z _)
theorem vv {x:V}(r:jH [x] us):∃u,us=[u]/\jJ x u:=by
 cases r with
 | cons b a=>cases a;exact ⟨_,rfl,b⟩
theorem Y2 {x y:V}(r:jH [x,y] us):∃u w',us=[u,w']/\jJ x u/\jJ y w':=by
 cases r with
 | cons d c =>
  cases c with
  | cons b a=>cases a;exact ⟨_,_,rfl,d,b⟩
inductive cI_call_max2 (xs:List V) (H:Hp) (Q:VK):Prop
 | mk (i:_) (j:_) (_:xs=[.int i,.int j]) (_:Q (.int (if j > i then j else i)) H)
theorem zj (z:X.calm=true):xl X (.builtin "max") cI_call_max2:=by
 intro pins s σ H xs c Q I r h
 obtain ⟨i,j,rfl,q⟩:=h
 obtain ⟨u,b,rfl,⟨t,rfl⟩,⟨d,rfl⟩⟩:=Y2 r
 refine max_two_ints (I.ok.hd z) λh' tk k=>⟨_,H,I.kept k,?_,q⟩
 by_cases a:j > i
 ·rw [if_pos a,if_pos a];exact ⟨_,rfl⟩
 ·rw [if_neg a,if_neg a];exact ⟨_,rfl⟩
inductive cI_call_min2 (xs:List V) (H:Hp) (Q:VK):Prop
 | mk (i:_) (j:_) (_:xs=[.int i,.int j]) (_:Q (.int (if j<i then j else i)) H)
theorem zQ (z:X.calm=true):xl X (.builtin "min") cI_call_min2:=by
 intro pins s σ H xs c Q I r h
 obtain ⟨i,j,rfl,q⟩:=h
 obtain ⟨u,b,rfl,⟨t,rfl⟩,⟨d,rfl⟩⟩:=Y2 r
 refine min_two_ints (I.ok.hd z) λh' tk k=>⟨_,H,I.kept k,?_,q⟩
 by_cases a:j<i
 ·rw [if_pos a,if_pos a];exact ⟨_,rfl⟩
 ·rw [if_neg a,if_neg a];exact ⟨_,rfl⟩
end
end L2
namespace L2
structure ObjM (h:Heap) (x dx C:Addr) (mA:Str->Option aj):Prop where
 obj:h.get? x=some (d8 C dx)
 ns:h.Ns1 dx mA
 ne:dx≠x
theorem YM {h:Heap}(n:h.Ns1 dx mA):∃od,h.get? dx=some od/\∀name,lE name od=some (mA name):=by
 obtain ⟨o,es,k,d,i,g,_,f⟩:=n
 refine ⟨o,d,λname=>?_⟩
 have e:=f name
 unfold nsFind findBy at e
 rw [<- Array.find?_toList] at e
 unfold lE
 rw [i]
 dsimp only
 split
 ·rename_i y q
  rw [q] at e
  exact congrArg some e
 ·rename_i q
  rw [q] at e
  have a:es.toList.any (·.refKey)=false:=by
   rw [List.any_eq_false]
   intro y c
   obtain ⟨z,t,b⟩:=g y (Array.mem_toList_iff.mp c)
   simp [DictEntry.refKey,b]
  have j:¬es.toList.any (·.refKey)=true:=by rw [a];exact au
  rw [if_neg j]
  exact congrArg some e
theorem ObjM.look {x dx:Addr}(I:ObjM h x dx C mA):∃od,sW h x (d8 C dx) C (some od)/\∀name,lE name od=some (mA name) :=
 let ⟨od,a,b⟩:=YM I.ns
 ⟨od,⟨I.obj,rfl,rfl,a⟩,b⟩
section
variable {prog:Program}{w:bo}{A:bx}{E:aj->Shared->Prop}{s:Shared}{K:ag}{x dx C f:Addr}{mA:Str->Option aj}{name:Str}{v:aj}
theorem UZ {j:Bool}{Q:aj->Shared->Prop}(X:K.In s.heap) (I:ObjM s.heap x dx C mA) (Y:fI K C name=true) (U:i7 K C=true)
  (ha:bK K (.ref C) name=some none) (G:mA name=some v) (z:rJ v=true) (h:Q v { s with toks:=s.toks+1 }) :
  ax (aD prog w) A (getAttr (.ref x) name j) Q E s:=by
 obtain ⟨b,J,a⟩:=I.look
 exact PySem.W.get_value X J (lh Y).1 (PySem.W.findObj_own U ha rfl (by rw [a,G])) z h
theorem Vx {Q:aj×List aj->Shared->Prop}(X:K.In s.heap) (I:ObjM s.heap x dx C mA) (j:fI K C name=true)
  (U:bK K (.ref C) name=some (some (.ref f))) (G:pE K (.ref f)=true) (z:mA name=none) (h:Q (.ref f,[.ref x]) s) :
  ax (aD prog w) A (mi (.ref x) name pl) Q E s:=by
 obtain ⟨a,J,b⟩:=I.look
 exact PySem.W.method_fn X J (lh j).1 (lh j).2 U (beq_iff_eq.mp G) (by show (lE name a).map (·.isSome)=some false;rw [b,z];rfl) h
theorem Wg {Q:Unit->Shared->Prop}(X:K.In s.heap) (I:ObjM s.heap x dx C mA)
  (hs:bK K (.ref C) "__setattr__" = some (some (.builtin "object.__setattr__"))) (U:lS K C=true) (G:mQ K C name=some none) (Y:i7 K C=true)
  (z:pA mA ns) (hsz:ns.length<=sizeLine)
  (h:∀h',ObjM h' x dx C (λy=>if y=name then some v else mA y)->eI dx s.heap h'->Q () { s with heap:=h',toks:=s.toks+2 }) :
  ax (aD prog w) A (setAttr (.ref x) name v) Q E s:=by
 obtain ⟨n,J,p⟩:=I.look
 refine PySem.W.set_plain X J hs (PySem.W.osa_open (s:={ s with toks:=s.toks+1 }) (r:=none) X J U G λb=>?_)
 obtain ⟨q,k,g⟩:=PySem.W.any_some Y
 have j:s.heap.get? x=some ⟨.ref C,some dx,.plain,#[]⟩:=I.obj
 refine aa (wpAny_pure (aa (aa (sX j (aa (PySem.W.Looks.here (s:={ s with toks:=s.toks+1 }) (PySem.W.looks_clsIn X k) ?_))))))
 rw [g]
 refine wpAny_pure (a:=some dx) (aa (wpAny_pure (aa ?_)))
 refine wpAny_nsSet1 (s:={ s with toks:=s.toks+1 }) I.ns λh' d c=>?_
 obtain ⟨o,l,m,e,f,i⟩:=d.count (PySem.Within.cons name v z)
 refine aa (wpAny_lookBehind e (by rw [f];exact pastItsLine_dict (aI i (by rw [bf];omega))) ?_)
 exact wpAny_pure (h _ ⟨(c.2 _ (cx I.ne)).trans I.obj,d,I.ne⟩ c)
theorem VD {vs:List aj}{j:List (Str×aj)}(X:K.In s.heap) (z:mR K C=true)
  (hi:bK K (.ref C) "__init__" = some (some (.ref f))) (G:PySem.W.typeIn K (.ref f)=some (.type "function"))
  (h:cO (aD prog w) (A.under (.builtin "type.__call__" ⟨.ref C::vs,j⟩)) (.call (.ref f) ⟨.ref ↥16::vs,j⟩) (PySem.W.InitBack ↥16 R)
   { s with heap:=(s.heap.push cz).push (d8 C s.heap.objs.size) }) :
  cO (aD prog w) A (.call (.ref C) ⟨vs,j⟩) R s:=by
 obtain ⟨b,g,d,t,os⟩:=s
 exact PySem.W.make_core (PySem.W.makes_of X z) (PySem.W.looks_findIn X hi) (λa=>PySem.W.bind_fn X a G) (.inl rfl) h
end
noncomputable def jv (f:Str) (v:V):List (Str×V)->List (Str×V)
 | []=>[(f,v)]
 | (g,x)::r=>if g=f then (g,v)::r else (g,x)::jv f v r
theorem jC (f g:Str) (v:V):∀fs:List (Str×V),(jv f v fs).lookup g=if g=f then some v else fs.lookup g
 | []=>by
  show eE g [(f,v)]=_
  by_cases h:g=f
  ·have a:(g == f)=true:=beq_iff_eq.mpr h
   simp only [eE,a,if_pos h]
  ·have a:(g == f)=false:=beq_eq_false_iff_ne.mpr h
   simp only [eE,a,if_neg h]
 | (k,x)::r=>by
  have c:=jC f g v r
  rw [show jv f v ((k,x)::r)=(if k=f then (k,v)::r else (k,x)::jv f v r) from rfl]
  by_cases b:k=f
  ·rw [if_pos b]
   by_cases h:g=k
   ·have a:(g == k)=true:=beq_iff_eq.mpr h
    simp only [eE,a,if_pos (h.trans b)]
   ·have a:(g == k)=false:=beq_eq_false_iff_ne.mpr h
    simp only [eE,a,if_neg (λe:g=f=>h (e.trans b.symm))]
  ·rw [if_neg b]
   by_cases h:g=k
   ·have a:(g == k)=true:=beq_iff_eq.mpr h
    simp only [eE,a,if_neg (λe:g=f=>b (h.symm.trans e))]
   ·have a:(g == k)=false:=beq_eq_false_iff_ne.mpr h
    simp only [eE,a]
    exact c
theorem wc (f:Str) (v:V):∀fs:List (Str×V),f∈(jv f v fs).map (·.1)/\∀g,g∈fs.map (·.1)->g∈(jv f v fs).map (·.1)
 | []=>⟨by simp [jv],λg h=>by simp at h⟩
 | (k,x)::r=>by
  obtain ⟨c,b⟩:=wc f v r
  rw [show jv f v ((k,x)::r)=(if k=f then (k,v)::r else (k,x)::jv f v r) from rfl]
  by_cases a:k=f
  ·rw [if_pos a]
   subst a
   exact ⟨by simp,λg h=>by simpa using h⟩
  ·rw [if_neg a]
   refine ⟨?_,λg h=>?_⟩
   ·rw [aS]
    exact aH _ c
   ·rw [aS] at h ⊢
    rcases List.mem_cons.mp h with e | e
    ·exact List.mem_cons.mpr (.inl e)
    ·exact aH _ (b g e)
theorem qm (f:Str) (v:V):∀fs:List (Str×V),(jv f v fs).length<=fs.length+1
 | []=>by simp [jv]
 | (k,x)::r=>by
  have b:=qm f v r
  rw [show jv f v ((k,x)::r)=(if k=f then (k,v)::r else (k,x)::jv f v r) from rfl]
  by_cases a:k=f
  ·rw [if_pos a,bf,bf];omega
  ·rw [if_neg a,bf,bf];omega
theorem vh.some_of (r:vh (some v) o):∃u,o=some u/\jJ v u:=by
 cases o with
 | none=>exact (show False from r).elim
 | some u=>exact ⟨u,rfl,r⟩
theorem vh.none_of (r:vh none o):o=none:=by
 cases o with
 | none=>rfl
 | some u=>exact (show False from r).elim
theorem Y9 (r:jJ v u):rJ u=true:=by
 cases v with
 | non=>cases (show u=aX from r);rfl
 | bl b=>cases (show u=mz b from r);rfl
 | int i=>obtain ⟨t,e⟩:=(show ∃t,u=ma i t from r);cases e;rfl
 | str x=>obtain ⟨t,e⟩:=(show ∃t,u=oq x t from r);cases e;rfl
 | byt b=>obtain ⟨t,e⟩:=(show ∃t,u=Value.bytes b t from r);cases e;rfl
 | flt b=>obtain ⟨t,e⟩:=(show ∃t,u=sj b t from r);cases e;rfl
 | ref a=>cases (show u=aU a from r);rfl
 | ty n=>cases (show u=iH n from r);rfl
section
variable {P:Program}{w:bo}{H H':Hp}{h h':Heap}{a C dx:Addr}{fs fs':List (Str×V)}
theorem wW (j:HOk P w H h) (e:H a=some ↥119):∃mA,ObjM h a dx C mA/\(∀f,vh (fs.lookup f) (mA f))/\pA mA (fs.map (·.1))/\fs.length<=1000/\H dx=some (.own a):=by
 obtain ⟨d,z,ne,b,mA,n,r,q⟩:=(show qu P w H h a ↥119 from j a _ e)
 exact ⟨mA,⟨b,n,ne⟩,r,q,z,d⟩
end
structure Cls (K:ag) (C:Addr):Prop where
 pg:fI K C Str.empty=true
 hd:i7 K C=true
 po:lS K C=true
 sa:bK K (.ref C) "__setattr__" = some (some (.builtin "object.__setattr__"))
theorem Cls.get {K:ag}(c:Cls K C) (f:Str):fI K C f=true:=c.pg
noncomputable def zV (K:ag) (C:Addr) (f:Str):Prop:=bK K (.ref C) f=some none
theorem zV.taker {K:ag}(n:zV K C f):mQ K C f=some none:=by
 unfold mQ
 rw [show bK K (.ref C) f=some none from n]
 rfl
structure Meth (K:ag) (C:Addr) (m:Str) (f:Addr):Prop where
 at_:bK K (.ref C) m=some (some (.ref f))
 fn:pE K (.ref f)=true
 kp:bR K (.ref f)=true
section
variable {X:Cx}{pins:List (Addr×Obj)}{σ:St}{H:Hp}{s:Shared}{a C dx:Addr}{fs:List (Str×V)}{f:Str}{v:V}{A:bx}{E:aj->Shared->Prop}
theorem Zh {b:Bool}{Q:aj->Shared->Prop}(I:Inv X pins σ H s) (e:H a=some ↥119) (c:Cls X.K C) (n:zV X.K C f) (l:fs.lookup f=some v)
  (h:∀u s',Inv X pins σ H s'->jJ v u->Q u s'):ax ↥3 A (getAttr (.ref a) f b) Q E s:=by
 obtain ⟨mA,O,r,_,_,_⟩:=wW I.hok e
 obtain ⟨u,g,d⟩:=vh.some_of (v:=v) (o:=mA f) (by rw [<- l];exact r f)
 exact UZ I.kIn O (c.get f) c.hd n g (Y9 d) (h u _ (I.tok _) d)
theorem vV {Q:aj×List aj->Shared->Prop}(I:Inv X pins σ H s) (e:H a=some ↥119) (c:Cls X.K C) (k:Meth X.K C m g) (l:fs.lookup m=none)
  (h:Q (.ref g,[.ref a]) s):ax ↥3 A (mi (.ref a) m pl) Q E s:=by
 obtain ⟨mA,O,r,_,_,_⟩:=wW I.hok e
 have b:mA m=none:=vh.none_of (by rw [<- l];exact r m)
 exact Vx I.kIn O (c.get m) k.at_ k.fn b h
theorem Zv {Q:Unit->Shared->Prop}(I:Inv X pins σ H s) (e:H a=some ↥119) (c:Cls X.K C) (n:zV X.K C f) (U:fs.length<1000) (G:jJ y u)
  (h:∀s',Inv X pins σ (upd H a (.ins C dx (jv f y fs))) s'->Q () s'):ax ↥3 A (setAttr (.ref a) f u) Q E s:=by
 obtain ⟨mA,O,r,i,_,j⟩:=wW I.hok e
 have l:(fs.map (·.1)).length<=sizeLine:=by rw [ah,bD];omega
 refine Wg I.kIn O c.sa c.po n.taker c.hd i l λh' d k=>h _ ?_
 have p:∃o,h'.get? dx=some o:=let ⟨o,_,_,v,_⟩:=d.ns;⟨o,v⟩
 refine I.write (x:=a) (e:=dx) (by rw [e];exact de) (.inr j) (λb q t z=>(k.2 b t).trans z) p ?_
 refine ⟨by rw [j7 O.ne];exact j,?_,O.ne,d.obj,_,d.ns,λg=>?_,λg m=>?_⟩
 ·have:=qm f y fs;omega
 ·show vh ((jv f y fs).lookup g) (if g=f then some u else mA g)
  rw [jC]
  by_cases q:g=f
  ·rw [if_pos q,if_pos q];exact G
  ·rw [if_neg q,if_neg q];exact r g
 ·by_cases q:g=f
  ·rw [q];exact (wc f y fs).1
  ·refine (wc f y fs).2 g (i g λz=>m ?_)
   show (if g=f then some u else mA g)=none
   rw [if_neg q];exact z
theorem Inv.made (I:Inv X pins σ H s):Inv X pins σ (upd (upd H s.heap.objs.size (.own ↥16)) ↥16 (.ins C s.heap.objs.size []))
  { s with heap:=(s.heap.push cz).push (d8 C s.heap.objs.size) }:=by
 have c:(s.heap.push cz).get? s.heap.objs.size=some cz:=az s.heap rfl
 have h:((s.heap.push cz).push (d8 C s.heap.objs.size)).get? ↥16=some (d8 C s.heap.objs.size):=by
  have:=az (s.heap.push cz) (o:=d8 C s.heap.objs.size) rfl
  rwa [cB] at this
 have g:(s.heap.push cz).Ns s.heap.objs.size (λ_=>none):=⟨cz,#[],_,c,rfl,(λe f=>absurd f (by simp)),λ_=>rfl⟩
 have i:=I.laid (a:=s.heap.objs.size) (o:=.own ↥16) (h':=s.heap.push cz) (t':=s.toks) (λb u q=>ai _ q) (ar _) ⟨_,c⟩
 refine i.laid (a:=s.heap.objs.size+1) (o:=.ins C s.heap.objs.size []) (t':=s.toks) (λb u q=>ai _ q) (pG (cB _ _)) ?_
 have ne:s.heap.objs.size≠s.heap.objs.size+1:=aB (iJ _)
 refine ⟨by rw [j7 ne,j6],aG _,ne,h,λ_=>none,(Heap.Ns1.of_empty g).at λo q=>ai _ q,λ_=>de,λy d=>absurd rfl d⟩
theorem UE {prog:Program}{w:bo}{env:Env}{e:Expr}{f:Str}{pos:Pos}{s:Shared}{Q:aj->Shared->Prop}(z:dP e f env (eval e env)=eval e env)
  (h:ax (aD prog w) A (eval e env) (λo j=>ax (aD prog w) A (getAttr o f true) Q E j) E s):ax (aD prog w) A (eval (.Attribute e f pos) env) Q E s :=
 Attribute_any_ h (by rw [arm_eval_Attribute,z])
end
inductive tFldI (K:ag) (f:Str) (Q:VK) (x:V) (H1:Hp):Prop
 | mk (a:_) (C:_) (dx:_) (fs:_) (v:_) (_:x = .ref a) (_:H1 a=some ↥119) (_:Cls K C) (_:zV K C f) (_:fs.lookup f=some v) (_:Q v H1)
noncomputable def GU (K:ag) (ta:TE) (f:Str):TE:=λσ H Q=>ta σ H λx H1=>tFldI K f Q x H1
inductive sFldI (K:ag) (f:Str) (D:Ends) (σ:St) (y:V) (x:V) (H2:Hp):Prop
 | mk (a:_) (C:_) (dx:_) (fs:_) (_:x = .ref a) (_:H2 a=some ↥119) (_:Cls K C) (_:zV K C f) (_:fs.length<1000) (_:D.nx σ (upd H2 a (.ins C dx (jv f y fs))))
noncomputable def EC (K:ag) (ta tv:TE) (f:Str):TS:=λD σ H=>tv σ H λy H1=>ta σ H1 λx H2=>sFldI K f D σ y x H2
section
variable {X:Cx}{o e value:Expr}{f:Str}{pos pos' tpos:Pos}{ta tv:TE}
theorem Gz (j:PE X e ta) (z:dP e f X.env (eval e X.env)=eval e X.env):PE X (.Attribute e f pos) (GU X.K ta f):=by
 intro pins s σ H Q I h
 refine UE z (thn ↥75 λu s1 ⟨x,H1,k,b,a,C,dx,fs,v,ex,g,c,n,l,q⟩=>?_)
 subst ex
 obtain rfl:u=aU a:=b
 exact Zh k g c n l λm o i d=>⟨v,H1,i,d,q⟩
theorem GA (z:PE X o ta) (j:PE X value tv) (hs:lA value (some (.Attribute o f pos')) pos.line X.env=pure false):PS X (.Assign [.Attribute o f pos'] value pos) (EC X.K ta tv f):=by
 intro pins s σ H D I h
 refine plainObj_wpAny_Assign_Attribute (thn ↥75 λu s1 ⟨y,H1,p,b,q⟩=>thn (z pins s1 σ H1 _ p q) λg t ⟨x,H2,m,d,a,C,dx,fs,ex,i,c,n,l,e⟩=>?_) hs
 subst ex
 obtain rfl:g=aU a:=d
 exact Zv m i c n l b λr k=>⟨σ,_,k,e⟩
theorem Wv (U:PE X e te) (I:Inv X pins σ H s)
  (h:te σ H λx H1=>∃a C dx fs g,x = .ref a/\H1 a=some ↥119/\Cls X.K C/\Meth X.K C m g/\fs.lookup m=none /\
   ∀s1,Inv X pins σ H1 s1->ax ↥3 X.A (pH pos (.ref g) [.ref a] (cM pos (aR j X.env)) (lF pos (fk [] X.env))) Q X.xe s1)
  (G:eval (.Call (.Attribute e m apos) j [] pos) X.env=(do
   let z <- eval e X.env
   fG apos.atName
   let (f,first) <- dN [z] (mi z m pl)
   pH pos f first (cM pos (aR j X.env)) (lF pos (fk [] X.env)))) :
  ax ↥3 X.A (eval (.Call (.Attribute e m apos) j [] pos) X.env) Q X.xe s:=by
 refine iD (pl:=pl) (thn (U pins s σ H _ I h) λu s1 ⟨x,H1,b,d,a,C,dx,fs,g,ex,i,c,k,l,q⟩=>?_) G
 subst ex
 obtain rfl:u=aU a:=d
 exact vV b i c k l (q s1 b)
end
section
variable {X:Cx}{pins:List (Addr×Obj)}{σ:St}{H:Hp}{s:Shared}{A:bx}{E:aj->Shared->Prop}{Q:aj->Shared->Prop}{c:aj}{b:Bool}
inductive TyOf (K:ag) (H:Hp):V->aj->Prop where
 | non:TyOf K H .non (.type "NoneType")
 | bl (x:Bool):TyOf K H (.bl x) (.type "bool")
 | int (i:Int):TyOf K H (.int i) (.type "int")
 | str (x:Str):TyOf K H (.str x) (.type "str")
 | flt (x:UInt64):TyOf K H (.flt x) (.type "float")
 | lst {a:Addr} {xs:List V} (e:H a=some (.lst xs)):TyOf K H (.ref a) ↥138
 | frz {a:Addr} {o:Obj} {xs:List V} (e:H a=some (.frz o (.lst xs))):TyOf K H (.ref a) ↥138
 | tup {a:Addr} {xs:List V} (e:H a=some (.tup xs)):TyOf K H (.ref a) (.type "tuple")
 | dK {a:Addr} {kvs:List (Key×V)} (e:H a=some (.dK kvs)):TyOf K H (.ref a) (.type "dict")
 | dT {a:Addr} {kvs:List (List Key×V)} (e:H a=some (.dT kvs)):TyOf K H (.ref a) (.type "dict")
 | ins {a C dx:Addr} {fs:List (Str×V)} (e:H a=some ↥119) (cl:Cls K C) (ha:bK K (.ref C) "__class__" = some (some ↥77))
   (hn:PySem.W.specialIn K ↥77 "__get__" = some (some ↥120)) (htk:PySem.W.takesIn K ↥77=some true)
   (hm:PySem.W.mroIn K C (.type "object")=some true):TyOf K H (.ref a) (.ref C)
theorem Y7 {t:aj}(I:Inv X pins σ H s) (j:jJ x u) (ty:TyOf X.K H x t) (e:bb X.K t c=some b) (h:∀tk,Q (.bool b) { s with toks:=tk }) :
  ax ↥3 A (call (.builtin "isinstance") [u,c]) Q E s:=by
 cases ty with
 | non=>cases (show u=aX from j);exact c3 PySem.W.kitx_none I.kIn de e ↥92 h
 | bl y=>cases (show u=mz y from j);exact c3 PySem.W.kitx_bool I.kIn de e ↥92 h
 | int i=>obtain ⟨t,q⟩:=(show ∃t,u=ma i t from j);cases q;exact c3 PySem.W.kitx_int I.kIn de e ↥92 h
 | str y=>obtain ⟨t,q⟩:=(show ∃t,u=oq y t from j);cases q;exact c3 PySem.W.kitx_str I.kIn de e ↥92 h
 | flt y=>obtain ⟨t,q⟩:=(show ∃t,u=sj y t from j);cases q;exact c3 PySem.W.kitx_float I.kIn de e ↥92 h
 | @lst a xs d =>
  cases (show u=aU a from j)
  obtain ⟨_,_,n,_,h1⟩:=(show qu X.prog X.w H s.heap a (.lst xs) from I.hok a _ d)
  exact c3 pI I.kIn ⟨_,h1,rfl⟩ e ↥92 h
 | @frz a k xs d =>
  cases (show u=aU a from j)
  obtain ⟨_,_,_,n,_,h1⟩:=(show qu X.prog X.w H s.heap a (.frz k (.lst xs)) from I.hok a _ d)
  exact c3 pI I.kIn ⟨_,h1,rfl⟩ e ↥92 h
 | @tup a xs d =>
  cases (show u=aU a from j)
  obtain ⟨_,_,_,p⟩:=(show qu X.prog X.w H s.heap a (.tup xs) from I.hok a _ d)
  obtain ⟨o,h1,h2,_⟩:=p
  exact c3 PySem.W.kitx_tuple I.kIn ⟨o,h1,h2⟩ e ↥92 h
 | @dK a kvs d =>
  cases (show u=aU a from j)
  obtain ⟨_,_,B,_,p⟩:=(show qu X.prog X.w H s.heap a (.dK kvs) from I.hok a _ d)
  obtain ⟨o,es,v,h1,h2,_⟩:=p
  exact c3 pJ I.kIn ⟨o,h1,h2.1⟩ e ↥92 h
 | @dT a kvs d =>
  cases (show u=aU a from j)
  obtain ⟨_,_,xs,_,o,es,v,h1,h2,_⟩:=(show qu X.prog X.w H s.heap a (.dT kvs) from I.hok a _ d)
  exact c3 pJ I.kIn ⟨o,h1,h2.1⟩ e ↥92 h
 | @ins a C dx fs d g r l f m =>
  cases (show u=aU a from j)
  obtain ⟨mA,O,_⟩:=wW I.hok d
  obtain ⟨D,J,_⟩:=O.look
  exact c3 (PySem.W.kitx_own (g.get _) g.hd r l f m) I.kIn J e ↥92 h
end
end L2
namespace L2
structure Room (k:Nat) (A:bx):Prop where
 hd:A.handled=none
 dp:A.depth+3*k+5<recursionLimit
 un:A.units+16*k+200<cLine
theorem Room.mono {j k:Nat}{A:bx}(r:Room k A) (h:j<=k):Room j A:=⟨r.hd,by have:=r.dp;omega,by have:=r.un;omega⟩
theorem Room.deeper {k:Nat}{A:bx}(r:Room (k+1) A) (env:Env):Room k (A.deeper env) :=
 ⟨r.hd,by have:=r.dp;show A.depth+1+3*k+5<_;omega,by have:=r.un;show A.units+3+16*k+200<_;omega⟩
theorem Room.in1 {k:Nat}{A:bx}(r:Room (k+1) A):Room k A.in1 :=
 ⟨r.hd,by have:=r.dp;show A.depth+3*k+5<_;omega,by have:=r.un;show A.units+1+16*k+200<_;omega⟩
theorem Zd {A:bx}{us:List aj}{j:List (Str×aj)}: (↥72).depth=A.depth+1:=by
 first | rfl | simp [pK,Code.weight,Code.isCreation,Code.isGuard,Code.isCaller,Code.frames,pL,guardIds]
theorem XW {A:bx}{us:List aj}{j:List (Str×aj)}: (↥72).units=A.units+1:=by
 first | rfl | simp [pK,Code.cUnits,Code.frames,pL]
theorem Room.make {k:Nat}{A:bx}(r:Room (k+1) A) (C:Addr) (us:List aj) (j:List (Str×aj)):Room k ↥72 :=
 ⟨r.hd,by have:=r.dp;rw [Zd];omega,by have:=r.un;rw [XW];omega⟩
theorem Room.depth {k:Nat}{A:bx}(r:Room k A):A.depth<recursionLimit:=by have:=r.dp;omega
theorem Room.units {k:Nat}{A:bx}(r:Room k A):A.units+64<cLine:=by have:=r.un;omega
noncomputable def uP:TA:=λ_ H Q=>Q [] H
noncomputable def Eb (ta:TE) (j:TA):TA:=λσ H Q=>ta σ H λx H1=>j σ H1 λxs H2=>Q (x::xs) H2
section
variable {X:Cx}{e:Expr}{es:List Expr}{te:TE}{t:TA}{pos:Pos}
theorem j2:PA X [] uP:=λ_ _ _ _ H Q I h=>pM ⟨[],H,I,.nil,h⟩
theorem j0 (z:PE X e te) (j:PA X es t) (hs:aR (e::es) X.env=↥40::aR es X.env:=by rfl):PA X (e::es) (Eb te t):=by
 intro pos pins s σ H Q I h
 rw [hs]
 show ax _ _ (spliced (↥40::cM pos (aR es X.env))) _ _ s
 refine lH (thn ↥112 λu s1 ⟨x,H1,g,b,d⟩=>?_)
 exact thn (j pos pins s1 σ H1 _ g d) λi k ⟨xs,H2,f,a,c⟩=>⟨x::xs,H2,f,.cons b a,c⟩
end
noncomputable abbrev Sp:=List V->Hp->VK->XK->Prop
noncomputable abbrev CXT:=List Env->Hp->Shared->XK->aj->Shared->Prop
structure Env0 (P:Program) (w:bo) (K:ag) (mg:Str->Option aj) (base:Heap) (A:bx) (outer:List Env) (s:Shared) (H:Hp):Prop where
 frames:A.frames=some outer
 mod:Mod K mg base
 bs:∀b o,base.get? b=some o->s.heap.get? b=some o/\H b=none
 bsz:base.objs.size<=s.heap.objs.size
 funs:s.heap.FunFrames base outer
 frf:∀b∈frs outer,H b=none
 hok:HOk P w H s.heap
 bare:iL s.gens
noncomputable def CE (outer:List Env) (P:Program) (w:bo) (H:Hp) (s:Shared) (Q:VK) (u:aj) (s':Shared):Prop :=
 ∃v H',s'.os=s.os/\iL s'.gens/\Un (frs outer) [] H H' s.heap s'.heap/\HOk P w H' s'.heap/\jJ v u/\Q v H'
noncomputable def CR (CX:CXT) (outer:List Env) (P:Program) (w:bo) (H:Hp) (s:Shared) (Q:VK) (E:XK) (r:nH) (s':Shared):Prop :=
 match r with
 | .ok (.ret u)=>CE outer P w H s Q u s'
 | .ok _=>False
 | .error e=>CX outer H s E e s'
structure FnOk (P:Program) (w:bo) (K:ag) (mg:Str->Option aj) (base:Heap) (CX:CXT) (k:Nat) (f:Addr) (fd:FuncData) (ps:List Str) (sp:Sp):Prop where
 len:∀vs H Q E,sp vs H Q E->vs.length=ps.length
 run:∀(A:bx) (outer:List Env) (s:Shared) (H:Hp) (args:Args) (us:List aj) (vs:List V) (Q:VK) (E:XK),Room k A->Env0 P w K mg base A outer s H->pN s fd args (ps.zip us)->jH vs us->sp vs H Q E ->
  cO (aD P w) A (.call (.ref f) args) (CR CX outer P w H s Q E) s
theorem Env0.make {w:bo}{K:ag}{mg:Str->Option aj}{base:Heap}{A:bx}{outer:List Env}{s:Shared}(e:Env0 P w K mg base A outer s H) (C:Addr) (us:List aj) (j:List (Str×aj)) :
  Env0 P w K mg base ↥72 outer s H:=⟨by first | exact e.frames | (simpa [pK,Code.envs,pL,pushEnvs] using e.frames),e.mod,e.bs,e.bsz,e.funs,e.frf,e.hok,e.bare⟩
theorem Env0.in1 {w:bo}{K:ag}{mg:Str->Option aj}{base:Heap}{A:bx}{outer:List Env}{s:Shared}(e:Env0 P w K mg base A outer s H) :
  Env0 P w K mg base A.in1 outer s H:=⟨e.frames,e.mod,e.bs,e.bsz,e.funs,e.frf,e.hok,e.bare⟩
section
variable {X:Cx}{pins:List (Addr×Obj)}{σ:St}{H:Hp}{s s':Shared}
theorem Inv.env0 (I:Inv X pins σ H s):Env0 X.prog X.w X.K X.mg X.base X.A X.stack s H :=
 ⟨I.ok.frames,I.ok.mod,I.bs,aI I.ok.bsz I.sz,I.stack,I.stkFree,I.hok,I.bare⟩
theorem Inv.after (I:Inv X pins σ H s) (h:CE X.stack X.prog X.w H s Q u s'):EP X pins σ Q u s':=by
 obtain ⟨v,H',os,bare,un,hok,r,q⟩:=h
 obtain ⟨c,g,d,t,a⟩:=s'
 obtain rfl:a=s.os:=os
 exact ⟨v,H',I.call (h':=c) (g':=g) (d':=d) (t':=t) (ch:=[]) un hok bare (λb z=>absurd z (by simp)),r,q⟩
end
noncomputable def Wp (sp:Sp) (dvs:List V) (E:XK) (t:TA):TE:=λσ H Q=>t σ H λa H1=>sp (a++dvs) H1 Q E
inductive tMethI (C:Addr) (m:Str) (sp:Sp) (dvs:List V) (E:XK) (t:TA) (σ:St) (Q:VK) (x:V) (H1:Hp):Prop
 | mk (a:_) (dx:_) (fs:_) (_:x = .ref a) (_:H1 a=some ↥119) (_:fs.lookup m=none) (_:t σ H1 λvs H2=>sp (x::(vs++dvs)) H2 Q E)
noncomputable def Wo (C:Addr) (m:Str) (sp:Sp) (dvs:List V) (E:XK) (ta:TE) (t:TA):TE:=λσ H Q=>ta σ H λx H1=>tMethI C m sp dvs E t σ Q x H1
noncomputable def yB (K:ag) (fd:FuncData) (ps:List Str) (ds:List aj):Prop :=
 ∀(s:Shared) (a:List aj),K.In s.heap->(a++ds).length=ps.length->pN s fd ⟨a,[]⟩ (ps.zip (a++ds))
theorem yB.all {K:ag}{ps:List Str}(h:∀us:List aj,us.length=ps.length->cG fd ⟨us,[]⟩=pure (ps.zip us)):yB K fd ps []:=λs us _ a=>by
 rw [aF] at a ⊢
 exact .of_eq (h us a)
noncomputable def JS (CX:CXT) (X:Cx) (E:XK):Prop:=∀(pins:List (Addr×Obj)) (σ:St) (H:Hp) (s:Shared) (e:aj) (s':Shared),Inv X pins σ H s->CX X.stack H s E e s'->X.xe e s'
section
variable {X:Cx}{CX:CXT}{k:Nat}{f C:Addr}{fd:FuncData}{ps:List Str}{sp:Sp}{dvs:List V}{ds:List aj}{E:XK}{x m:Str}{p pos apos:Pos}{e o:Expr}{es:List Expr}{ta:TE}{t:TA}
theorem V9 (F:FnOk X.prog X.w X.K X.mg X.base CX k f fd ps sp) (z:Room k X.A) (U:yB X.K fd ps ds) (G:jH dvs ds) (j:JS CX X E)
  (I:Inv X pins σ H s) (r:jH vs us) (h:sp (vs++dvs) H Q E):ax ↥3 X.A (call (.ref f) us) ↥61 X.xe s:=by
 have b:jH (vs++dvs) (us++ds):=r.append G
 have c:(us++ds).length=ps.length:=by rw [<- b.length];exact F.len _ _ _ _ h
 refine fV (dh (F.run X.A X.stack s H ⟨us,[]⟩ (us++ds) (vs++dvs) Q E z I.env0 (U s us I.kIn c) b h) λr s' a=>?_)
 cases r with
 | error e=>exact j pins σ H s e s' I a
 | ok fl =>
  cases fl with
  | ret u=>exact I.after a
  | next=>exact bw a
  | brk=>exact bw a
  | cont=>exact bw a
theorem UM (F:FnOk X.prog X.w X.K X.mg X.base CX k f fd ps sp) (U:Room k X.A) (hg:Gl X x) (Y:X.mg x=some (.ref f)) (hk:bR X.K (.ref f)=true) (hb:yB X.K fd ps ds) (hd:jH dvs ds) (G:JS CX X E)
  (ha:PA X (e::es) t) (z: ↥22=false:=by decide) (he:aR (e::es) X.env=↥40::aR es X.env:=by rfl) (j: (↥66).any (·.1)=false:=by rfl) :
  PE X ↥65 (Wp sp dvs E t):=by
 intro pins s σ H Q I h
 refine cW (yM I hg Y ?_ z)
 refine dr (h₀:=X.base) I.ok.mod.kin hk (thn ↥98 λc s1 ⟨b,H1,a,r,q⟩=>⟨a.kIn,?_⟩) he j
 exact V9 F U hb hd G a r q
theorem UN (he:PE X o ta) (c:Cls X.K C) (U:Meth X.K C m f) (F:FnOk X.prog X.w X.K X.mg X.base CX k f fd ps sp) (hr:Room k X.A) (hb:yB X.K fd ps ds) (hd:jH dvs ds) (Y:JS CX X E) (ha:PA X (e::es) t)
  (z:aR (e::es) X.env=↥40::aR es X.env:=by rfl) (G: (↥66).any (·.1)=false:=by rfl)
  (ht:eval ↥56 X.env=(do
   let j <- eval o X.env
   fG apos.atName
   let (f,first) <- dN [j] (mi j m pl)
   pH pos f first (cM pos (aR (e::es) X.env)) (lF pos (fk [] X.env))):=by rfl) :
  PE X ↥56 (Wo C m sp dvs E ta t):=by
 intro pins s σ H Q I h
 refine iD (pl:=pl) (thn (he pins s σ H _ I h) λu s1 ⟨x,H1,d,g,a,dx,fs,ex,n,l,q⟩=>?_) ht
 subst ex
 obtain rfl:u=aU a:=g
 refine vV d n c U l ?_
 refine dr (first:=[.ref a]) (h₀:=X.base) I.ok.mod.kin U.kp (thn (ha pos pins s1 σ H1 _ d q) λus p ⟨vs,H2,b,r,i⟩=>⟨b.kIn,?_⟩) z G
 exact V9 (us:=.ref a::us) (vs:=.ref a::vs) F hr hb hd Y b (.cons rfl r) i
structure Mk (K:ag) (C f:Addr):Prop where
 makes:mR K C=true
 init:bK K (.ref C) "__init__" = some (some (.ref f))
 fn:pE K (.ref f)=true
 kp:bR K (.ref C)=true
end
section
variable {X:Cx}{CX:CXT}{k:Nat}{f C:Addr}{fd:FuncData}{ps ks:List Str}{sp:Sp}{E:XK}{x m:Str}{p pos apos kpos:Pos}{e o:Expr}{es:List Expr}{kws:List mC}{te ta:TE}{t tk:TA}{nm:Option Str}
variable {g:List aj->List aj->List aj}{gV:List V->List V->List V}
end
structure FnScope (N P:List Str) (sc:Scope):Prop where
 kind:sc.kind = .function
 co:sc.isCoroutine=false
 gen:sc.isGenerator=false
 nd:N.Nodup
 pre:N.take P.length=P
 par:∀x∈P,sc.names.lookup x=some .local\/sc.names.lookup x=some .cell
 nofree:∀y∈sc.names,y.2≠.free
theorem JO {kindOf:Str->Option i8}{x:Str}:∀{binds:List (Str×aj)}{m:Str->Option aj},(∀v,(x,v)∉binds)->sx kindOf binds m x=m x
 | [],_,_=>rfl
 | (n,v)::r,m,h=>by
  unfold sx
  rw [JO λw a=>h w (aH _ a)]
  split
  ·have:x≠n:=by rintro rfl;exact h v aK
   simp [this]
  ·rfl
theorem JA {kindOf:Str->Option i8}{x:Str}:∀{binds:List (Str×aj)}{m:Str->Option aj},(∀v,(x,v)∉binds)->sy kindOf binds m x=m x
 | [],_,_=>rfl
 | (n,v)::r,m,h=>by
  unfold sy
  rw [JA λw a=>h w (aH _ a)]
  split
  ·rfl
  ·have:x≠n:=by rintro rfl;exact h v aK
   simp [this]
theorem JH {kindOf:Str->Option i8}:∀{P:List Str}{vs:List aj}{i:Nat}{m:Str->Option aj},P.Nodup->P[i]? = some x->vs[i]? = some v->kindOf x=some .local ->
  sx kindOf (P.zip vs) m x=some v
 | [],_,_,_,_,h,_,_=>by simp at h
 | _::_,[],_,_,_,_,h,_=>by simp at h
 | p::P,w::vs,0,m,a,h1,h2,b=>by
  simp at h1 h2;subst h1;subst h2
  show sx kindOf ((p,w)::P.zip vs) m p=_
  unfold sx
  rw [JO λv c=>(List.nodup_cons.mp a).1 (fU c).1,if_pos b]
  simp
 | p::P,w::vs,i+1,m,a,h1,h2,b=>by
  show sx kindOf ((p,w)::P.zip vs) m x=_
  unfold sx
  exact JH (i:=i) (List.nodup_cons.mp a).2 (by simpa using h1) (by simpa using h2) b
theorem Jj {kindOf:Str->Option i8}:∀{P:List Str}{vs:List aj}{i:Nat}{m:Str->Option aj},P.Nodup->P[i]? = some x->vs[i]? = some v->kindOf x≠some .local ->
  sy kindOf (P.zip vs) m x=some v
 | [],_,_,_,_,h,_,_=>by simp at h
 | _::_,[],_,_,_,_,h,_=>by simp at h
 | p::P,w::vs,0,m,a,h1,h2,b=>by
  simp at h1 h2;subst h1;subst h2
  show sy kindOf ((p,w)::P.zip vs) m p=_
  unfold sy
  rw [JA λv c=>(List.nodup_cons.mp a).1 (fU c).1,if_neg b]
  simp
 | p::P,w::vs,i+1,m,a,h1,h2,b=>by
  show sy kindOf ((p,w)::P.zip vs) m x=_
  unfold sy
  exact Jj (i:=i) (List.nodup_cons.mp a).2 (by simpa using h1) (by simpa using h2) b
noncomputable def start (N:List Str) (vs:List V):St:=vs.map some++du (N.length-vs.length) none
noncomputable def vN (CX:CXT) (P:Program) (w:bo) (K:ag) (mg:Str->Option aj) (base:Heap) (N:List Str) (qual:Str) (scope:Scope) (f:Addr) (cd:aj) (A:bx) (outer:List Env) (s:Shared) (H:Hp) (E:XK):Cx where
 prog:=P
 w:=w
 K:=K
 mg:=mg
 base:=base
 A:=A.deeper (iU qual scope s.heap.objs.size f cd)
 N:=N
 s₀:=s
 H₀:=H
 env:=iU qual scope s.heap.objs.size f cd
 outer:=outer
 stack:=iU qual scope s.heap.objs.size f cd::outer
 ex:=[]
 calm:=true
 fn:=λ_=>true
 pn:=[]
 xe:=λe s'=>ax (aD P w) (A.deeper (iU qual scope s.heap.objs.size f cd)) (ou (iU qual scope s.heap.objs.size f cd) e) (λ_ s''=>CX outer H s E e s'') (λe' s''=>CX outer H s E e' s'') s'
theorem XG {j:Scope}{n:Nat}(h:j.names.lookup x=some .cell):∃c,(mj n j.names []).lookup x=some c:=by
 have q:=eK j.names n [] (.inl h)
 exact Option.isSome_iff_exists.mp q
theorem we {CX:CXT}{P:Program}{w:bo}{K:ag}{mg:Str->Option aj}{base:Heap}{N ps:List Str}{G:Str}{scope:Scope}{f:Addr}{I:aj}{A:bx}{outer:List Env}{s s1:Shared}{H:Hp}{E:XK}{us:List aj}{vs:List V}
  (S:FnScope N ps scope) (U:A.handled=none) (j:Env0 P w K mg base A outer s H) (Y:vs.length=ps.length) (r:jH vs us)
  (x:InCallC s s.heap.objs.size (sx (iU G scope s.heap.objs.size f I).kindOf (ps.zip us) λ_=>none) (mj ↥16 scope.names []) (sy (iU G scope s.heap.objs.size f I).kindOf (ps.zip us) λ_=>none) s1) :
  Inv (vN CX P w K mg base N G scope f I A outer s H E) [] (start N vs) H s1:=by
 have C:ps.length<=N.length:=by have:=congrArg fm S.pre;rw [aN] at this;omega
 obtain ⟨h1,tk,rfl,o⟩:=x.done
 have d:∀b:Addr,b∉(vN CX P w K mg base N G scope f I A outer s H E).ex:=λb z=>absurd (show b∈([]:List Addr) from z) (by simp)
 refine ⟨⟨j.mod,S.kind,rfl,rfl,ar _,λy z c h1 h2=>?_,λy hy=>?_,λy c _ h=>?_,λ_=>U,nI j.frames,.inr ⟨rfl,rfl⟩,λb z=>absurd z (d b),j.bs,j.bsz,λb _ _=>d b,λb z=>absurd z (d b),j.funs,j.frf⟩,
  rfl,j.bare,Un.kept o,⟨_,x.toInCall.ns,λi y v h1 h2 D=>?_⟩,λy c h=>⟨_,x.cell y c h⟩,j.hok.fresh (ar _),λy c h=>?_,λp g=>absurd (show p∈([]:List (Addr×Obj)) from g) (by simp),j.hok.kept o,?_⟩
 ·exact name_of_addr x.apart (dg h1) (dg h2)
 ·have hy:scope.names.lookup y=some .cell\/scope.names.lookup y=some .free:=hy
  rcases hy with hy | hy
  ·exact XG hy
  ·exact absurd rfl (S.nofree _ (dg hy))
 ·exact fF (x.above y c (dg h))
 ·have hi:i<vs.length:=by
   unfold start at h2
   by_cases hi:i<vs.length
   ·exact hi
   ·rw [bX (by simpa using hi)] at h2
    rw [ml] at h2
    split at h2 <;> cases h2
  have B:vs[i]? = some v:=by
   unfold start at h2
   rw [cV (by simpa using hi),ay] at h2
   cases e:vs[i]? with
   | none=>rw [e] at h2;cases h2
   | some a=>rw [e] at h2;cases h2;rfl
  obtain ⟨u,m,t⟩:=r.get B
  have g:ps[i]? = some y:=by
   rw [<- S.pre,List.getElem?_take_of_lt ∅];exact h1
  have l:ps.Nodup:=by rw [<- S.pre];exact S.nd.sublist (pO _ _)
  refine ⟨u,t,?_⟩
  rcases S.par y (aA g) with k | k
  ·exact .inl ⟨k,JH l g m k⟩
  ·obtain ⟨c,e⟩:=XG (n:=s.heap.objs.size+1) k
   refine .inr ⟨.inl k,c,e,?_⟩
   have q:=x.cell y c e
   rw [Jj l g m (by show scope.names.lookup y≠_;rw [k];decide)] at q
   exact q
 ·exact j.hok.fresh (fF (x.above y c (dg h)))
 ·unfold start
  show _=N.length
  rw [ao,ah,fh]
  omega
theorem Vl {K:ag}{k:Nat}{kV pm oc:aj}{od:Option Addr}
  {U:Array (Option aj)}  {sp:Sp} (lk:K.lookup f=some ⟨oc,od,.func (bF name j params body scope dV kV doc pm an z ct),U⟩) (Y:cC K z j=true) (S:FnScope N ps scope)
  (len:∀vs H Q E,sp vs H Q E->vs.length=ps.length)
  (G:∀(A:bx) (outer:List Env) (s:Shared) (H:Hp) (vs:List V) (Q:VK) (E:XK),Room k (A.deeper (iU j scope s.heap.objs.size f z))->sp vs H Q E ->
   ∃t,PSs ↥141 body t/\t { nx:=λ_ H'=>Q .non H',rt:=Q } (start N vs) H) :
  FnOk P w K mg base CX (k+1) f (bF name j params body scope dV kV doc pm an z ct) ps sp:=by
 refine ⟨len,λA outer s H X C vs Q E m c T r h=>?_⟩
 have O:=len _ _ _ _ h
 have B:K.In s.heap:=c.mod.kin.keeps λb o e=>(c.bs b o e).1
 have p:s.heap.NoLimit:=c.mod.nolimit.keeps λb o e=>(c.bs b o e).1
 have g:∀y∈ps.zip C,scope.names.lookup y.1=some .local\/(scope.names.lookup y.1=some .cell/\((mj ↥16 scope.names []).lookup y.1).isSome=true):=λ⟨n,v⟩ D=>by
  rcases S.par n (fU D).1 with q | q
  ·exact .inl q
  ·exact .inr ⟨q,eK _ _ _ (.inl q)⟩
 refine ni m.depth (B _ _ lk) rfl S.co S.gen rfl (oU B Y) (T _ _ _ _ ?_)
 refine fq S.kind g λenv R s1 x=>?_
 subst R
 refine ⟨p.keeps x.toInCall.keep,codeAny_func ?_⟩
 obtain ⟨t,L,M⟩:=G A outer s H vs Q E (m.deeper _) h
 have I:Inv ↥141 [] (start N vs) H s1:=we S m.hd c O r x
 refine aZ (L [] s1 (start N vs) H _ I M) (λfl s' a=>?_) λe s' a=>a
 have i:∀{d:St} {H':Hp} {v:V} {u:aj},Inv ↥141 [] d H' s'->jJ v u->Q v H'->CE outer P w H s Q u s' :=
  λ{d H' v u} J l q=>⟨v,H',J.os,J.bare,J.base,J.hok,l,q⟩
 cases fl with
 | ret u =>
  obtain ⟨v,d,H',J,l,q⟩:=a
  exact i J l q
 | next =>
  obtain ⟨d,H',J,q⟩:=a
  exact i (v:=V.non) (u:=aX) J rfl q
 | brk =>
  obtain ⟨_,_,_,q⟩:=a
  exact bw q
 | cont =>
  obtain ⟨_,_,_,q⟩:=a
  exact bw q
end L2
namespace L2
section
variable {X:Cx}{x:Str}{p pos:Pos}{e:Expr}{es:List Expr}{t:TA}{id T:String}{r:List V->Hp->VK->Prop}
noncomputable def tCB (r:List V->Hp->VK->Prop) (t:TA):TE:=λσ H Q=>t σ H λa H1=>r a H1 Q
theorem jd (hc:xl X (.builtin id) r) (hg:Gl X x) (Y:X.mg x=none) (G:fE x=some (.builtin id)) (ha:PA X (e::es) t) (U:x ≠ "__name__":=by decide) (z: ↥22=false:=by decide)
  (he:aR (e::es) X.env=↥40::aR es X.env:=by rfl) (j: (↥66).any (·.1)=false:=by rfl):PE X ↥65 (tCB r t):=by
 intro pins s σ H Q I h
 refine cW (yS I hg Y G ?_ U z)
 exact PyProof.Rows.callWith_builtin1 (thn ↥98 λb s1 ⟨a,H1,f,c,d⟩=>hc pins s1 σ H1 a b Q f c d) he j
theorem qL (hc:xl X (.type T) r) (hg:Gl X x) (Y:X.mg x=none) (G:fE x=some (.type T)) (ha:PA X (e::es) t) (U:x ≠ "__name__":=by decide) (z: ↥22=false:=by decide)
  (he:aR (e::es) X.env=↥40::aR es X.env:=by rfl) (j: (↥66).any (·.1)=false:=by rfl):PE X ↥65 (tCB r t):=by
 intro pins s σ H Q I h
 refine cW (yS I hg Y G ?_ U z)
 exact c9 (thn ↥98 λb s1 ⟨a,H1,f,c,d⟩=>hc pins s1 σ H1 a b Q f c d) he j
end
end L2
namespace HT
open PySem PyProof.Rows
section
open PySem.SeqAt
open PySem.AutoSeq1 (wpAny_loadPart')
open PySem.MeetsSeq PySem.MeetsSeq2 PySem.MeetsSeq3
end
section
variable {prog:Program}{w:bo}{A:bx}{E:aj->Shared->Prop}{s:Shared}
theorem cat_tup {t:Addr}{vs ws:List aj}{Q:aj->Shared->Prop}(G:tW s.heap t vs.toArray) (I:tW s.heap b ws.toArray) (z:vs≠[])
  (h1:ws=[]->Q (.ref t) s) (h2:ws≠[]->Q ↥11 { s with heap:=s.heap.push { cls:=.type "tuple",data:=.seq (vs++ws).toArray } })
  (hsz:vs.length+ws.length<=sizeLine):ax (aD prog w) A (fj .Add (.ref t) (.ref b)) Q E s:=by
 obtain ⟨⟨cls,o,data,j⟩,d,m,n,l⟩:=id G
 obtain ⟨⟨p,i,data2,f⟩,a,h,k,g⟩:=id I
 simp only at m l h g
 subst m l h g
 have e:vs.toArray++ws.toArray=(vs++ws).toArray:=by simp
 by_cases c:ws=[]
 ·exact pQ ⟨_,d,rfl⟩ ⟨_,a,rfl⟩ mm oH i9 fX (fO _ _)
   (tuple_addW1 t b vs.toArray ws.toArray n k o i j f (by simpa using z) (by simp [c])) ⟨d,a,h1 c⟩
 ·refine pQ ⟨_,d,rfl⟩ ⟨_,a,rfl⟩ mm oH i9 fX (fO _ _)
   (tuple_addW2 t b vs.toArray ws.toArray n k o i j f (by simpa using z) (by simpa using c) (by rw [aw,aw];exact hsz)) ⟨d,a,?_⟩
  rw [e]
  exact h2 c
noncomputable def sIx (n d:Nat):Option Int->Nat
 | none=>d
 | some v=>if v<0 then (v+(n:Int)).toNat else min v.toNat n
theorem sIx_none (n d:Nat):sIx n d none=d:=rfl
theorem sIx_nat (n d k:Nat):sIx n d (some (k:Int))=min k n:=by
 show (if (k:Int)<0 then ((k:Int)+(n:Int)).toNat else min (k:Int).toNat n)=min k n
 rw [if_neg ∅,bE]
theorem slicePart_ {Q:Option Int->Shared->Prop}(p:sY v o) (h:Q o s):ax (aD prog w) A (Builtin.Slice.slicePartIndex v) Q E s:=by
 cases p with
 | none=>exact slicePart_none h
 | int i t=>exact slicePart_int h
end
end HT
namespace L2
noncomputable abbrev TO:=St->Hp->(Option Int->Hp->Prop)->Prop
noncomputable def PO (X:Cx) (e:Option Expr) (t:TO):Prop :=
 ∀(pins:List (Addr×Obj)) (s:Shared) (σ:St) (H:Hp) (Q:Option Int->Hp->Prop),Inv X pins σ H s->t σ H Q ->
  ax ↥3 X.A (evalPart e X.env) (λu s'=>∃o H',Inv X pins σ H' s'/\sY u o/\Q o H') X.xe s
noncomputable def Uw:TO:=λ_ H Q=>Q none H
inductive tPartI (Q:Option Int->Hp->Prop) (x:V) (H1:Hp):Prop
 | mk (i:_) (_:x = .int i) (_:Q (some i) H1)
noncomputable def Ed (t:TE):TO:=λσ H Q=>t σ H λx H1=>tPartI Q x H1
section
variable {X:Cx}{e:Expr}{te:TE}{lo hi:Option Expr}{tl th:TO}{pos p2:Pos}
theorem Y3:PO X none Uw:=by
 intro pins s σ H Q I h
 rw [lY]
 exact wpAny_pure ⟨none,H,I,.none,h⟩
theorem ZY (h:PE X e te):PO X (some e) (Ed te):=by
 intro pins s σ H Q I c
 rw [oI]
 refine thn (h pins s σ H _ I c) λu s1 ⟨x,H1,d,a,b⟩=>?_
 obtain ⟨i,rfl,q⟩:=b
 obtain ⟨t,rfl⟩:=a
 exact ⟨some i,H1,d,.int i t,q⟩
noncomputable def SlR (X:Cx) (r:V->Option Int->Option Int->Hp->VK->Prop):Prop :=
 ∀(pins:List (Addr×Obj)) (s:Shared) (σ:St) (H:Hp) (x:V) (v b a:aj) (lo hi:Option Int) (c:Addr) (Q:VK),Inv X pins σ H s->jJ x v->s.heap.IsSliceOf c b a .none->sY b lo->sY a hi->r x lo hi H Q ->
  ∃T id,oV (.type T) "__getitem__" = pure (some (.builtin id))/\s.TypeIs v T/\ax ↥3 X.A (mD v (.ref c)) ↥61 X.xe s
noncomputable def tSl (r:V->Option Int->Option Int->Hp->VK->Prop) (te:TE) (tl th:TO):TE:=λσ H Q=>te σ H λx H1=>tl σ H1 λl H2=>th σ H2 λu a=>r x l u a Q
theorem Xq (G:SlR X r) (Y:PE X e te) (U:PO X lo tl) (z:PO X hi th):PE X (.Subscript e (.Slice lo hi none p2) pos) (tSl r te tl th):=by
 intro pins s σ H Q I h
 refine mE (thn (Y pins s σ H _ I h) λv s1 ⟨x,H1,D,i,m⟩=>?_)
 refine sA (thn (U pins s1 σ H1 _ D m) λd g ⟨l,H2,C,pl,k⟩=>thn (z pins g σ H2 _ C k) λc a ⟨u,f,B,n,j⟩=>?_)
 rw [lY]
 refine wpAny_pure ?_
 have y:Inv X pins σ f { a with heap:=a.heap.push { cls:=.type "slice",data:=.fields #[d,c,.none] } }:=B.kept (t':=a.toks) λb E q=>ai _ q
 obtain ⟨T,id,t,o,p⟩:=G pins { a with heap:=a.heap.push { cls:=.type "slice",data:=.fields #[d,c,.none] } } σ f x v d c l u a.heap.objs.size Q y i (lI ..) pl n j
 show ax ↥3 X.A (iM e (.Slice lo hi none p2) v (.ref a.heap.objs.size)) ↥61 X.xe { a with heap:=a.heap.push { cls:=.type "slice",data:=.fields #[d,c,.none] } }
 exact A8 (ops:=[.ref a.heap.objs.size,v]) o t p ↥52
noncomputable def Qe (xs:List V) (lo hi:Option Int):List V:=(xs.drop (HT.sIx xs.length 0 lo)).take (HT.sIx xs.length xs.length hi-HT.sIx xs.length 0 lo)
theorem Xs (xs:List V) (lo hi:Option Int):(Qe xs lo hi).length<=xs.length:=by
 unfold Qe
 rw [aN,cq]
 omega
inductive rCatT (K:ag) (x:V) (y:V) (H:Hp) (Q:VK):Prop
 | mk (a:_) (b:_) (xs:_) (ys:_) (_:x = .ref a) (_:y = .ref b) (_:SqT K H a xs) (_:SqT K H b ys) (_:xs≠[]) (_:xs.length+ys.length<=sizeLine) (_:(ys=[]->Q (.ref a) H)) (_:(ys≠[]->∀p,H p=none->Q (.ref p) (upd H p (.tup (xs++ys)))))
theorem jH.nil_iff {xs:List V}(r:jH xs us):us=[]↔xs=[]:=by
 cases r with
 | nil=>simp
 | cons _ _=>simp
theorem Uy:OpR X (fj .Add) (rCatT X.K):=by
 intro pins s σ H x y v u Q I g f h
 obtain ⟨a,b,xs,ys,rfl,rfl,p,n,m,e,j,i⟩:=h
 cases g
 cases f
 obtain ⟨r,d,k,_⟩:=I.tuple p
 obtain ⟨l,c,p2,_⟩:=I.tuple n
 refine HT.cat_tup k p2 (λz=>m (d.nil_iff.mp z)) (λz=>⟨.ref a,H,I,rfl,j (c.nil_iff.mp z)⟩) (λz=>?_) (by rw [<- d.length,<- c.length];exact e)
 refine ⟨.ref s.heap.objs.size,_,I.laid (t':=s.toks) (o:=.tup (xs++ys)) (λb t q=>ai _ q) (ar _) ?_,rfl,i (λw=>z (c.nil_iff.mpr w)) _ (I.hok.fresh (ar _))⟩
 exact ⟨by rw [ao];exact e,_,d.append c,tY _ _⟩
end
end L2
namespace L2
noncomputable def ixN (n:Nat) (i:Int):Option Nat:=if 0<=i then (if i<n then some i.toNat else none) else if -(n:Int)<=i then some (i+n).toNat else none
noncomputable def atI {α:Type}(xs:List α) (i:Int):Option α:=(ixN xs.length i).bind λj=>xs[j]?
theorem ZM {n:Nat}{i:Int}{j:Nat}(h:ixN n i=some j):seqIndex? i n=some j/\j<n /\ -(n:Int)<=i/\i<n:=by
 unfold ixN at h
 by_cases a:0<=i
 ·rw [if_pos a] at h
  by_cases h1:i<n
  ·rw [if_pos h1] at h
   have e:i.toNat=j:=aT h
   exact ⟨by rw [sD a h1,e],∅,∅,h1⟩
  ·rw [if_neg h1] at h;cases h
 ·rw [if_neg a] at h
  by_cases h1 : -(n:Int)<=i
  ·rw [if_pos h1] at h
   have e:(i+n).toNat=j:=aT h
   exact ⟨by rw [pR ∅ h1,e],∅,h1,∅⟩
  ·rw [if_neg h1] at h;cases h
theorem ZV {α:Type}{xs:List α}{i:Int}{v:α}(h:atI xs i=some v):∃j,seqIndex? i xs.length=some j/\xs[j]? = some v/\j<xs.length /\ -(xs.length:Int)<=i/\i<xs.length:=by
 unfold atI at h
 cases e:ixN xs.length i with
 | none=>rw [e] at h;cases h
 | some j =>
  rw [e] at h
  obtain ⟨h1,h2,b,a⟩:=ZM e
  exact ⟨j,h1,h,h2,b,a⟩
theorem yb {α:Type}{xs:List α}{j:Nat}{v:α}(h:xs[j]? = some v):atI xs (j:Int)=some v:=by
 have a:j<xs.length:=(List.getElem?_eq_some_iff.mp h).1
 have e:ixN xs.length (j:Int)=some j:=by
  unfold ixN
  rw [if_pos ∅,if_pos ∅];simp
 unfold atI;rw [e];exact h
theorem yF {α:Type}(xs:List α) (v:α):atI (xs++[v]) (-1)=some v:=by
 have a:(xs++[v]).length=xs.length+1:=by simp
 have e:ixN (xs++[v]).length (-1)=some xs.length:=by
  unfold ixN
  rw [a,if_neg ⋯,if_pos ∅]
  congr 1
  omega
 unfold atI
 rw [e]
 show (xs++[v])[xs.length]? = some v
 simp
noncomputable def UU (b:Expr):Prop:=∀o i,nJ b false o i=operate [o,i] (mD o i)
noncomputable def IxR (X:Cx) (r:R2):Prop :=
 ∀(value a:Expr) (pins:List (Addr×Obj)) (s:Shared) (σ:St) (H:Hp) (x y:V) (v u:aj) (Q:VK),Inv X pins σ H s->jJ x v->jJ y u->r x y H Q ->
  nJ a false v u=operate [v,u] (mD v u)->ax ↥3 X.A (iM value a v u) ↥61 X.xe s
noncomputable def MtR (X:Cx) (id:String) (r:V->List V->Hp->VK->Prop):Prop :=
 ∀(pins:List (Addr×Obj)) (s:Shared) (σ:St) (H:Hp) (x:V) (xs:List V) (v:aj) (a:List aj) (Q:VK),Inv X pins σ H s->jJ x v->jH xs a->r x xs H Q ->
  ax ↥3 X.A (call (.builtin id) (v::a)) ↥61 X.xe s
section
variable {X:Cx}{a b:Expr}{ta tb:TE}{pos:Pos}
theorem jr (j:IxR X r) (G:PE X a ta) (z:PE X b tb) (hs:UU b):PE X (.Subscript a b pos) (tOp r ta tb):=by
 intro pins s σ H Q I h
 exact mE (G8 G z I h λv u c x y H2 f e d q=>j a b pins c σ H2 x y v u Q f e d q (hs _ _))
inductive rIxL (K:ag) (x:V) (y:V) (H:Hp) (Q:VK):Prop
 | mk (p:_) (xs:_) (i:_) (v:_) (_:x = .ref p) (_:y = .int i) (_:SqL K H p xs) (_:atI xs i=some v) (_:Q v H)
inductive rIxT (K:ag) (x:V) (y:V) (H:Hp) (Q:VK):Prop
 | mk (p:_) (xs:_) (i:_) (v:_) (_:x = .ref p) (_:y = .int i) (_:SqT K H p xs) (_:atI xs i=some v) (_:Q v H)
theorem UA:IxR X (rIxL X.K):=by
 intro value k pins s σ H x y v u Q I m l h e
 obtain ⟨p,xs,i,z,rfl,rfl,n,A,q⟩:=h
 cases m
 obtain ⟨t,rfl⟩:=l
 obtain ⟨d,r,pl,D⟩:=I.list n
 obtain ⟨j,h1,h2,G,C,B⟩:=ZV A
 obtain ⟨w,g,c⟩:=r.get h2
 have o:=r.length
 have E:=kX
 have a:EP X pins σ Q w s:=⟨z,H,I,c,q⟩
 by_cases f:0<=i
 ·have b:i.toNat=j:=by
   rw [sD f B] at h1
   exact aT h1
  exact item_listR pl.isList f ∅ (by rw [b];simpa using g) a e
 ·have b:(i+(d.toArray.size:Int)).toNat=j:=by
   rw [pR ∅ C] at h1
   rw [aw,<- o]
   exact aT h1
  exact mF (x:=w) pl.isList.typeIs slot_list_getitem.lookup
   (wpAny_getItem_list_neg (Q:=λr s'=>r=w/\EP X pins σ Q r s') pl.isList ∅ (by rw [aw] <;> omega) ∅ (by rw [b];simpa using g) ⟨rfl,a⟩) e
theorem GI:IxR X (rIxT X.K):=by
 intro value c pins s σ H x y v u Q I e d h f
 obtain ⟨p,xs,i,z,rfl,rfl,g,l,q⟩:=h
 cases e
 obtain ⟨t,rfl⟩:=d
 obtain ⟨n,r,pl,o⟩:=I.tuple g
 obtain ⟨j,h1,h2,D,C,B⟩:=ZV l
 obtain ⟨w,m,a⟩:=r.get h2
 have k:=r.length
 have A:=kX
 have b:EP X pins σ Q w s:=⟨z,H,I,a,q⟩
 exact mF (x:=w) pl.typeIs slot_tuple_getitem.lookup
  (getItem_tuple (j:=j) (Q:=λr s'=>r=w/\EP X pins σ Q r s') pl ∅ ∅ (by rw [aw,<- k];exact h1) (by simpa using m) ⟨rfl,b⟩) f
theorem Z2 (its:List aj) (n j:Nat) (u:aj):b8 (·.setIfInBounds j u) { cls:=.type "list",data:=.seq its.toArray n }={ cls:=.type "list",data:=.seq (its.set j u).toArray n }:=by
 simp [b8]
theorem Inv.lst {s:Shared}{p:Addr}{xs:List V}(I:Inv X pins σ H s) (h:H p=some (.lst xs)) :
  ∃(its:List aj) (n:Nat),jH xs its/\s.heap.get? p=some { cls:=.type "list",data:=.seq its.toArray n }/\xs.length<=sizeLine:=by
 obtain ⟨z,its,n,r,e⟩:=I.hok p _ h
 exact ⟨its,n,r,e,z⟩
theorem Inv.lstUpd {s:Shared}{p:Addr}{xs ys:List V}{its its':List aj}{n j:Nat}{f:Obj->Obj}(I:Inv X pins σ H s) (h:H p=some (.lst xs))
  (U:s.heap.get? p=some { cls:=.type "list",data:=.seq its.toArray n }) (z:f { cls:=.type "list",data:=.seq its.toArray n }={ cls:=.type "list",data:=.seq its'.toArray j }) (r:jH ys its') (G:ys.length<=sizeLine) (t:Nat) :
  Inv X pins σ (upd H p (.lst ys)) { s with heap:=s.heap.update p f,toks:=t }:=by
 have e:(s.heap.update p f).get? p=some { cls:=.type "list",data:=.seq its'.toArray j }:=by
  rw [dC f U (by rw [z] <;> rfl),z]
 refine I.write (x:=p) (e:=p) (by rw [h];trivial) (.inl rfl) (λb u a q=>(bY _ _ (cx a)).trans q) ⟨_,e⟩ ?_
 exact ⟨G,its',j,r,e⟩
noncomputable def GO:V->V->V->Hp->(Hp->Prop)->Prop:=λo i v H Q=>∃p xs k j,o = .ref p/\i = .int k/\H p=some (.lst xs)/\ixN xs.length k=some j/\Q (upd H p (.lst (xs.set j v)))
theorem vx:Ey X GO:=by
 intro pins s σ H o i v B C u Q I x y w h
 obtain ⟨p,xs,k,j,rfl,rfl,e,A,q⟩:=h
 cases x
 obtain ⟨t,rfl⟩:=y
 obtain ⟨a,n,r,b,z⟩:=I.lst e
 obtain ⟨h1,h2,g,f⟩:=ZM A
 have c:=r.length
 have D:=kX
 have m:Inv X pins σ (upd H p (.lst (xs.set j v))) { s with heap:=s.heap.update p (b8 (·.setIfInBounds j u)) } :=
  I.lstUpd e b (Z2 a n j u) (r.set w j) (by rw [iV];exact z) s.toks
 by_cases l:0<=k
 ·have d:k.toNat=j:=by
   rw [sD l f] at h1
   exact aT h1
  exact PySem.W.ki_setAt b l ∅ (by rw [aw,<- c];exact f) (by rw [d];exact ⟨_,m,q⟩)
 ·have d:(k+(a.toArray.size:Int)).toNat=j:=by
   rw [pR ∅ g] at h1
   rw [aw,<- c]
   exact aT h1
  exact PySem.W.ki_setBack b ∅ (by rw [aw,<- c];exact g) ∅ (by rw [d];exact ⟨_,m,q⟩)
theorem Qz (lo hi:Option Int) (n:Nat):(fY lo hi none n).1=((HT.sIx n 0 lo:Nat):Int)/\(fY lo hi none n).2.1=((HT.sIx n n hi:Nat):Int)/\(fY lo hi none n).2.2=1:=by
 refine ⟨?_,?_,rfl⟩
 ·cases lo with
  | none=>simp [fY,HT.sIx]
  | some i =>
   simp only [fY,HT.sIx,rK,show (1:Int) > 0 by decide,if_true]
   by_cases h:i<0
   ·simp only [h,if_true] <;> omega
   ·simp only [h,if_false] <;> omega
 ·cases hi with
  | none=>simp [fY,HT.sIx]
  | some i =>
   simp only [fY,HT.sIx,rK,show (1:Int) > 0 by decide,if_true]
   by_cases h:i<0
   ·simp only [h,if_true] <;> omega
   ·simp only [h,if_false] <;> omega
theorem Ja (its:List aj) (lo hi:Option Int):slicePick its.toArray lo hi none=((its.drop (HT.sIx its.length 0 lo)).take (HT.sIx its.length its.length hi-HT.sIx its.length 0 lo)).toArray:=by
 obtain ⟨h1,h2,a⟩:=Qz lo hi its.toArray.size
 unfold slicePick
 rw [h1,h2,a]
 simp only [sliceRange_one,pick_run,aw] <;> rfl
inductive rSlL (K:ag) (x:V) (lo:Option Int) (hi:Option Int) (H:Hp) (Q:VK):Prop
 | mk (a:_) (xs:_) (_:x = .ref a) (_:SqL K H a xs) (_:∀p,H p=none->Q (.ref p) (upd H p (.lst (Qe xs lo hi))))
theorem UK:SlR X (rSlL X.K):=by
 intro pins s σ H x v m l lo hi n Q I e j pl f h
 obtain ⟨a,xs,rfl,i,q⟩:=h
 cases e
 obtain ⟨k,r,d,g⟩:=I.list i
 have c:=r.length
 refine ⟨"list",_,slot_list_getitem.lookup,d.isList.typeIs,?_⟩
 refine lZ d.isList j pl f .none (by simp) ?_ (by rw [aw] <;> omega)
 rw [Ja,<- c]
 refine ⟨.ref s.heap.objs.size,_,I.laid (t':=s.toks) (o:=.lst (Qe xs lo hi)) (λb p q=>ai _ q) (ar _) ?_,rfl,q _ (I.hok.fresh (ar _))⟩
 exact ⟨aI (Xs xs lo hi) g,_,0,(r.drop (HT.sIx xs.length 0 lo)).take (HT.sIx xs.length xs.length hi-HT.sIx xs.length 0 lo),az _ rfl⟩
noncomputable def uv:V->Bool
 | .non=>true
 | .bl _=>true
 | .int _=>true
 | .str _=>true
 | _=>false
noncomputable def eqV:V->V->Bool
 | .non,.non=>true
 | .bl a,.bl b=>a == b
 | .bl a,.int b=>(if a then 1 else 0) == b
 | .int a,.bl b=>a == (if b then 1 else 0)
 | .int a,.int b=>a == b
 | .str a,.str b=>a == b
 | _,_=>false
theorem G1 (z:jJ y u) (j:jJ x v) (I:uv y=true) (G:uv x=true):SeqAt.EqAt A s u v (eqV y x):=by
 cases y with
 | non =>
  cases z
  cases x with
  | non=>cases j;exact SeqAt.EqAt.same _
  | bl b=>cases j;exact SeqAt.EqAt.none_bool b
  | int b=>obtain ⟨t,rfl⟩:=j;exact SeqAt.EqAt.none_int b t
  | str b=>obtain ⟨t,rfl⟩:=j;exact SeqAt.EqAt.none_str b t
  | _=>exact absurd (show false=true from G) au
 | bl a =>
  cases z
  cases x with
  | non=>cases j;exact SeqAt.EqAt.bool_none a
  | bl b=>cases j;exact SeqAt.EqAt.bool_bool a b
  | int b=>obtain ⟨t,rfl⟩:=j;exact SeqAt.EqAt.bool_int a b t
  | str b=>obtain ⟨t,rfl⟩:=j;exact SeqAt.EqAt.bool_str a b t
  | _=>exact absurd (show false=true from G) au
 | int a =>
  obtain ⟨c,rfl⟩:=z
  cases x with
  | non=>cases j;exact SeqAt.EqAt.int_none a c
  | bl b=>cases j;exact SeqAt.EqAt.int_bool a c b
  | int b=>obtain ⟨t,rfl⟩:=j;exact SeqAt.EqAt.int_int a c b t
  | str b=>obtain ⟨t,rfl⟩:=j;exact oP a c b t
  | _=>exact absurd (show false=true from G) au
 | str a =>
  obtain ⟨c,rfl⟩:=z
  cases x with
  | non=>cases j;exact SeqAt.EqAt.str_none a c
  | bl b=>cases j;exact SeqAt.EqAt.str_bool a c b
  | int b=>obtain ⟨t,rfl⟩:=j;exact oQ a c b t
  | str b=>obtain ⟨t,rfl⟩:=j;exact SeqAt.EqAt.str_str a c b t
  | _=>exact absurd (show false=true from G) au
 | _=>exact absurd (show false=true from I) au
noncomputable def eqU (x:V) (u:aj):Bool:=match u with
 | .none=>eqV .non x
 | .bool b=>eqV (.bl b) x
 | .int i _=>eqV (.int i) x
 | .str z _=>eqV (.str z) x
 | _=>false
theorem Ve (r:jJ y u) (f:uv y=true):eqU x u=eqV y x:=by
 cases y with
 | non=>cases r;rfl
 | bl b=>cases r;rfl
 | int i=>obtain ⟨t,rfl⟩:=r;rfl
 | str z=>obtain ⟨t,rfl⟩:=r;rfl
 | _=>exact absurd (show false=true from f) au
theorem uH {x:V}:∀{xs:List V}{us:List aj},jH xs us->xs.all uv=true->us.any (eqU x)=xs.any λy=>eqV y x
 | _,_,.nil,_=>rfl
 | y::xs,u::us,.cons r t,f=>by
  rw [oJ,bp] at f
  rw [fP,fP,Ve r f.1,uH t f.2]
theorem vC (j:jJ x v) (z:uv x=true):∀{xs:List V}{us:List aj},jH xs us->xs.all uv=true->∀u∈us,SeqAt.EqAt A s u v (eqU x u)
 | _,_,.nil,_=>λu hu=>by cases hu
 | y::xs,u::us,.cons r t,f=>λa hu=>by
  rw [oJ,bp] at f
  rcases List.mem_cons.mp hu with rfl | hu
  ·rw [Ve r f.1];exact G1 r j f.1 z
  ·exact vC j z t f.2 a hu
noncomputable def inV (x:V) (xs:List V):Bool:=xs.any λy=>eqV y x
inductive rIn (K:ag) (neg:Bool) (x:V) (y:V) (H:Hp) (Q:VK):Prop
 | mk (p:_) (xs:_) (_:y = .ref p) (_:(SqL K H p xs\/SqT K H p xs)) (_:uv x=true) (_:xs.all uv=true) (_:Q (.bl (if neg then !inV x xs else inV x xs)) H)
theorem YJ:OpR X (cg .In) (rIn X.K false):=by
 intro pins s σ H x y v u Q I c e h
 obtain ⟨p,xs,rfl,hq,d,fs,q⟩:=h
 cases e
 rcases hq with hq | hq
 ·obtain ⟨a,r,pl,f⟩:=I.list hq
  refine SeqAt.in_listAt (eqU x) pl.isList ↥113 ⟨.bl _,H,I,rfl,?_⟩
  rw [show a.toArray.any (eqU x)=a.any (eqU x) by simp,uH r fs]
  exact q
 ·obtain ⟨a,r,pl,f⟩:=I.tuple hq
  refine SeqAt.in_tupleAt (eqU x) pl ↥113 ⟨.bl _,H,I,rfl,?_⟩
  rw [show a.toArray.any (eqU x)=a.any (eqU x) by simp,uH r fs]
  exact q
theorem Qu:OpR X (cg .NotIn) (rIn X.K true):=by
 intro pins s σ H x y v u Q I c e h
 obtain ⟨p,xs,rfl,hq,d,fs,q⟩:=h
 cases e
 rcases hq with hq | hq
 ·obtain ⟨a,r,pl,f⟩:=I.list hq
  refine SeqAt.notIn_listAt (eqU x) pl.isList ↥113 ⟨.bl _,H,I,rfl,?_⟩
  rw [show a.toArray.any (eqU x)=a.any (eqU x) by simp,uH r fs]
  exact q
 ·obtain ⟨a,r,pl,f⟩:=I.tuple hq
  refine SeqAt.notIn_tupleAt (eqU x) pl ↥113 ⟨.bl _,H,I,rfl,?_⟩
  rw [show a.toArray.any (eqU x)=a.any (eqU x) by simp,uH r fs]
  exact q
inductive cI_call_len_seq (K:ag) (xs:List V) (H:Hp) (Q:VK):Prop
 | mk (p:_) (ys:_) (_:xs=[.ref p]) (_:(SqL K H p ys\/SqT K H p ys)) (_:Q (.int ys.length) H)
theorem QA:xl X (.builtin "len") (cI_call_len_seq X.K):=by
 intro pins s σ H xs f Q I r h
 obtain ⟨p,ys,rfl,hq,q⟩:=h
 obtain ⟨u,rfl,d⟩:=vv r
 cases d
 have g:=kX
 rcases hq with hq | hq
 ·obtain ⟨c,b,pl,e⟩:=I.list hq
  have a:=b.length
  exact Calls.call_len_list pl.isList ↥127 ⟨.int ys.length,H,I.tok _,⟨s.toks+1,by rw [aw,a]⟩,q⟩
 ·obtain ⟨c,b,pl,e⟩:=I.tuple hq
  have a:=b.length
  exact len_tuple pl ↥127 ⟨.int ys.length,H,I.tok _,⟨s.toks+1,by rw [aw,a]⟩,q⟩
inductive cI_call_list_of (K:ag) (xs:List V) (H:Hp) (Q:VK):Prop
 | mk (p:_) (ys:_) (_:xs=[.ref p]) (_:(SqL K H p ys\/SqT K H p ys)) (_:∀l,H l=none->Q (.ref l) (upd H l (.lst ys)))
theorem Q0:xl X ↥138 (cI_call_list_of X.K):=by
 intro pins s σ H xs t Q I r h
 obtain ⟨p,ys,rfl,hq,q⟩:=h
 obtain ⟨u,rfl,m⟩:=vv r
 cases m
 have g:∀(a:List aj),jH ys a->ys.length<=sizeLine->∀(h':Heap) (d:Nat),(∀b o',s.heap.get? b=some o'->h'.get? b=some o') ->
   h'.get? s.heap.objs.size=some { cls:=.type "list",dict:=none,data:=.seq a.toArray d,slots:=#[] }->EP X pins σ Q ↥11 { s with heap:=h' }:=λa c f h' d kp e =>
  ⟨.ref s.heap.objs.size,_,I.laid (t':=s.toks) kp (ar _) (show qu X.prog X.w _ h' _ (.lst ys) from ⟨f,a,d,c,e⟩),rfl,q _ (I.hok.fresh (ar _))⟩
 rcases hq with hq | hq
 ·obtain ⟨a,c,pl,f⟩:=I.list hq
  have j:=c.length
  obtain ⟨o,i,l,n,k⟩:=pl.isList
  exact tS p (.inl rfl) i l k (λh' d kp e=>g a c f h' d kp e) ↥127
 ·obtain ⟨a,c,pl,f⟩:=I.tuple hq
  have j:=c.length
  obtain ⟨o,i,l,n,k⟩:=pl
  exact tS p (.inr rfl) i l k (λh' d kp e=>g a c f h' d kp e) ↥127
inductive cI_call_tuple_of (K:ag) (xs:List V) (H:Hp) (Q:VK):Prop
 | mk (p:_) (ys:_) (_:xs=[.ref p]) (_:((SqL K H p ys/\∀l,H l=none->Q (.ref l) (upd H l (.tup ys)))\/(SqT K H p ys/\Q (.ref p) H)))
theorem Jc:xl X (.type "tuple") (cI_call_tuple_of X.K):=by
 intro pins s σ H xs l Q I r h
 obtain ⟨p,ys,rfl,h⟩:=h
 obtain ⟨u,rfl,i⟩:=vv r
 cases i
 rcases h with ⟨d,q⟩ | ⟨d,q⟩
 ·obtain ⟨a,c,pl,f⟩:=I.list d
  have j:=c.length
  refine call_tuple_list pl.isList (λh' kp=>?_) ↥127
  have g:Inv X pins σ H { s with heap:=h' }:=I.kept (t':=s.toks) kp
  have k:Inv X pins σ (upd H h'.objs.size (.tup ys)) { s with heap:=h'.push { cls:=.type "tuple",data:=.seq a.toArray } } :=
   g.laid (t':=s.toks) (λb o e=>ai _ e) (ar _) (show qu X.prog X.w _ _ _ (.tup ys) from ⟨f,a,c,tY _ _⟩)
  exact ⟨.ref h'.objs.size,_,k,rfl,q _ (g.hok.fresh (ar _))⟩
 ·obtain ⟨a,c,pl,f⟩:=I.tuple d
  exact call_tuple_same pl ⟨.ref p,H,I,rfl,q⟩
noncomputable def tyV (K:ag) (T:String) (x:V) (H:Hp):Prop:=match x with
 | .str _=>T = "str"
 | .int _=>T = "int"
 | .ref p=>(T = "list" /\ ∃xs,SqL K H p xs)\/(T = "tuple" /\ ∃o,K.lookup p=some o/\o.cls = .type "tuple" /\ o.dict=none) \/
   (T = "dict" /\ ((∃kvs,H p=some (.dK kvs))\/∃kvs,H p=some (.dT kvs)))\/(T = "set" /\ ∃S n,H p=some (.set S n))
 | _=>False
theorem Vj {T:String}(I:Inv X pins σ H s) (r:jJ x v) (ty:tyV X.K T x H) :
  s.TypeIs v T/\∀a,v = .ref a->∃j,s.heap.get? a=some j/\j.dict=none:=by
 cases x with
 | str z =>
  obtain ⟨t,rfl⟩:=r
  cases (show T = "str" from ty)
  exact ⟨typeIs_str s z t,λ_ e=>nomatch e⟩
 | int i =>
  obtain ⟨t,rfl⟩:=r
  cases (show T = "int" from ty)
  exact ⟨typeIs_int s i t,λ_ e=>nomatch e⟩
 | ref p =>
  cases r
  rcases ty with ⟨rfl,xs,g⟩ | ⟨rfl,o,b,h,d⟩ | ⟨rfl,b⟩ | ⟨rfl,S,n,b⟩
  ·obtain ⟨k,_,pl,_⟩:=I.list g
   refine ⟨pl.isList.typeIs,λa e=>?_⟩
   cases e
   obtain ⟨o,n,e,c,d,_⟩:=pl
   exact ⟨o,e,d⟩
  ·refine ⟨⟨o,I.kIn p o b,h⟩,λa e=>?_⟩
   cases e
   exact ⟨o,I.kIn _ o b,d⟩
  ·have z:∃o,s.heap.get? p=some o/\o.ExactDict:=by
    rcases b with ⟨kvs,b⟩ | ⟨kvs,b⟩
    ·obtain ⟨_,_,_,_,o,_,_,e,ex,_⟩:=I.hok p _ b
     exact ⟨o,e,ex⟩
    ·obtain ⟨_,_,_,_,o,_,_,e,ex,_⟩:=I.hok p _ b
     exact ⟨o,e,ex⟩
   obtain ⟨o,e,ex⟩:=z
   refine ⟨⟨o,e,ex.1⟩,λa f=>?_⟩
   cases f
   exact ⟨o,e,ex.2.1⟩
  ·obtain ⟨o,_,_,_,e,ex,_⟩:=I.hok p _ b
   refine ⟨⟨o,e,ex.1⟩,λa f=>?_⟩
   cases f
   exact ⟨o,e,ex.2.1⟩
 | _=>exact bw ty
noncomputable def Ec (K:ag) (T:String) (r:V->List V->Hp->VK->Prop) (to:TE):TE:=λσ H Q=>to σ H λx H1=>tyV K T x H1/\r x [] H1 Q
noncomputable def tBM (K:ag) (T:String) (r:V->List V->Hp->VK->Prop) (to:TE) (t:TA):TE:=λσ H Q=>to σ H λx H1=>tyV K T x H1/\t σ H1 λxs H2=>r x xs H2 Q
variable {o e:Expr}{es:List Expr}{to:TE}{t:TA}{name:Str}{apos cpos:Pos}{T id:String}{r:V->List V->Hp->VK->Prop}
theorem Ug (pa:oW T) (G:Slot T name id) (U:oX (.builtin id)=pure (.type "method_descriptor")) (hm:MtR X id r) (Y:PE X o to)
  (z:dP o name X.env (eval o X.env)=eval o X.env:=by rfl) (j: ↥144=true:=by rfl):PE X (.Call (.Attribute o name apos) [] [] cpos) (Ec X.K T r to):=by
 intro pins s σ H Q I h
 refine wpAny_Call_method0_late z j (thn (Y pins s σ H _ I h) λv s1 ⟨x,H1,b,a,ty,c⟩=>?_)
 obtain ⟨h1,h2⟩:=Vj b a ty
 exact ⟨T,id,pa,G,U,h1,h2,ia rfl (PySem.evalArgs_none (hm pins s1 σ H1 x [] v [] Q b a .nil c))⟩
theorem GY (pa:oW T) (U:Slot T name id) (ab:oX (.builtin id)=pure (.type "method_descriptor")) (hm:MtR X id r) (ho:PE X o to) (ha:PA X (e::es) t)
  (G:dP o name X.env (eval o X.env)=eval o X.env:=by rfl)
  (Y:((cM cpos (aR (e::es) X.env)).all (λx=>!x.1) && (lF cpos (fk [] X.env)).all (λx=>x.1.isSome)
   && decide ((e::es).length+([]:List mC).length+(if ([]:List mC).isEmpty then 0 else 1)<30))=true:=by rfl)
  (z: ↥144=true:=by rfl) (hs:aR (e::es) X.env=↥40::aR es X.env:=by rfl) (j:(cM cpos (aR es X.env)).any (·.1)=false:=by rfl) :
  PE X (.Call (.Attribute o name apos) (e::es) [] cpos) (tBM X.K T r to t):=by
 intro pins s σ H Q I h
 refine wpAny_Call_method_late G Y z rfl (thn (ho pins s σ H _ I h) λv s1 ⟨x,H1,c,a,ty,l⟩=>?_)
 obtain ⟨h1,h2⟩:=Vj c a ty
 refine ⟨T,id,pa,U,ab,h1,h2,?_⟩
 have b:=ha cpos pins s1 σ H1 _ c l
 rw [hs] at b ⊢
 refine ia (by show (false || (cM cpos (aR es X.env)).any (·.1))=false;rw [j] <;> rfl) (iQ ?_)
 exact thn b λf g ⟨d,H2,m,i,k⟩=>hm pins g σ H2 x d v f Q m a i k
end
end L2
namespace L2
noncomputable def MtM (X:Cx) (id:String) (r:V->List V->Hp->VK->Prop):Prop :=
 ∀(pins:List (Addr×Obj)) (s:Shared) (σ:St) (H:Hp) (x:V) (xs:List V) (v:aj) (a:List aj) (Q:VK),Inv X pins σ H s->jJ x v->jH xs a->r x xs H Q ->
  ax ↥3 X.A (call (.builtin id) (v::a)) ↥61 X.xe s
theorem jH.one:∀{x:V}{us:List aj},jH [x] us->∃u,us=[u]/\jJ x u
 | _,_,.cons r .nil=>⟨_,rfl,r⟩
theorem jH.zero:∀{us:List aj},jH [] us->us=[]
 | _,.nil=>rfl
theorem jH.dropLast {xs:List V}(h:jH xs us):jH xs.dropLast us.dropLast:=by
 induction h with
 | nil=>exact .nil
 | cons r t a =>
  cases t with
  | nil=>exact .nil
  | cons q b=>exact .cons r a
theorem jH.reverse {xs:List V}(h:jH xs us):jH xs.reverse us.reverse:=by
 induction h with
 | nil=>exact .nil
 | cons r t a=>rw [lT,lT];exact jH.append a (.cons r .nil)
theorem Zl {α:Type}(l:List α):l.eraseIdx (l.length-1)=l.dropLast:=by
 induction l with
 | nil=>rfl
 | cons a r c =>
  cases r with
  | nil=>rfl
  | cons b r =>
   have e:(a::b::r).length-1=((b::r).length-1)+1:=by
    have h1:(a::b::r).length=r.length+2:=rfl
    have h2:(b::r).length=r.length+1:=rfl
    omega
   rw [e,List.eraseIdx_cons_succ,c]
   all_goals rfl
section
variable {X:Cx}{pins:List (Addr×Obj)}{σ:St}{H:Hp}{s:Shared}{l b:Addr}{xs ys zs:List V}
theorem Inv.lset {its its':List aj}{n:Nat}{f:Array aj->Array aj}{t':Nat}(I:Inv X pins σ H s) (U:H l=some (.lst xs))
  (e:s.heap.get? l=some { cls:=.type "list",data:=.seq its.toArray n }) (G:f its.toArray=its'.toArray) (z:jH ys its') (j:ys.length<=sizeLine) :
  Inv X pins σ (upd H l (.lst ys)) { s with heap:=s.heap.update l (b8 f),toks:=t' }:=by
 have q:=PySem.IsL.update e f
 rw [G] at q
 refine I.write (x:=l) (e:=l) (by rw [U];exact trivial) (.inl rfl) (λc u b a=>(bY s.heap (b8 f) (cx b)).trans a) ⟨_,q⟩ ?_
 exact ⟨j,its',_,z,q⟩
theorem Inv.lnew {t':Nat}(I:Inv X pins σ H s) (z:jH ys its) (j:ys.length<=sizeLine) :
  Inv X pins σ (upd H s.heap.objs.size (.lst ys)) { s with heap:=s.heap.push { cls:=.type "list",data:=.seq its.toArray },toks:=t' } :=
 I.laid (λ_ _ q=>ai _ q) (ar _) ⟨j,its,0,z,az _ rfl⟩
theorem Inv.fresh (I:Inv X pins σ H s):H s.heap.objs.size=none:=I.hok.fresh (ar _)
theorem Inv.lstM (I:Inv X pins σ H s) (j:H l=some (.lst xs)):xs.length<=sizeLine/\∃(its:List aj) (n:Nat),jH xs its/\xs.length=its.length/\s.heap.get? l=some { cls:=.type "list",data:=.seq its.toArray n }:=by
 obtain ⟨z,its,n,r,e⟩:=I.hok l _ j
 exact ⟨z,its,n,r,r.length,e⟩
theorem VE {n:Nat}(h:n<=sizeLine):fQ n=false:=by
 unfold fQ
 exact decide_eq_false ∅
end
section
variable {X:Cx}
inductive rAppend  (x:V) (vs:List V) (H:Hp) (Q:VK):Prop
 | mk (l:_) (xs:_) (y:_) (_:x = .ref l) (_:vs=[y]) (_:H l=some (.lst xs)) (_:xs.length<sizeLine) (_:Q .non (upd H l (.lst (xs++[y]))))
theorem jY:MtM X "list.append" rAppend:=by
 intro pins s σ H x g v i Q I c d h
 obtain ⟨l,xs,y,rfl,rfl,b,j,q⟩:=h
 cases c
 obtain ⟨u,rfl,f⟩:=d.one
 obtain ⟨z,a,n,r,k,e⟩:=I.lstM b
 refine mG F.slot_list_append ⟨_,e,rfl⟩ F.entry_list_append (F.args_list_append_2 _ _) (PySem.list_append l a.toArray n u (by rw [aw];omega)) ⟨e,?_⟩
 refine ⟨.non,_,I.lset (its':=a++[u]) b e (by simp) (r.append (.cons f .nil)) ?_,rfl,q⟩
 rw [ao,br]
 omega
inductive rExtend  (x:V) (vs:List V) (H:Hp) (Q:VK):Prop
 | mk (l:_) (b:_) (xs:_) (zs:_) (_:x = .ref l) (_:vs=[.ref b]) (_:H l=some (.lst xs)) (_:H b=some (.lst zs)) (_:xs.length+zs.length<=sizeLine) (_:Q .non (upd H l (.lst (xs++zs))))
theorem GM:MtM X "list.extend" rExtend:=by
 intro pins s σ H x A v B Q I i j h
 obtain ⟨l,b,xs,zs,rfl,rfl,g,p,C,q⟩:=h
 cases i
 obtain ⟨u,rfl,k⟩:=j.one
 cases k
 obtain ⟨z,c,n,r,D,e⟩:=I.lstM g
 obtain ⟨y,a,o,m,w,t⟩:=I.lstM p
 have f:c.toArray.size+a.toArray.size<=sizeLine:=by rw [aw,aw];omega
 have d:¬(!c.toArray.isEmpty && fQ (c.toArray.size+a.toArray.size))=true:=by
  rw [VE f,sZ]
  exact au
 refine mG F.slot_list_extend ⟨_,e,rfl⟩ F.entry_list_extend (F.args_list_extend_2 _ _)
  (AutoSeq1.list_extend_list_list_0 l c.toArray n b a.toArray o d (by rw [aw];omega) ∅) ⟨e,t,?_⟩
 refine ⟨.non,_,I.lset (its':=c++a) g e (by simp) (r.append m) ?_,rfl,q⟩
 rw [ao]
 omega
inductive rPop  (x:V) (vs:List V) (H:Hp) (Q:VK):Prop
 | mk (l:_) (xs:_) (y:_) (_:x = .ref l) (_:vs=[]) (_:H l=some (.lst xs)) (_:xs[xs.length-1]? = some y) (_:Q y (upd H l (.lst xs.dropLast)))
theorem GH:MtM X "list.pop" rPop:=by
 intro pins s σ H x o v p Q I f g h
 obtain ⟨l,xs,y,rfl,rfl,d,j,q⟩:=h
 cases f
 have c:=g.zero
 subst c
 obtain ⟨z,a,n,r,m,e⟩:=I.lstM d
 obtain ⟨u,k,i⟩:=r.get j
 have b:a.toArray[a.toArray.size-1]? = some u:=by
  show a.toArray[a.length-1]? = some u
  rw [<- nj,<- m]
  exact k
 refine mG F.slot_list_pop ⟨_,e,rfl⟩ F.entry_list_pop (F.args_list_pop_1 _) (MeetsSeq.list_pop_last l a.toArray n u b (by rw [aw];omega)) ⟨e,?_⟩
 refine ⟨y,_,I.lset (its':=a.dropLast) d e ?_ r.dropLast ?_,i,q⟩
 ·show a.toArray.eraseIdxIfInBounds (a.toArray.size-1)=a.dropLast.toArray
  rw [aw,List.eraseIdxIfInBounds_toArray,Zl]
 ·rw [List.length_dropLast]
  omega
inductive rCat  (x:V) (y:V) (H:Hp) (Q:VK):Prop
 | mk (l:_) (b:_) (xs:_) (zs:_) (_:x = .ref l) (_:y = .ref b) (_:H l=some (.lst xs)) (_:H b=some (.lst zs)) (_:xs.length+zs.length<=sizeLine) (_:∀p,H p=none->Q (.ref p) (upd H p (.lst (xs++zs))))
theorem G3:OpR X (fj .Add) rCat:=by
 intro pins s σ H x y v u Q I f d h
 obtain ⟨l,b,xs,zs,rfl,rfl,i,j,w,q⟩:=h
 cases f
 cases d
 obtain ⟨z,c,n,r,A,e⟩:=I.lstM i
 obtain ⟨p,a,t,g,o,m⟩:=I.lstM j
 refine PySem.P.add_list e m ?_ (by rw [aw,aw];omega)
 have k:c.toArray++a.toArray=(c++a).toArray:=by simp
 rw [k]
 exact ⟨.ref _,_,I.lnew (t':=s.toks) (r.append g) (by rw [ao];omega),rfl,q _ I.fresh⟩
end
section
variable {prog:Program}{w:bo}{A:bx}{E:aj->Shared->Prop}{s:Shared}
set_option maxRecDepth 100000 in
end
section
variable {X:Cx}
end
end L2
namespace Att
open PySem PySem.W PySem.Calls PyProof.Rows
theorem wQ :∀(ns:List Int) (vs:List aj),WellAll P h vs (ns.map WData.int)->di vs ns:=by
 intro ns
 induction ns with
 | nil =>
  intro vs w
  rw [fJ] at w
  cases w
  exact .nil
 | cons n ns c =>
  intro vs w
  rw [aS] at w
  cases w with
  | cons a b =>
   cases a
   exact .cons _ _ (c _ b)
theorem Yi {l:OpenLaw}{n:Nat}(I:l.most=some n) 
  (j:l.row.toRowW.claim.pre args=true) (G:WellAll P h z args) :
  ∃a vs ns,z=[aU a]/\args=[WData.list (ns.map WData.int)]/\h.get? a=some { cls:=.type "list",data:=.seq vs.toArray }/\di vs ns/\ns.length<=n:=by
 have g:WShape.hasAll [] args [.list .int]=true:=(pre_splitW j).1
 have i:l.pre.holds [] { args:=args }=true:=(pre_splitW j).2
 obtain ⟨d,r,rfl,h1,h2⟩:=hasAllW_cons g
 obtain rfl:=hasAllW_nil h2
 obtain ⟨xs,rfl,s⟩:=hasW_list h1
 obtain ⟨ns,rfl⟩:=items_int s
 have e:ns.length<=n:=by
  unfold OpenLaw.pre at i
  have c:(WTm.not (.lt (.lit (.int (n:Int))) (.len (.arg 0)))).holds [] { args:=[.list (ns.map .int)] }=true:=by
   have c:=(holds_andW i).1
   rw [I] at c
   exact c
  have b:=condW_of c (w_not (w_lt w_lit (w_len_list (w_arg rfl))))
  rw [ah] at b
  refine Nat.le_of_not_lt λq=>?_
  have o:(n:Int)<((ns.length:Nat):Int):=∅
  first
   | (rw [decide_eq_true o] at b;exact absurd b ⋯)
   | (simp at b;omega)
 cases G with
 | cons m k =>
  cases k
  cases m with
  | list p f=>exact ⟨_,_,ns,rfl,rfl,p,wQ ns _ f,e⟩
theorem YW (l:OpenLaw) (args:List WData):l.row.toRowW.claim.post args (.bool true) args=true :=
 postW_of (r:=l.row.toRowW) (X:=(true == true))
  (show WShape.has [] (.bool true) .bool=true by first | rfl | decide | simp [WShape.has,WShape.arms,WShape.armsAll])
  (show (WTm.eq .res (.lit (.bool true))).value [] { args:=args,res:=some (.bool true),after:=args }=some (.bool (true == true)) from w_eq_bool (w_res rfl) w_lit) rfl
theorem attach_call {l:OpenLaw}{n:Nat}{q:Program}{loose:List Str}{XP:(Str->Option aj)->Heap->Prop}{YP:bo->Heap->Prop}{d:DefRec}
  (hn:l.most=some n) (ab:d.params.defaults=[])
  (call:∀(w:bo) (U j:Shared) (mg mb:Str->Option aj) (z:Addr) (o:Obj) (pm I doc:aj) (a:Addr) (vs:List aj) (ns:List Int),
   Ground q loose [] XP w U mg mb j.heap->YP w j.heap ->
   j.heap.get? z=some o->o.data = .func (docDef d.name d.params d.body d.scope pm I doc)->j.heap.CodeRec I d.name->mg d.name=some (.ref z) ->
   j.heap.get? a=some { cls:=.type "list",data:=.seq vs.toArray }->di vs ns->ns.length<=n->j.gens = #[] ->
   cO (aD l.prog w) ow (.call (.ref z) ⟨[.ref a],[]⟩) (λr s'=>r = .ok (.ret (.bool true))/\OldK j.heap s'.heap/\s'.os=j.os/\iL s'.gens) j) :
  WalkO q loose XP YP l.row.toRowW d [] (λf vs=>PySem.call f vs):=by
 intro w U j mg mb G Y z o pm I doc C kV t y k m i x D p J c v E h H
 obtain rfl:C = .none:=Dflts.none m ab
 obtain rfl:kV = .none:=Dflts.noKw m
 obtain ⟨a,vs,ns,rfl,rfl,e,b,g⟩:=Yi hn c h
 refine enter_call (dh (call w U j mg mb z o pm I doc a vs ns G Y t (fd_plain y) k i e b g x) λr s' s=>?_)
 obtain ⟨rfl,h2,B,A⟩:=s
 exact ⟨.inl ⟨.bool true,.bool true,[],rfl,λ_=>rfl,.bool true,YW l _,λ_=>⟨ib,λ_ u=>(nomatch u)⟩⟩,h2,B,A⟩
section
variable {prog:Program}{w:bo}{A:bx}{E:aj->Shared->Prop}{s:Shared}{K:Frag}
noncomputable def ledger (h:Heap) (L d:Addr):List (Addr×Obj):=(aJ h.objs.size).filterMap λa=>if a=L\/a=d then none else (h.get? a).map λo=>(a,o)
end
end Att
namespace L2
theorem w5:∀{vs:List aj}{ns:List Int},di vs ns->jH (ns.map V.int) vs
 | _,_,.nil=>.nil
 | _,_,.cons n t h=>.cons ⟨t,rfl⟩ (w5 h)
end L2
namespace L2
end L2
namespace L2
noncomputable def zM (s:Stmt) (j:Nat):Stmt:=match s with
 | .ClassDef _ _ _ body _ _ _ _ _ _ _=>body.getD j (.Pass ⟨0,0,0,0⟩)
 | _=>.Pass ⟨0,0,0,0⟩
noncomputable def qf (s:Stmt):Arguments:=match s with
 | .FunctionDef _ a _ _ _ _ _ _ _ _=>a
 | _=>{ posonlyargs:=[],args:=[],vararg:=none,kwonlyargs:=[],kw_defaults:=[],kwarg:=none,defaults:=[] }
noncomputable def jT (s:Stmt):List Stmt:=match s with
 | .FunctionDef _ _ b _ _ _ _ _ _ _=>b
 | _=>[]
noncomputable def j8 (s:Stmt):Scope:=match s with
 | .FunctionDef _ _ _ _ _ _ a _ _ _=>a
 | _=>{ kind:=.function,names:=[],isGenerator:=false,isCoroutine:=false }
noncomputable abbrev CX0:CXT:=λ_ _ _ _ _ _=>False
noncomputable abbrev E0:XK:=λ_ _ _=>False
theorem Ws :JS CX0 X E0:=λ_ _ _ _ _ _ _ h=>h.elim
structure Fun (K:ag) (x qual:Str) (st:Stmt) (f:Addr) (fd:FuncData):Prop where
 ex:∃(oc:aj) (od:Option Addr) (kV doc pm:aj) (an:Option Addr) (cdv ct:aj) (osl:Array (Option aj)),
  fd=bF x qual (qf st) (jT st) (j8 st) .none kV doc pm an cdv ct/\K.lookup f=some ⟨oc,od,.func fd,osl⟩/\cC K cdv qual=true
 kp:bR K (.ref f)=true
section
variable {P:Program}{w:bo}{K:ag}{mg:Str->Option aj}{base:Heap}
theorem Fun.ok {x:Str}{st:Stmt}{N:List Str}{k:Nat}{sp:Sp}(F:Fun K x z st f fd) (S:FnScope N ps (j8 st)) (len:∀vs H Q E,sp vs H Q E->vs.length=ps.length)
  (G:∀(j:aj) (A:bx) (outer:List Env) (s:Shared) (H:Hp) (vs:List V) (Q:VK) (E:XK),Room k (A.deeper (iU z (j8 st) s.heap.objs.size f j))->sp vs H Q E ->
   ∃t,PSs (vN CX0 P w K mg base N z (j8 st) f j A outer s H E).nox (jT st) t/\t { nx:=λ_ H'=>Q .non H',rt:=Q } (start N vs) H):FnOk P w K mg base CX0 (k+1) f fd ps sp:=by
 obtain ⟨i,g,kV,doc,pm,m,j,l,e,rfl,c,b⟩:=F.ex
 refine Vl c b S len λA outer s H vs Q E d a=>?_
 obtain ⟨t,h,q⟩:=G j A outer s H vs Q E d a
 exact ⟨t,h.nox,q⟩
theorem Fun.binds {x:Str}{st:Stmt}{ps:List Str}(F:Fun K x z st f fd)
  (h:∀(kV doc pm:aj) (I:Option Addr) (j G:aj) (us:List aj),us.length=ps.length->cG (bF x z (qf st) (jT st) (j8 st) .none kV doc pm I j G) ⟨us,[]⟩=pure (ps.zip us)):yB K fd ps []:=by
 obtain ⟨d,c,kV,doc,pm,I,j,G,a,rfl,e,b⟩:=F.ex
 exact .all (h kV doc pm I j G)
theorem vz {st:Stmt}{I:aj}{od:Option Addr}{G:Array (Option aj)}{kV pm:aj}(l:K.lookup f=some ⟨I,od,.func (bF x j (qf st) (jT st) (j8 st) .none kV doc pm Y z U),G⟩)
  (c:cC K z j=true) (k:bR K (.ref f)=true):Fun K x j st f (bF x j (qf st) (jT st) (j8 st) .none kV doc pm Y z U):=⟨⟨I,od,kV,doc,pm,Y,z,U,G,rfl,l,c⟩,k⟩
end
theorem jR {k:Nat}(j:Room k A):A.units+1<cLine:=bU (Nat.add_le_add_left (by decide:1<=64) _) j.units
theorem jj {n:Nat}(h:n<=1000):n<sizeLine:=bU h ⋯
section
variable {X:Cx}
theorem pv (i:Nat) {pos:Pos}(I:X.N[i]? = some x:=by rfl) (z:Vis X.env.scope x:=by first | exact aO rfl | exact dQ (aO rfl) | exact dQ (dQ rfl)) (G: ↥22=false:=by decide)
  (j:(x == ("__classdict__" : Str))=false:=by decide):PE X (.Name x pos) (tVar i):=Gy I z G j
end
theorem kz {A B:Prop}(h:B):if false=true then A else B:=by
 rw [if_neg au]
 exact h
theorem vO {A B:Prop}(h:A):if true=true then A else B:=by
 rw [if_pos rfl]
 exact h
noncomputable def jm (H H':Hp):Prop:=∀b o,H b=some o->H' b=some o
theorem jm.refl (H:Hp):jm H H:=λ_ _ h=>h
theorem jm.trans (a:jm H H1) (b:jm H1 H2):jm H H2:=λc o h=>b c o (a c o h)
theorem jm.free (e:jm H H') (h:H' l=Option.none):H l=Option.none:=by
 cases q:H l with
 | none=>rfl
 | some o =>
  rw [e l o q] at h
  cases h
end L2
section
namespace L2
theorem Zu (env:Env) (f:Str×i8->List (Str×Addr)->Sem (ForInStep (List (Str×Addr))))
  (I:∀n k r,f (n,k) r=if (k == bc)=true then (A1 env n >>= λa=>pure (c5 ((n,a)::r))) else pure (c5 r)) :
  ∀(j:List (Str×i8)) (acc:List (Str×Addr)),(∀x∈j,x.2 = .free->∃c,env.cells.lookup x.1=some c) ->
  ∃G,A9 j acc f=pure G/\∀x,G.lookup x=if (x,bc)∈j then env.cells.lookup x else acc.lookup x:=by
 intro j
 induction j with
 | nil=>intro acc _;exact ⟨acc,rfl,λx=>by rw [if_neg (by simp)]⟩
 | cons y r l =>
  intro acc h
  obtain ⟨n,k⟩:=y
  have m:∀x∈r,x.2 = .free->∃c,env.cells.lookup x.1=some c:=λx d=>h x (aH _ d)
  by_cases g:k = .free
  ·subst g
   obtain ⟨c,o⟩:=h (n,.free) aK rfl
   obtain ⟨G,e,p⟩:=l ((n,c)::acc) m
   refine ⟨G,?_,λx=>?_⟩
   ·rw [iW,I,if_pos (by rfl)]
    have q:A1 env n=pure c:=by unfold A1;rw [o]
    rw [q]
    exact e
   ·rw [p x]
    by_cases d:x=n
    ·subst d
     rw [if_pos (aK),cH,beq_self_eq_true]
     by_cases b:(x,bc)∈r
     ·rw [if_pos b]
     ·rw [if_neg b];exact o.symm
    ·have i:(x == n)=false:=beq_eq_false_iff_ne.mpr d
     rw [cH,i]
     by_cases b:(x,bc)∈r
     ·rw [if_pos b,if_pos (aH _ b)]
     ·rw [if_neg b,if_neg (by
       intro z
       rcases List.mem_cons.mp z with z | z
       ·exact d (congrArg Prod.fst z)
       ·exact b z)]
  ·obtain ⟨G,e,p⟩:=l acc m
   have i:(k == bc)=false:=by simpa using g
   refine ⟨G,?_,λx=>?_⟩
   ·rw [iW,I,i,if_neg au]
    exact e
   ·rw [p x]
    by_cases b:(x,bc)∈r
    ·rw [if_pos b,if_pos (aH _ b)]
    ·rw [if_neg b,if_neg (by
      intro z
      rcases List.mem_cons.mp z with z | z
      ·exact g (congrArg Aa z).symm
      ·exact b z)]
theorem yT {scope:Scope}{env:Env}(h:∀x∈scope.names,x.2 = .free->∃c,env.cells.lookup x.1=some c) :
  ∃j,oY scope env=pure j/\∀x,j.lookup x=if (x,bc)∈scope.names then env.cells.lookup x else none:=by
 have d:=Zu env (λ(x:Str×i8) r=>match x with | (n,k)=>if (k == bc)=true then (A1 env n >>= λa=>pure (c5 ((n,a)::r))) else pure (c5 r)) (λ_ _ _=>rfl) scope.names [] h
 obtain ⟨j,e,p⟩:=d
 refine ⟨j,?_,λx=>by rw [p x];rfl⟩
 unfold oY
 have b:A9 scope.names ([]:List (Str×Addr)) (λ(x:Str×i8) r=>match x with | (n,k)=>if (k == bc)=true then (A1 env n >>= λa=>pure (c5 ((n,a)::r))) else pure (c5 r))=(pure j:Sem _):=e
 show (A9 scope.names ([]:List (Str×Addr)) _ >>= λf=>pure f)=_
 first
  | (rw [b];rfl)
  | (simp only [bind_pure];exact b)
structure CompSc (osc:Scope) (ON:List Str) (scope:Scope) (own:Nat) (N:List Str) (caps:List Nat):Prop where
 kind:scope.kind = .function
 nocell:∀y∈scope.names,y.2≠.cell
 loc:∀y∈scope.names,y.2 = .local->scope.names.lookup y.1=some .local
 fre:∀y∈scope.names,y.2 = .free->scope.names.lookup y.1=some .free/\(osc.names.lookup y.1=some .cell\/osc.names.lookup y.1=some .free)
 len:N.length=own+caps.length
 cap:∀p∈(N.drop own).zip caps,ON[p.2]? = some p.1/\(p.1,bc)∈scope.names
noncomputable def ve (own:Nat) (caps:List Nat) (σ:St):St:=du own none++caps.map λj=>(σ[j]?).getD none
noncomputable def Cx.block (X:Cx) (scope:Scope) (j:List (Str×Addr)) (C:Addr) (N:List Str) (s:Shared) (H:Hp) (ex:List Addr):Cx :=
 { X with N:=N,s₀:=s,H₀:=H,env:=pS scope j C X.env,outer:=X.stack,ex:=ex,fn:=λx=>decide (scope.names.lookup x=some .local),pn:=[],xe:=λ_ _=>False }
theorem yK {env:Env}:∀{j:List (Str×i8)}{x:Str}{k:i8},
  (j.map λ(n,k)=>if ↥93 then (n,iN) else (n,k)).lookup x=some k ->
  ∃z,j.lookup x=some z/\(z=k\/(z = .free/\k = .cell))
 | [],_,_,h=>by simp at h
 | (n,c)::r,x,k,h=>by
  have f:=@yK env r x k
  have h':eE x ((if ↥94=true then (n,iN) else (n,c))::r.map λ(n,k)=>if ↥93 then (n,iN) else (n,k))=some k:=h
  cases a:x == n with
  | true =>
   by_cases b: ↥94=true
   ·rw [if_pos b,cH,a] at h'
    cases h'
    refine ⟨c,by rw [cH,a],.inr ⟨?_,rfl⟩⟩
    rw [bp,bp] at b
    exact eq_of_beq b.1.1
   ·rw [if_neg b,cH,a] at h'
    cases h'
    exact ⟨c,by rw [cH,a],.inl rfl⟩
  | false =>
   have h2:eE x (r.map λ(n,k)=>if ↥93 then (n,iN) else (n,k))=some k:=by
    by_cases b: ↥94=true
    ·rw [if_pos b,cH,a] at h';exact h'
    ·rw [if_neg b,cH,a] at h';exact h'
   obtain ⟨z,e,d⟩:=f h2
   exact ⟨z,by rw [cH,a];exact e,d⟩
noncomputable def gL (X:Cx) (ifs:List Expr) (t:TT):Prop :=
 ∀(pins:List (Addr×Obj)) (s:Shared) (σ:St) (H:Hp) (Q:Bool->Hp->Prop),Inv X pins σ H s->t σ H Q ->
  ax ↥3 X.A (A9 ifs true λc r=>if r=true then do let ok <- isTrue c X.env (eval c X.env);pure (c5 ok) else pure (c5 r)) (TP X pins σ Q) X.xe s
noncomputable def E9:TT:=λ_ H Q=>Q true H
theorem jS :gL X [] E9:=λ_ _ _ H _ I h=>wpAny_tests_nil ⟨H,I,h⟩
theorem yq {t:TT}(h:PT X c t):gL X [c] t:=λpins s σ H Q I a=>wpAny_tests_one (h pins s σ H Q I a)
section
variable {prog:Program}{w:bo}{A:bx}{R:nH->Shared->Prop}{s:Shared}
theorem wE {elt j iter:Expr}{ifs:List Expr}{pos:Pos}{it acc:aj}{env:Env}(I:Nat->Shared->Prop)
  (z:∀n s,I n s->ax (aD prog w) A (dY it) (λr U=>match r with
   | none=>R (.ok .next) U
   | some v=>ax (aD prog w) A (cT j it v) (λ_ s₂=>ax (aD prog w) A (iI j env v) (λ_ s₃ =>
     ax (aD prog w) A (A9 ifs true λc r=>if r=true then do let ok <- isTrue c env (eval c env);pure (c5 ok) else pure (c5 r)) (λok G =>
      if ok=true then ax (aD prog w) A (eval elt env) (λx s₅ =>
       ax (aD prog w) A (call (.builtin "list.append") [acc,x]) (λ_ Y=>∃m,m<n/\I m Y) (λ_ _=>False) s₅) (λ_ _=>False) G
      else ∃m,m<n/\I m G) (λ_ _=>False) s₃) (λ_ _=>False) s₂) (λ_ _=>False) U) (λ_ _=>False) s)
  (n:Nat) (h:I n s) :
  cO (aD prog w) A (.compLoop (.ListComp elt [⟨j,iter,ifs,0⟩] scope pos) 0 it acc env) R s:=by
 refine pT rfl I (λn s i=>?_) n h
 show ax _ A ((pU (.ListComp elt [⟨j,iter,ifs,0⟩] scope pos) 0 it acc env).onRaise (λx=>do lB x env;mS x)) _ _ s
 refine sF ?_
 rw [compTurn_list]
 refine aa (cY (aa (aZ (z n s i) (λr U b=>?_) λ_ _ h'=>h'.elim)))
 cases r with
 | none=>exact wpAny_pure b
 | some v =>
  refine aa (aZ b (λ_ s₂ g=>?_) λ_ _ h'=>h'.elim)
  refine aa (aZ g (λ_ s₃ f=>aa (aZ f (λok G a=>?_) λ_ _ h'=>h'.elim)) λ_ _ h'=>h'.elim)
  cases ok with
  | false=>exact wpAny_pure ⟨rfl,a⟩
  | true =>
   exact aa (aa (aZ a (λx s₅ e=>aa (aZ e (λ_ Y d=>wpAny_pure (wpAny_pure ⟨rfl,d⟩)) λ_ _ h'=>h'.elim)) λ_ _ h'=>h'.elim))
end
section
variable {X:Cx}{pos:Pos}
noncomputable def VX (own:Nat) (caps:List Nat) (j:TI) (g:TG) (z:TT) (te:TE):TE:=λσ H Q=>j σ H λJ H1=>∀acc,H1 acc=none ->
 ∃W:Nat->Nat->St->Hp->Prop,(∃m,W 0 m (ve own caps σ) (upd H1 acc (.lst [])))/\∀i m d H',W i m d H' ->
  (J.stop i H'/\Q (.ref acc) H') \/
  (J.go i H'/\∃b:St->Hp->Prop,(∀c H2,b c H2->∃e,e<m/\W (i+1) e c H2) /\
   ∀x H2,J.yld i H' x H2->g x d H2 λa k=>z a k λok h=>if ok=true then te a h λv f=>∃ys,f acc=some (.lst ys)/\ys.length<sizeLine/\b a (upd f acc ↥68) else b a h)
theorem Vk {own:Nat}{G:List (Str×Addr)}{C:Addr}{Y:List Addr}
  (S:CompSc osc ON scope own N caps) (ab:X.env.scope=osc) (U:∀x,G.lookup x=if (x,bc)∈scope.names then X.env.cells.lookup x else none)
  (I:Inv X pins σ H s) (hC:s.heap.objs.size<=C) (j:∀b∈Y,yy X pins H b) (ac:∀b∈Y,b<s.heap.objs.size):(X.block scope G C N s H Y).Ok:=by
 have a:∀x c,G.lookup x=some c->X.env.cells.lookup x=some c/\(x,bc)∈scope.names:=λx c e=>by
  rw [U x] at e
  by_cases h:(x,bc)∈scope.names
  ·rw [if_pos h] at e;exact ⟨e,h⟩
  ·rw [if_neg h] at e;cases e
 refine ⟨I.ok.mod,S.kind,I.ok.glob,I.ok.blt,hC,λx y c h1 h2=>I.ok.inj x y c (a x c h1).1 (a y c h2).1,λx q=>?_,λx c h1 h2=>?_,I.ok.hd,I.ok.frames,.inl rfl,λb g=>?_,I.bs,aI I.ok.bsz I.sz,λb o e g=>?_,λb g m=>?_,I.stack,I.stkFree⟩
 ·-- v
  have key:∀k,(k=iN\/k=bc)->(A2 scope X.env).names.lookup x=some k->∃c,G.lookup x=some c:=λk r e=>by
   obtain ⟨p,u,d⟩:=yK (env:=X.env) e
   have f:=dg u
   have i:p = .free:=by
    rcases d with d | d
    ·subst d
     rcases r with z | z
     ·exact absurd z (S.nocell _ f)
     ·exact z
    ·exact d.1
   subst i
   obtain ⟨_,l⟩:=S.fre _ f rfl
   obtain ⟨c,t⟩:=I.ok.has x (by unfold t6;rw [ab];exact l)
   exact ⟨c,by rw [U x,if_pos f];exact t⟩
  rcases q with z | z
  ·exact key _ (.inl rfl) z
  ·exact key _ (.inr rfl) z
 ·-- w
  have n:scope.names.lookup x=some .local:=of_decide_eq_true h1
  have h:=(a x c h2).2
  have:=(S.fre _ h rfl).1
  rw [n] at this
  cases this
 ·refine ⟨aB (aQ (ac b g) hC),λx c e=>(j b g).2.2.2.2.1 x c (a x c e).1⟩
 ·rcases (j b g).2.2.2.1 with z | z
  ·exact I.ok.noex b o e z
  ·exact absurd (aQ (av e) (aI I.ok.bsz z)) (cK _)
 ·rcases List.mem_cons.mp (I.stkSub b m) with z | z
  ·exact (j b g).2.1 z
  ·exact (j b g).2.2.1 z
theorem vn {N:List Str}{scope:Scope}{own:Nat}{caps:List Nat}{U:List (Str×Addr)}{C D:Addr}{σ:St}{H:Hp}{s:Shared}{h1:Heap}{fp:List Addr}
  (S:CompSc osc ON scope own N caps) (Y:X.env.scope=osc) (hN:X.N=ON) (G:∀x,U.lookup x=if (x,bc)∈scope.names then X.env.cells.lookup x else none)
  (I:Inv X pins σ H s) (hf:∀b∈fp,yy X pins H b) (ab:∀b∈fp,b<s.heap.objs.size) (hD:D=s.heap.objs.size) (hC:C=s.heap.objs.size+1)
  (k:∀b o,s.heap.get? b=some o->h1.get? b=some o) (eD:h1.get? D=some { cls:=.type "list",data:=.seq #[] }) (hn:h1.Ns C λ_=>none) (t':Nat) :
  Inv (X.block scope U C N s H fp) [] (ve own caps σ) (upd H D (.lst [])) { s with heap:=h1,toks:=t' }:=by
 subst hD
 subst hC
 have E:s.heap.objs.size<=s.heap.objs.size+1:=fZ _
 have ok:=Vk (C:=s.heap.objs.size+1) S Y G I E hf ab
 have f:∀x c,U.lookup x=some c->X.env.cells.lookup x=some c/\(x,bc)∈scope.names:=λx c e=>by
  rw [G x] at e
  by_cases y:(x,bc)∈scope.names
  ·rw [if_pos y] at e;exact ⟨e,y⟩
  ·rw [if_neg y] at e;cases e
 have fr:∀a,s.heap.objs.size<=a->H a=none:=λa ha=>I.hok.fresh ha
 have J:qu X.prog X.w ↥145 h1 s.heap.objs.size (.lst []):=⟨aG _,[],0,.nil,eD⟩
 have r:∀x c,X.env.cells.lookup x=some c->∀v,s.heap.IsCell c v->h1.IsCell c v:=λx c _ v ⟨o,Z,hd⟩=>⟨o,k c o Z,hd⟩
 refine ⟨ok,rfl,I.bare,Un.laid k (ar _) (fr _ (ar _)),⟨_,hn,λi x v e1 h e3=>?_⟩,λx c e=>?_,?_,λx c e=>?_,λp V=>absurd (show p∈([]:List (Addr×Obj)) from V) (by simp),I.hok.laid k (ar _) J,?_⟩
 ·-- ae L ac
  have P:N[i]? = some x:=e1
  have hi:own<=i:=by
   by_cases hi:own<=i
   ·exact hi
   ·unfold ve at h
    rw [cV ↥69,ml] at h
    split at h <;> cases h
  obtain ⟨j',rfl⟩:∃j',i=own+j':=⟨i-own,∅⟩
  have g:(caps.map λj=>(σ[j]?).getD none)[j']? = some (some v):=by
   unfold ve at h
   rw [bX (by simp)] at h
   simpa using h
  rw [ay] at g
  cases K:caps[j']? with
  | none=>rw [K] at g;cases g
  | some j =>
   rw [K] at g
   have n:(σ[j]?).getD none=some v:=aT g
   have e4:σ[j]? = some (some v):=by
    cases q:σ[j]? with
    | none=>rw [q] at n;cases n
    | some z=>rw [q] at n;exact congrArg some n
   have T:(x,j)∈(N.drop own).zip caps:=by
    refine aA (i:=j') ?_
    rw [List.getElem?_zip_eq_some]
    exact ⟨by rw [eL];exact P,K⟩
   obtain ⟨c1,M⟩:=S.cap _ T
   obtain ⟨_,hk⟩:=S.fre _ M rfl
   have B:X.env.kindOf x=some .cell\/X.env.kindOf x=some .free:=by unfold t6;rw [Y];exact hk
   obtain ⟨m,y,hl⟩:=I.loc
   obtain ⟨u,Q,l⟩:=hl j x v (by rw [hN];exact c1) e4 (by
    rcases B with z | z
    ·exact .inr (.inl z)
    ·exact .inr (.inr z))
   refine ⟨u,Q,?_⟩
   rcases l with ⟨t,_⟩ | ⟨_,c,O,R⟩
   ·rcases B with z | z
    ·rw [z] at t;cases t
    ·rw [z] at t;cases t
   ·refine .inr ⟨?_,c,by show U.lookup x=some c;rw [G x,if_pos M];exact O,r x c O _ R⟩
    rcases e3 with z | z
    ·obtain ⟨k',A,d⟩:=yK (env:=X.env) z
     have:=(S.fre _ M rfl).1
     rw [A] at this
     cases this
     rcases d with d | d
     ·cases d
     ·cases d.2
    ·exact z
 ·obtain ⟨v,z⟩:=I.cell x c (f x c e).1
  exact ⟨v,r x c (f x c e).1 v z⟩
 ·show upd H s.heap.objs.size (.lst []) ↥16=none
  rw [j7 (cN (iJ _))]
  exact fr _ E
 ·have A:=(f x c e).1
  obtain ⟨v,z⟩:=I.cell x c A
  rw [j7 (aB z.lt)]
  exact I.freeC x c A
 ·unfold ve
  show _=N.length
  rw [ao,fh,ah,S.len]
structure BlockAt (X:Cx) (pins:List (Addr×Obj)) (H:Hp) (C:Addr):Prop where
 free:H C=none
 loc:C≠X.env.locals
 new:X.s₀.heap.objs.size<=C
 cell:∀x c,X.env.cells.lookup x=some c->c≠C
 pin:∀p∈X.pn++pins,p.1≠C
theorem BlockAt.gone {s:Shared}(B:BlockAt X pins H C) (I:Inv X pins σ H s) (hs:eI C s.heap h'):Inv X pins σ H { s with heap:=h' } :=
 I.turned (t':=s.toks) (λb o a e=>(hs.2 b a).trans e) B.free B.loc (.inr B.new) B.cell B.pin
theorem QF {scope:Scope}{own:Nat}{G:List (Str×Addr)}{tg elt iter:Expr}{ti:TT}{te:TE}{H:Hp}{s:Shared}{j:List Addr}
    {Q:VK} {RR:aj->Addr->nH->Shared->Prop} 
  (hc:X.calm=true) (S:CompSc osc ON scope own N caps) (a1:X.env.scope=osc) (hN:X.N=ON) (a3:∀x,G.lookup x=if (x,bc)∈scope.names then X.env.cells.lookup x else none)
  (hg:∀G C s H ex,PG ↥34 tg g) (a2:∀G C s H ex,gL ↥34 ifs ti) (he:∀G C s H ex,PE ↥34 elt te)
  (I:Inv X pins σ H s) (T:Turn X.prog X.w X.K tg J j it tn) (st:tn 0 s.heap) (hf:∀b∈j,yy X pins H b)
  (hw:∀acc,H acc=none->∃W:Nat->Nat->St->Hp->Prop,↥132/\∀i m U H',W i m U H' ->
   (J.stop i H'/\Q (.ref acc) H')\/(J.go i H'/\∃NX:St->Hp->Prop,↥82 /\
    ∀x H2,J.yld i H' x H2->g x U H2 λY H3=>ti Y H3 λok H4=>if ok=true then te Y H4 λv H5=>∃ys,H5 acc=some (.lst ys)/\ys.length<sizeLine/\NX Y (upd H5 acc ↥68) else NX Y H4))
  (a7:∀(D C:Addr) (H':Hp) (s':Shared),Inv X pins σ H' s'->BlockAt X pins H' C->(∃m,s'.heap.Ns C m)->Q (.ref D) H'->RR (.ref D) C (.ok .next) s') :
  ax ↥3 X.A (pV []) (λacc s₃=>ax ↥3 X.A (nK scope X.env.globals G [] X.env.qual none .none (some X.env)) (λab s₄ =>
   cO ↥3 X.A (.compStart ↥19 0 (.ref it) acc { ab with scope:=A2 scope X.env }) (RR acc ab.locals) s₄) E s₃) E s:=by
 have am:∀b∈j,b<s.heap.objs.size:=λb a=>by
  obtain ⟨o,e,_⟩:=T.obj _ _ st b a
  exact av e
 refine bS (iR S.nocell (by intro y hy;simp at hy) (λh₁ h f=>?_) S.kind)
 dsimp only at h f ⊢
 generalize O:s.heap.push { cls:=.type "list",dict:=none,data:=.seq ([]:List aj).toArray }=H2 at h f ⊢
 have P:H2.objs.size=s.heap.objs.size+1:=by rw [<- O,cB]
 have al:∀b o,s.heap.get? b=some o->h₁.get? b=some o:=λb o e=>f.extBut b o (aB (by rw [P];exact cf (av e))) (ai _ (O ▸ ai _ e))
 have eD:h₁.get? s.heap.objs.size=some { cls:=.type "list",data:=.seq #[] }:=f.extBut _ _ (aB ∅) (ai _ (O ▸ az _ rfl))
 have a5:H s.heap.objs.size=none:=I.hok.fresh (ar _)
 obtain ⟨W,⟨m0,w0⟩,ap⟩:=hw s.heap.objs.size a5
 have a0:h₁.Ns H2.objs.size λ_=>none:=h
 have I1:Inv ↥43 [] (ve own caps σ) ↥145 { s with heap:=h₁,toks:=s.toks+([]:List (Str×aj)).length } :=
  vn S a1 hN a3 I hf am rfl P al eD a0 _
 have ae:tn 0 h₁:=T.keep 0 _ _ st λb _ o e=>al b o e
 have R:∀{H':Hp},(∀b∈j,H' b=none)->∀b∈j,yy ↥43 [] H' b:=λ{H'} hn b a=>by
  have ok:=I1.ok
  exact ⟨hn b a,(ok.exf b a).1,ok.exfs b a,.inl a,(ok.exf b a).2,λp hp=>absurd (show p∈([]:List (Addr×Obj)) from hp) (by simp)⟩
 have aL:∀{U:St} {H':Hp} {s':Shared},Inv ↥43 [] U H' s'->Q ↥11 H'->RR ↥11 H2.objs.size (.ok .next) s':=λ{U H' s'} t q=>by
  have J2:Inv X pins σ H' s':=I.call' (ch:=j) t.os t.base t.hok t.bare λb a=>⟨(hf b a).2.2.2.1,(hf b a).2.1,(hf b a).2.2.2.2.1,(hf b a).2.2.2.2.2⟩
  obtain ⟨m,hm,_⟩:=t.loc
  refine a7 _ _ H' s' J2 ⟨t.free,cN (aQ I.lt ∅),aI I.sz ∅,λx c e z=>?_,λp hp z=>?_⟩ ⟨m,hm⟩ q
  ·obtain ⟨v,y⟩:=I.cell x c e
   have h1:H2.objs.size<s.heap.objs.size:=z ▸ y.lt
   exact absurd h1 ∅
  ·have h1:H2.objs.size<s.heap.objs.size:=z ▸ av (I.pin p hp).1
   exact absurd h1 ∅
 have M:∀s₃:Shared,s₃={ s with heap:=h₁,toks:=s.toks+([]:List (Str×aj)).length } ->
   cO ↥3 X.A (.compLoop ↥19 0 (.ref it) ↥11 (pS scope G H2.objs.size X.env)) (RR ↥11 H2.objs.size) s₃:=by
  rintro s₃ rfl
  refine wE (λn s'=>∃i U H',Inv ↥43 [] U H' s'/\tn i s'.heap/\(∀b∈j,H' b=none)/\W i n U H') ?_ m0
   ⟨0,_,_,I1,ae,λb a=>by rw [j7 (aB (am b a))];exact (hf b a).1,w0⟩
  rintro n s3 ⟨i,Y,H3,I3,ac,an,w3⟩
  rcases ap i n Y H3 w3 with ⟨as,qn⟩ | ⟨go,NX,a4,step⟩
  ·refine thn (T.done ↥43 rfl rfl rfl hc i [] s3 Y H3 _ I3 (R an) ac as) λr s4 ⟨hr,I4⟩=>?_
   subst hr
   exact aL I4 qn
  ·refine thn (T.item ↥43 rfl rfl rfl hc i [] s3 Y H3 _ I3 (R an) ac go) λr s4 ⟨u,hr,h4⟩=>?_
   subst hr
   refine thn h4 λ_ s5 ⟨x,H5,I5,r5,y5,L,a6⟩=>?_
   have a8:=I5.pinned (R a6) (T.obj _ _ L)
   refine thn (hg G H2.objs.size s H j _ s5 Y H5 x u _ a8 r5 (step x H5 y5)) λ_ s6 ⟨Z,H6,I6,q6⟩=>?_
   refine thn (a2 G H2.objs.size s H j _ s6 Z H6 _ I6 q6) λok s7 ⟨H7,I7,q7⟩=>?_
   have again:∀{l:Shared} {B:St} {k:Hp},Inv ↥43 ([]++zd j s5.heap) B k l->NX B k->∃m,m<n/\∃i U H',Inv ↥43 [] U H' l/\tn i l.heap/\(∀b∈j,H' b=none)/\W i m U H':=λ{l B k} V n8=>by
    obtain ⟨m',hm,w8⟩:=a4 B k n8
    refine ⟨m',hm,i+1,B,k,V.unpinned,T.keep _ _ _ L λb a o e=>(V.pin (b,o) ↥101).1,λb a=>?_,w8⟩
    obtain ⟨o,e,d⟩:=T.obj _ _ L b a
    exact (V.pin (b,o) ↥101).2.1
   cases ok with
   | false =>
    rw [if_neg au] at q7 ⊢
    exact again I7 q7
   | true =>
    rw [if_pos rfl] at q7 ⊢
    refine thn (he G H2.objs.size s H j _ s7 Z H7 _ I7 q7) λv l ⟨y,k,V,r8,ys,e8,z8,q8⟩=>?_
    refine thn (jY _ l Z k ↥11 [y] _ [v] (λ_ H9=>NX Z H9) V rfl (.cons r8 .nil) ⟨_,ys,y,rfl,rfl,e8,z8,q8⟩) λ_ s9 ⟨_,H9,I9,_,q9⟩=>?_
    exact again I9 q9
 exact ic (M _ rfl) (T.self _ 0 _ _ _ ae (M _ rfl))
theorem Qi {scope:Scope}{own:Nat}(S:CompSc osc ON scope own N caps) (j:X.env.scope=osc) (I:Inv X pins σ H s) :
  ∀x∈scope.names,x.2 = .free->∃c,X.env.cells.lookup x.1=some c:=λx a b=>I.ok.has x.1 (by unfold t6;rw [j];exact (S.fre x a b).2)
theorem qd {own:Nat}(S:CompSc osc ON scope own N caps)
  (hc:X.calm=true) (z:X.env.scope=osc) (hN:X.N=ON) (hi:PI X tg iter U)
  (hg:∀j C s H ex,PG ↥14 tg g) (G:∀j C s H ex,gL ↥14 ifs Y) (he:∀j C s H ex,PE ↥14 elt te)
  (hs:∀x,cc iter X.env x=pure x:=by intro _;rfl):PE X ↥19 (VX own caps U g Y te):=by
 intro pins s σ H Q I h
 obtain ⟨j,a,d⟩:=yT (Qi S z I)
 rw [oK]
 refine dR (use:=none) rfl hs a S.kind S.loc ↥111
 obtain ⟨it,t,p,J,H2,e,n,T,b,k,f⟩:=h2
 subst e
 refine QF (RR:=λacc C=>t7 ↥3 X.A X.xe none ↥61 acc C) hc S z hN d hg G he n T b k f λD C H' s' l B ⟨m,i⟩ q=>?_
 exact ⟨m,i,λh' c=>⟨.ref D,H',B.gone l c,rfl,q⟩⟩
theorem JT {own:Nat}{j:Nat}{U:Pos}(S:CompSc osc ON scope own N caps)
  (ae:X.N.Nodup) (hj:X.N[j]? = some y) (hy:Loc X.env.scope y)
  (hc:X.calm=true) (ab:X.env.scope=osc) (hN:X.N=ON) (hi:PI X tg iter wi)
  (hg:∀G C s H ex,PG ↥34 tg g) (al:∀G C s H ex,gL ↥34 ifs ti) (he:∀G C s H ex,PE ↥34 elt te)
  (ac:lA ↥19 (some (.Name y Y)) U.line X.env=pure true:=by rfl)
  (hf:X.fn y=true\/X.env.scope.names.lookup y=some .local:=by first | exact .inl rfl | exact .inr rfl | assumption)
  (hs:∀x,cc iter X.env x=pure x:=by intro _;rfl):PS X (.Assign [.Name y Y] ↥19 U) (We (VX own caps wi g ti te) (uy j)):=by
 intro pins s σ H d I h
 obtain ⟨G,c,k⟩:=yT (Qi S ab I)
 rw [exec_Assign_Name_used _ _ _ _ ac]
 refine aa (cY (aa ?_))
 show ax _ X.A (do let _ <- comprehension ↥19 scope X.env _ (pV []) false (eval iter X.env) (some (iI (.Name y Y) X.env))) _ _ s
 refine aa (aZ (dR (use:=some (iI (.Name y Y) X.env)) (Q:=λ_ s'=>SP X pins d .next s') rfl hs c S.kind S.loc
  (thn (hi pins s σ H _ I h) λv s1 h1=>thn h1 λO o h2=>?_)) (λ_ s' r=>wpAny_pure (wpAny_pure r)) λ_ _ e=>e)
 obtain ⟨it,R,P,J,H2,e,M,T,f,E,p⟩:=h2
 subst e
 refine QF (Q:=λv H'=>d.nx (σ.set j (some v)) H') (RR:=λacc C=>t7 ↥3 X.A X.xe (some (iI (.Name y Y) X.env)) (λ_ s'=>SP X pins d .next s') acc C) hc S ab hN k hg al he M T f E p λD C H' s' L B ⟨m,t⟩ q=>?_
 show ax _ X.A (iI (.Name y Y) X.env (.ref D)) _ _ s'
 refine pC (JP (v:=V.ref D) L ae hj hy rfl (λo K ⟨a,b,u⟩=>?_) hf)
 have l:C≠a:=by
  rcases u with z | z
  ·rw [z];exact B.loc
  ·exact λn=>B.cell y a z n.symm
 exact ⟨m,t.sameBut b l,λh' i=>⟨_,H',B.gone K i,q⟩⟩
end
theorem qv {K:ag}{xs:List V}{g:TG}{ti:TT}{te:TE}{R:Hp->Prop}{σ:St}{H:Hp}(Pv:Nat->St->Hp->Prop) (h0:Pv 0 σ H) (hl:∀i σ H,i<=xs.length->Pv i σ H->SqL K H a xs)
  (hs:∀i x σ H,xs[i]? = some x->Pv i σ H->g x σ H λj Y=>ti j Y λok G=>if ok=true then te j G λv z=>∃ys,z acc=some (.lst ys)/\ys.length<sizeLine/\Pv (i+1) j (upd z acc ↥68) else Pv (i+1) j G)
  (hd:∀σ H,Pv xs.length σ H->R H) :
  ∃W:Nat->Nat->St->Hp->Prop,↥76/\∀i m I H',W i m I H' ->
   ((Itl K a).stop i H'/\R H')\/((Itl K a).go i H'/\∃U:St->Hp->Prop,↥62 /\
    ∀x H2,(Itl K a).yld i H' x H2->g x I H2 λj Y=>ti j Y λok G=>if ok=true then te j G λv z=>∃ys,z acc=some (.lst ys)/\ys.length<sizeLine/\U j (upd z acc ↥68) else U j G):=by
 refine ⟨λi m σ H=>m=xs.length-i/\i<=xs.length/\Pv i σ H,⟨xs.length,by simp,aG _,h0⟩,?_⟩
 rintro i m σ H ⟨rfl,hi,p⟩
 have q:=hl i σ H hi p
 by_cases b:i<xs.length
 ·refine .inr ⟨⟨xs,xs[i],q,by simp [b]⟩,Pv (i+1),λI H' c=>⟨xs.length-(i+1),∅,rfl,b,c⟩,λx H' y=>?_⟩
  obtain ⟨e,y⟩:=y
  subst e
  exact hs i x σ _ (y xs q) p
 ·have e:i=xs.length:=∅
  subst e
  exact .inl ⟨⟨xs,q,ar _⟩,hd σ H p⟩
theorem Xx {K:ag}{xs:List V}{g:TG}{ti:TT}{te:TE}{R:Hp->Prop}{σ:St}{H:Hp}(Pv:Nat->St->Hp->Prop) (h0:Pv 0 σ H) (hl:∀i σ H,i<=xs.length->Pv i σ H->SqT K H a xs)
  (hs:∀i x σ H,xs[i]? = some x->Pv i σ H->g x σ H λj Y=>ti j Y λok G=>if ok=true then te j G λv z=>∃ys,z acc=some (.lst ys)/\ys.length<sizeLine/\Pv (i+1) j (upd z acc ↥68) else Pv (i+1) j G)
  (hd:∀σ H,Pv xs.length σ H->R H) :
  ∃W:Nat->Nat->St->Hp->Prop,↥76/\∀i m I H',W i m I H' ->
   ((Itt K a).stop i H'/\R H')\/((Itt K a).go i H'/\∃U:St->Hp->Prop,↥62 /\
    ∀x H2,(Itt K a).yld i H' x H2->g x I H2 λj Y=>ti j Y λok G=>if ok=true then te j G λv z=>∃ys,z acc=some (.lst ys)/\ys.length<sizeLine/\U j (upd z acc ↥68) else U j G):=by
 refine ⟨λi m σ H=>m=xs.length-i/\i<=xs.length/\Pv i σ H,⟨xs.length,by simp,aG _,h0⟩,?_⟩
 rintro i m σ H ⟨rfl,hi,p⟩
 have q:=hl i σ H hi p
 by_cases b:i<xs.length
 ·refine .inr ⟨⟨xs,xs[i],q,by simp [b]⟩,Pv (i+1),λI H' c=>⟨xs.length-(i+1),∅,rfl,b,c⟩,λx H' y=>?_⟩
  obtain ⟨e,y⟩:=y
  subst e
  exact hs i x σ _ (y xs q) p
 ·have e:i=xs.length:=∅
  subst e
  exact .inl ⟨⟨xs,q,ar _⟩,hd σ H p⟩
theorem xj {lo:Int}{n:Nat}{g:TG}{ti:TT}{te:TE}{R:Hp->Prop}{σ:St}{H:Hp}(Pv:Nat->St->Hp->Prop) (h0:Pv 0 σ H)
  (hs:∀i σ H,i<n->Pv i σ H->g (.int (lo+i)) σ H λj Y=>ti j Y λok G=>if ok=true then te j G λv z=>∃ys,z acc=some (.lst ys)/\ys.length<sizeLine/\Pv (i+1) j (upd z acc ↥68) else Pv (i+1) j G)
  (hd:∀σ H,Pv n σ H->R H) :
  ∃W:Nat->Nat->St->Hp->Prop,↥76/\∀i m I H',W i m I H' ->
   ((Itr lo n).stop i H'/\R H')\/((Itr lo n).go i H'/\∃U:St->Hp->Prop,↥62 /\
    ∀x H2,(Itr lo n).yld i H' x H2->g x I H2 λj Y=>ti j Y λok G=>if ok=true then te j G λv z=>∃ys,z acc=some (.lst ys)/\ys.length<sizeLine/\U j (upd z acc ↥68) else U j G):=by
 refine ⟨λi m σ H=>m=n-i/\i<=n/\Pv i σ H,⟨n,by simp,aG _,h0⟩,?_⟩
 rintro i m σ H ⟨rfl,hi,p⟩
 by_cases a:i<n
 ·refine .inr ⟨a,Pv (i+1),λI H' b=>⟨n-(i+1),∅,rfl,a,b⟩,λx H' y=>?_⟩
  obtain ⟨e,y⟩:=y
  subst e y
  exact hs i σ _ a p
 ·have e:i=n:=∅
  subst e
  exact .inl ⟨ar _,hd σ H p⟩
end L2
end
section
namespace L2
structure Cal (P:Program) (w:bo) (K:ag) (mg:Str->Option aj) (base:Heap) (k:Nat) (x:Str) (ps:List Str) (sp:Sp):Prop where
 ex:∃f fd,FnOk P w K mg base CX0 k f fd ps sp/\yB K fd ps []/\mg x=some (.ref f)/\bR K (.ref f)=true
theorem je {X:Cx}{k:Nat}{e:Expr}{es:List Expr}{t:TA}{pos:Pos}(c:Cal X.prog X.w X.K X.mg X.base k x ps sp) (G:Room k X.A) (I:Gl X x) (Y:PA X (e::es) t)
  (z: ↥22=false:=by decide) (U:aR (e::es) X.env=↥40::aR es X.env:=by rfl) (j: (↥66).any (·.1)=false:=by rfl) :
  PE X ↥65 (Wp sp [] E0 t):=by
 obtain ⟨f,fd,F,d,a,b⟩:=c.ex
 exact UM F G I a b d .nil Ws Y z U j
theorem Cal.mk' {w:bo}{K:ag}{mg:Str->Option aj}{base:Heap}{k:Nat}{x:Str}{ps:List Str}{st:Stmt}{f:Addr}{oc:aj}{od I:Option Addr}{U:Array (Option aj)}{kV doc pm j z:aj}
  (X:K.In h) (G:h.Ns mainGlobals mg) (a:aW K mainGlobals x=some (some (.ref f)))
  (l:K.lookup f=some ⟨oc,od,.func ↥39,U⟩) (c:cC K j x=true) (Y:bR K (.ref f)=true)
  (hb:∀(kV doc pm:aj) (I:Option Addr) (j z:aj) (us:List aj),us.length=ps.length->cG ↥39 ⟨us,[]⟩=pure (ps.zip us))
  (ok:∀{f:Addr} {fd:FuncData},Fun K x x st f fd->FnOk P w K mg base CX0 k f fd ps sp):Cal P w K mg base k x ps sp:=by
 have F:=vz (st:=st) l c Y
 exact ⟨f,_,ok F,F.binds hb,bh X G a,Y⟩
section
variable {X:Cx}
inductive cI_call_isinst (K:ag) (xs:List V) (H:Hp) (Q:VK):Prop
 | mk (x:_) (n:_) (t:_) (b:_) (_:xs=[x,.ty n]) (_:TyOf K H x t) (_:bb K t (.type n)=some b) (_:Q (.bl b) H)
theorem Xg:xl X (.builtin "isinstance") (cI_call_isinst X.K):=by
 intro pins s σ H xs f Q I r h
 obtain ⟨x,n,t,b,rfl,ty,e,q⟩:=h
 obtain ⟨u,a,rfl,d,c⟩:=Y2 r
 cases (show a=iH n from c)
 exact Y7 I d ty e λtk=>⟨.bl b,H,I.tok tk,rfl,q⟩
noncomputable def Wr (i j:Int):Prop:=0<j/\j<2 ^ 200
theorem uL:OpR X (fj .FloorDiv) (rI Wr λi j=>.int (i / j)):=opI λi j _ _ _ _ _ a q=>by
 have h1:(0:Int)<j:=a.1
 have h2:j<2 ^ 200:=a.2
 refine floordiv_int ∅ (by rw [Int.fdiv_eq_ediv_of_nonneg i ∅];exact q) (.inl (PyProof.noPylong_of_log2 ?_))
 have c:j.natAbs<2 ^ 200:=∅
 have b:j.natAbs≠0:=∅
 have:=(Nat.log2_lt b).mpr c
 omega
inductive cI_call_all (K:ag) (xs:List V) (H:Hp) (Q:VK):Prop
 | mk (p:Addr) (bs:List Bool) (_:xs=[.ref p]) (_:SqL K H p (bs.map V.bl)) (_:Q (.bl (bs.all λb=>b)) H)
theorem Vo (G:X.calm=true):xl X (.builtin "all") (cI_call_all X.K):=by
 intro pins s σ H xs C Q I r h
 obtain ⟨p,bs,rfl,w,q⟩:=h
 obtain ⟨u,rfl,t⟩:=vv r
 cases t
 obtain ⟨a,k,pl,D⟩:=I.list w
 have l:p≠s.heap.objs.size:=by
  obtain ⟨o,n,e,_⟩:=id pl
  exact aB (av e)
 have j:a.length=bs.length:=by rw [<- k.length,ah]
 have d:∀i v,a[i]? = some v->∃b,bs[i]? = some b/\v=mz b:=λi v e=>by
  have hi:i<a.length:=(List.getElem?_eq_some_iff.mp e).1
  have c:(bs.map V.bl)[i]? = some (V.bl (bs[i]'∅)):=by rw [ay,af ∅];rfl
  obtain ⟨u,h1,h2⟩:=k.get c
  rw [e] at h1
  cases h1
  exact ⟨bs[i]'∅,af ∅,h2⟩
 refine call_all_walk (d6 pl.isList ?_)
 refine ⟨s.heap.objs.size,_,_,_,_,_,λi=>bs.getD i true,rfl,Walks.list (show (X.A.in1).handled=none from I.ok.hd G) s.heap.objs.size p l a.toArray,⟨⟨_,az _ rfl,rfl,rfl⟩,pl.isList.at λo e=>ai _ e⟩,?_,?_⟩
 ·intro i v s' B E y f
  obtain ⟨b,c,rfl⟩:=d i v (by simpa using y)
  have e:bs.getD i true=b:=by rw [aq,c];rfl
  have f:B (bs.getD i true) s':=f
  rw [e] at f
  exact bQ f
 ·intro h' tk x
  have e:((aJ a.toArray.size).all λi=>bs.getD i true)=bs.all λb=>b:=by
   rw [aw,j,dJ,bP,bP]
   constructor
   ·intro z b c
    obtain ⟨i,hi,rfl⟩:=List.mem_iff_getElem.mp c
    have:=z i (List.mem_range.mpr hi)
    rw [aq,af hi] at this
    exact this
   ·intro z i hi
    have g:=List.mem_range.mp hi
    rw [aq,af g]
    exact z _ (c7 g)
  rw [e]
  refine ⟨.bl _,H,I.kept (t':=tk) λb o m=>x b o (by
   intro z
   have:=List.mem_singleton.mp z
   subst this
   exact absurd (av m) (cK _)) (ai _ m),rfl,q⟩
end
noncomputable def kitT (a b:String):Option Bool:=if (iH a == iH b)=true then some true else if PySem.W.kitMeta b=true then (fastBuiltinMro a).map (·.contains (.type b)) else none
theorem qA (K:ag) (a b:String):bb K (.type a) (.type b)=kitT a b:=rfl
theorem wF (K:ag):bb K (.type "int") (.type "bool")=some false:=(qA K _ _).trans ↥41
theorem gP (K:ag):bb K (.type "int") (.type "int")=some true:=(qA K _ _).trans ↥41
theorem uN (K:ag):bb K (.type "bool") (.type "bool")=some true:=(qA K _ _).trans ↥41
theorem Qk (K:ag):bb K ↥138 (.type "bool")=some false:=(qA K _ _).trans ↥41
theorem QP (K:ag):bb K ↥138 (.type "int")=some false:=(qA K _ _).trans ↥41
theorem Xk (K:ag):bb K ↥138 (.type "str")=some false:=(qA K _ _).trans ↥41
theorem uw (K:ag):bb K ↥138 ↥138=some true:=(qA K _ _).trans ↥41
theorem vR (K:ag):bb K ↥138 (.type "tuple")=some false:=(qA K _ _).trans ↥41
theorem J9 (K:ag):bb K (.type "tuple") (.type "bool")=some false:=(qA K _ _).trans ↥41
theorem Qg (K:ag):bb K (.type "tuple") (.type "int")=some false:=(qA K _ _).trans ↥41
theorem Q5 (K:ag):bb K (.type "tuple") (.type "str")=some false:=(qA K _ _).trans ↥41
theorem vQ (K:ag):bb K (.type "tuple") ↥138=some false:=(qA K _ _).trans ↥41
theorem vB (K:ag):bb K (.type "tuple") (.type "tuple")=some true:=(qA K _ _).trans ↥41
noncomputable def Ext (b:Addr) (H H':Hp):Prop:=∀c o,H c=some o->c≠b->H' c=some o
theorem Ext.refl {b:Addr}:Ext b H H:=λ_ _ h _=>h
theorem Ext.trans {b:Addr}(x:Ext b H H1) (y:Ext b H1 H2):Ext b H H2:=λc o h n=>y c o (x c o h n) n
theorem Ext.of_same {b:Addr}(x:jm H H'):Ext b H H':=λc o h _=>x c o h
theorem Ext.put {b:Addr}:Ext b H (upd H b o):=λc _ h n=>by rw [j7 n];exact h
theorem jm.new {H:Hp}{p:Addr}(n:H p=none):jm H (upd H p o):=λc u h=>by rw [j7 (j1 h n)];exact h
theorem Ext.new {b:Addr}{H:Hp}{p:Addr}(n:H p=none):Ext b H (upd H p o):=Ext.of_same (jm.new n)
theorem Ext.free {b:Addr}(x:Ext b H H') {p:Addr}(h:H' p=none) (n:p≠b):H p=none:=by
 cases q:H p with
 | none=>rfl
 | some o=>rw [x p o q n] at h;cases h
end L2
end
section
namespace L2
section
variable {X:Cx}
theorem jf (K:ag) (h:X.K=K:=by rfl):IxR X (rIxL K):=by subst h;exact UA
theorem qM (K:ag) (h:X.K=K:=by rfl):IxR X (rIxT K):=by subst h;exact GI
theorem jg (K:ag) (h:X.K=K:=by rfl):xl X (.builtin "len") (cI_call_len_seq K):=by subst h;exact QA
theorem Z9 (K:ag) (h:X.K=K:=by rfl):OpR X (cg .In) (rIn K false):=by subst h;exact YJ
theorem zn (K:ag) (h:X.K=K:=by rfl):OpR X (cg .NotIn) (rIn K true):=by subst h;exact Qu
theorem qe (K:ag) (h:X.K=K:=by rfl):xl X (.builtin "isinstance") (cI_call_isinst K):=by subst h;exact Xg
theorem yG (K:ag) (j:X.calm=true) (h:X.K=K:=by rfl):xl X (.builtin "all") (cI_call_all K):=by subst h;exact Vo j
theorem jW (K:ag) (j:PE X l tl) (h:X.K=K:=by rfl):PI X tg l (ZO K tl):=by subst h;exact Uk j
theorem uG (K:ag) (j:PE X l tl) (h:X.K=K:=by rfl):PI X tg l (Ea K tl):=by subst h;exact Gm j
theorem qg {k:Nat}{t:TGs}{n:Nat}{pos:Pos}(K:ag) (G:X.calm=true) (h:PGs X es t)
  (z:(d9 es X.env).length=n:=by rfl) (j:(d9 es X.env).findIdx? (·.1)=none:=by rfl) (I:X.K=K:=by rfl):PG X (.Tuple es k pos) (gTup K n t):=by subst I;exact WS G h z j
theorem xZ {T id:String}{e:Expr}{es:List Expr}{t:TA}{apos cpos:Pos}(K:ag) (pa:oW T) (I:Slot T name id) (Y:oX (.builtin id)=pure (.type "method_descriptor")) (hm:MtR X id r) (ho:PE X o to) (ha:PA X (e::es) t)
  (G:dP o name X.env (eval o X.env)=eval o X.env:=by rfl)
  (U:((cM cpos (aR (e::es) X.env)).all (λx=>!x.1) && (lF cpos (fk [] X.env)).all (λx=>x.1.isSome)
   && decide ((e::es).length+([]:List mC).length+(if ([]:List mC).isEmpty then 0 else 1)<30))=true:=by rfl)
  (z: ↥144=true:=by rfl) (hs:aR (e::es) X.env=↥40::aR es X.env:=by rfl) (j:(cM cpos (aR es X.env)).any (·.1)=false:=by rfl) (hK:X.K=K:=by rfl) :
  PE X (.Call (.Attribute o name apos) (e::es) [] cpos) (tBM K T r to t):=by subst hK;exact GY pa I Y hm ho ha G U z hs j
end
noncomputable def New (H:Hp) (o:HO) (Q:VK):Prop:=∀p H',H p=none->H' p=some o->jm H H'->Q (.ref p) H'
theorem New.at (h:New H o Q):∀p,H p=none->Q (.ref p) (upd H p o):=λp n=>h p _ n j6 (jm.new n)
section
variable {X:Cx}{es:List Expr}{t:TA}{pos:Pos}
noncomputable def GV (t:TA):TE:=λσ H Q=>t σ H λxs H1=>xs.length<=sizeLine/\New H1 (.tup xs) Q
noncomputable def GP (t:TA):TE:=λσ H Q=>t σ H λxs H1=>xs.length<=sizeLine/\New H1 (.lst xs) Q
theorem jB {j}(h:PA X es t):PE X (.Tuple es j pos) (GV t):=by
 intro pins s σ H Q I d
 refine wpAny_Tuple_spliced (thn (h pos pins s σ H _ I d) λc s1 ⟨xs,H1,a,r,z,q⟩=>⟨by rw [<- r.length];exact z,?_⟩)
 have f:H1 s1.heap.objs.size=none:=a.hok.fresh (ar _)
 refine ⟨.ref s1.heap.objs.size,upd H1 s1.heap.objs.size (.tup xs),a.laid (t':=s1.toks) (λb u e=>ai _ e) (ar _) ?_,rfl,q.at _ f⟩
 exact ⟨z,c,r,⟨_,az _ rfl,rfl,_,rfl⟩⟩
theorem jD (h:PA X es t):PE X (.List es pos) (GP t):=by
 intro pins s σ H Q I d
 refine wpAny_List_spliced (thn (h pos pins s σ H _ I d) λc s1 ⟨xs,H1,a,r,z,q⟩=>⟨by rw [<- r.length];exact z,?_⟩)
 have f:H1 s1.heap.objs.size=none:=a.hok.fresh (ar _)
 refine ⟨.ref s1.heap.objs.size,upd H1 s1.heap.objs.size (.lst xs),a.laid (t':=s1.toks) (λb u e=>ai _ e) (ar _) ?_,rfl,q.at _ f⟩
 exact ⟨z,c,0,r,az _ rfl⟩
theorem OpR.weak {r':R2}(h:OpR X f r) (w:∀x y H Q,r' x y H Q->r x y H Q):OpR X f r':=λpins s σ H x y v u Q I b a q=>h pins s σ H x y v u Q I b a (w _ _ _ _ q)
theorem xl.weak {r':List V->Hp->VK->Prop}(h:xl X f r) (w:∀x H Q,r' x H Q->r x H Q):xl X f r':=λpins s σ H xs a Q I b q=>h pins s σ H xs a Q I b (w _ _ _ q)
theorem SlR.weak {r':V->Option Int->Option Int->Hp->VK->Prop}(h:SlR X r) (w:∀x lo hi H Q,r' x lo hi H Q->r x lo hi H Q):SlR X r':=λpins s σ H x v b a lo hi c Q I d f pl e q=>h pins s σ H x v b a lo hi c Q I d f pl e (w _ _ _ _ _ q)
inductive rCatN  (x:V) (y:V) (H:Hp) (Q:VK):Prop
 | mk (l:_) (b:_) (xs:_) (zs:_) (_:x = .ref l) (_:y = .ref b) (_:H l=some (.lst xs)) (_:H b=some (.lst zs)) (_:xs.length+zs.length<=sizeLine) (_:New H (.lst (xs++zs)) Q)
theorem Q9:OpR X (fj .Add) rCatN:=G3.weak λ_ _ _ _ ⟨l,b,xs,zs,h1,h2,d,c,a,q⟩=>⟨l,b,xs,zs,h1,h2,d,c,a,q.at⟩
inductive cI_call_list_ofN (K:ag) (xs:List V) (H:Hp) (Q:VK):Prop
 | mk (p:_) (ys:_) (_:xs=[.ref p]) (_:(SqL K H p ys\/SqT K H p ys)) (_:New H (.lst ys) Q)
theorem qS (K:ag) (h:X.K=K:=by rfl):xl X ↥138 (cI_call_list_ofN K):=by
 subst h
 exact Q0.weak λ_ _ _ ⟨p,ys,h1,h2,q⟩=>⟨p,ys,h1,h2,q.at⟩
inductive sI_sl_listN (K:ag) (x:V) (lo:Option Int) (hi:Option Int) (H:Hp) (Q:VK):Prop
 | mk (a:_) (xs:_) (_:x = .ref a) (_:SqL K H a xs) (_:New H (.lst (Qe xs lo hi)) Q)
theorem JQ (K:ag) (h:X.K=K:=by rfl):SlR X (sI_sl_listN K):=by
 subst h
 exact UK.weak λ_ _ _ _ _ ⟨a,xs,h1,h2,q⟩=>⟨a,xs,h1,h2,q.at⟩
end
theorem qk {A B:Prop} [Decidable p] (h1:p->A) (h2:¬p->B):if decide p=true then A else B:=by
 by_cases h:p
 ·rw [if_pos (decide_eq_true h)];exact h1 h
 ·rw [if_neg (by rw [decide_eq_false h];exact au)];exact h2 h
theorem zI {A B:Prop} [Decidable p] (h1:¬p->A) (h2:p->B):if (!decide p)=true then A else B:=by
 by_cases h:p
 ·rw [if_neg (by rw [decide_eq_true h];exact au)];exact h2 h
 ·rw [if_pos (by rw [decide_eq_false h];rfl)];exact h1 h
theorem qI {α:Type}{xs:List α}{i:Int}{v:α}(j:0<=i) (h:xs[i.toNat]? = some v):atI xs i=some v:=by
 obtain ⟨n,rfl⟩:=Int.eq_ofNat_of_zero_le j
 exact yb (by simpa using h)
theorem uh {ns:List Int}{i:Int}(j:0<=i) (h:i<ns.length):∃z,atI (ns.map V.int) i=some (.int z):=by
 refine ⟨ns[i.toNat]'∅,qI j ?_⟩
 rw [ay,af ∅]
 rfl
theorem vw {ns:List Int}{i:Nat}(h:(ns.map V.int)[i]? = some y):∃z,y=V.int z:=by
 rw [ay] at h
 cases e:ns[i]? with
 | none=>rw [e] at h;cases h
 | some z=>rw [e] at h;exact ⟨z,(aT h).symm⟩
inductive spMixed  (vs:List V) (H:Hp) (Q:VK) (z_3:XK):Prop
 | mk (a b:Int) (_:vs=[.int a,.int b]) (_:∀r:Int,Q (.int r) H)
inductive spWhole  (vs:List V) (H:Hp) (Q:VK) (z_3:XK):Prop
 | mk (i:Int) (_:vs=[.int i]) (_:Q (.bl true) H)
structure Nb (mg:Str->Option aj):Prop where
 b_len:mg "len" = none
 b_range:mg "range" = none
 b_isinstance:mg "isinstance" = none
 b_int:mg "int" = none
 b_bool:mg "bool" = none
 b_str:mg "str" = none
 b_list:mg "list" = none
 b_tuple:mg "tuple" = none
 b_min:mg "min" = none
 b_max:mg "max" = none
 b_all:mg "all" = none
 b_zip:mg "zip" = none
end L2
end
section
namespace L2
mutual
inductive Rep (M:Addr->Prop) (K:ag) (H:Hp):V->PyData->Prop
 | non:Rep M K H .non .none
 | bl (b:Bool):Rep M K H (.bl b) (.bool b)
 | int (i:Int):Rep M K H (.int i) (.int i)
 | str (x:Str):Rep M K H (.str x) (.str x)
 | tup {p:Addr} {vs:List V} {ds:List PyData}:¬M p->SqT K H p vs->RepL M K H vs ds->Rep M K H (.ref p) (.tuple ds)
 | lst {p:Addr} {vs:List V} {ds:List PyData}:¬M p->SqL K H p vs->RepL M K H vs ds->Rep M K H (.ref p) (.list ds)
inductive RepL (M:Addr->Prop) (K:ag) (H:Hp):List V->List PyData->Prop
 | nil:RepL M K H [] []
 | cons {v:V} {vs:List V} {d:PyData} {ds:List PyData}:Rep M K H v d->RepL M K H vs ds->RepL M K H (v::vs) (d::ds)
end
noncomputable def Vv (M:Addr->Prop) (H H':Hp):Prop:=∀c o,H c=some o->¬M c->H' c=some o
theorem Vv.of_same (x:jm H H'):Vv M H H':=λc o h _=>x c o h
theorem Rep.reads_all {X:Cx}{s:Shared}(I:Inv X pins σ H s) (h:RepL M X.K H vs ds) :
  ∀{us:List aj},jH vs us->∃as,ReadsAll s.heap us ds as:=by
 refine RepL.rec (M:=M) (K:=X.K) (H:=H) (motive_1:=λv d _=>∀u,jJ v u->∃as,Reads s.heap u d as) (motive_2:=λvs ds _=>∀{us:List aj},jH vs us->∃as,ReadsAll s.heap us ds as)
  ?_ ?_ ?_ ?_ ?_ ?_ ?_ ?_ h
 ·intro u r;cases r;exact ⟨_,Reads.none⟩
 ·intro b u r;cases r;exact ⟨_,Reads.bool b⟩
 ·intro i u r;obtain ⟨t,rfl⟩:=r;exact ⟨_,Reads.int i t⟩
 ·intro x u r;obtain ⟨t,rfl⟩:=r;exact ⟨_,Reads.str x t⟩
 ·intro p vs ds n g _ f u r
  cases r
  obtain ⟨j,a,⟨o,e,c,k,d⟩,_⟩:=I.tuple g
  obtain ⟨as,q⟩:=f a
  exact ⟨as,reads_tuple_at e c d (by simpa using q)⟩
 ·intro p vs ds n g _ f u r
  cases r
  obtain ⟨j,a,⟨o,k,e,c,_,d⟩,_⟩:=I.list g
  obtain ⟨as,q⟩:=f a
  exact ⟨_,reads_list_at e c d (by simpa using q)⟩
 ·intro us r;cases r;exact ⟨_,ReadsAll.nil⟩
 ·intro v vs d ds _ _ m l us r
  cases r with
  | cons y w =>
   obtain ⟨as,q⟩:=m _ y
   obtain ⟨bs,z⟩:=l w
   exact ⟨_,ReadsAll.cons q z⟩
theorem Rep.reads {X:Cx}{s:Shared}(I:Inv X pins σ H s) (h:Rep M X.K H v d) (r:jJ v u):∃as,Reads s.heap u d as:=by
 obtain ⟨as,q⟩:=Rep.reads_all I (RepL.cons h .nil) (Paired.cons r .nil)
 cases q with
 | cons a b=>exact ⟨_,a⟩
section
variable {X:Cx}
inductive rEqD (K:ag) (x:V) (y:V) (H:Hp) (Q:VK):Prop
 | mk (M M':Addr->Prop) (d e:PyData) (_:Rep M K H x d) (_:Rep M' K H y e) (_:mH d=true) (_:mH e=true) (_:Q (.bl (PyData.eqv d e)) H)
theorem WB (j:X.A.units+64<cLine):OpR X (cg .Eq) (rEqD X.K):=by
 intro pins s σ H x y v u Q I c b h
 obtain ⟨M,k,d,e,h1,h2,s1,a,q⟩:=h
 obtain ⟨i,g⟩:=h1.reads I c
 obtain ⟨bs,f⟩:=h2.reads I b
 exact eq_dataH g f s1 a j ⟨.bl _,H,I,rfl,q⟩
end
end L2
end
section
namespace L2
noncomputable def tCut (t u:TS):TS:=λD σ H=>∃P:St->Hp->Prop,t { D with nx:=P } σ H/\∀a H',P a H'->u D a H'
theorem zO {st:Stmt}{xI:List Stmt}{t:TS}(h1:PS X st t) (h2:PSs X xI u):PSs X (st::xI) (tCut t u):=by
 intro pins s σ H D I h
 obtain ⟨P,h,b⟩:=h
 refine me (thn (h1 pins s σ H { D with nx:=P } I h) λf s1 q=>?_)
 cases f with
 | next =>
  obtain ⟨a,H',c,q⟩:=q
  exact h2 pins s1 a H' D c (b _ _ q)
 | ret v=>exact q
 | brk=>exact q
 | cont=>exact q
section
variable {X:Cx}
inductive rCatTA  (x:V) (y:V) (H:Hp) (Q:VK):Prop
 | mk (a:_) (b:_) (xs:_) (ys:_) (_:x = .ref a) (_:y = .ref b) (_:H a=some (.tup xs)) (_:H b=some (.tup ys)) (_:xs.length+ys.length<=sizeLine) (_:∀p H',jm H H'->H' p=some (.tup (xs++ys))->Q (.ref p) H')
theorem VR:OpR X (fj .Add) rCatTA:=by
 intro pins s σ H x y v u Q I l k h
 obtain ⟨a,b,xs,ys,rfl,rfl,i,g,G,q⟩:=h
 by_cases o:xs=[]
 ·subst o
  cases l
  cases k
  obtain ⟨m,C,D,_⟩:=I.tuple (SqT.of i)
  obtain ⟨f,M,p2,_⟩:=I.tuple (SqT.of g)
  have hi:m=[]:=C.nil_iff.mpr rfl
  subst hi
  obtain ⟨⟨cls,J,K,B⟩,r,w,n,t⟩:=id D
  obtain ⟨⟨L,A,data2,j⟩,c,e,E,d⟩:=id p2
  simp only at w t e d
  subst w t e d
  exact pQ ⟨_,r,rfl⟩ ⟨_,c,rfl⟩ mm oH i9 fX (fO _ _)
   (tuple_addW0 a b #[] f.toArray n E J A B j (by simp)) ⟨r,c,⟨.ref b,H,I,rfl,q b H (jm.refl H) g⟩⟩
 ·refine Uy pins s σ H (.ref a) (.ref b) v u Q I l k ⟨a,b,xs,ys,rfl,rfl,SqT.of i,SqT.of g,o,G,λz=>?_,λ_ p n=>q p _ (jm.new n) j6⟩
  subst z
  exact q a H (jm.refl H) (by rw [aF];exact i)
end
theorem US {X:Cx}(K:ag) (j:X.A.units+64<cLine) (h:X.K=K:=by rfl):OpR X (cg .Eq) (rEqD K):=by subst h;exact WB j
noncomputable def qc (L:Addr) (H:Hp) (b:Addr):Prop:=∃(e:List Int) (a r c d:Int),H b=some (.lst [.ref L,.int a,.int r,.int c,.int d])/\L≠b/\H L=some (.lst (e.map V.int))/\0<=a
theorem qc.same {b:Addr}(B:qc L H b) (s:jm H H'):qc L H' b:=by
 obtain ⟨e,a,r,c,d,h1,h2,g,f⟩:=B
 exact ⟨e,a,r,c,d,s _ _ h1,h2,s _ _ g,f⟩
theorem qc.ext {b acc:Addr}(B:qc L H b) (n:acc≠b) (m:acc≠L) (e:Ext acc H H'):qc L H' b:=by
 obtain ⟨f,a,r,c,d,h1,h2,h,g⟩:=B
 exact ⟨f,a,r,c,d,e _ _ h1 n.symm,h2,e _ _ h m.symm,g⟩
theorem qc.put {b acc:Addr}(B:qc L H b) (n:acc≠b) (m:acc≠L):qc L (upd H acc o) b:=B.ext n m Ext.put
theorem qc.ne {b p:Addr}(B:qc L H b) (n:H p=none):p≠b:=by
 obtain ⟨e,a,r,c,d,h1,h2,g,f⟩:=B
 exact (j1 h1 n).symm
theorem qc.neL {b p:Addr}(B:qc L H b) (n:H p=none):p≠L:=by
 obtain ⟨f,a,r,c,d,h1,h2,e,g⟩:=B
 exact (j1 e n).symm
theorem qc.ne_tup {b p:Addr}{xs:List V}(B:qc L H b) (n:H p=some (.tup xs)):p≠b:=by
 obtain ⟨e,a,r,c,d,h1,h2,g,f⟩:=B
 exact jo n h1 ↥44
inductive spTakeL  (vs:List V) (H:Hp) (Q:VK) (z_3:XK):Prop
 | mk (L b:Addr) (n:Int) (_:vs=[.ref b,.int n]) (_:qc L H b) (_:(0<n/\n<2 ^ 200)) (_:∀(v:Int) (H':Hp),0<=v->v<n->qc L H' b->Ext b H H'->Q (.int v) H')
inductive spBoxL (K:ag) (vs:List V) (H:Hp) (Q:VK) (z_3:XK):Prop
 | mk (a:Addr) (ns:List Int) (_:vs=[.ref a]) (_:SqL K H a (ns.map V.int)) (_:∀(L b:Addr) (H':Hp),H b=none->qc L H' b->jm H H'->Q (.ref b) H')
noncomputable abbrev T3:=Int×Int×Int
noncomputable abbrev yW (t:T3):HO:=.tup [.int t.1,.int t.2.1,.int t.2.2]
noncomputable def Gr (H:Hp) (v:V) (t:T3):Prop:=∃p,v = .ref p/\H p=some (yW t)
noncomputable def jN (H:Hp) (vs:List V) (ts:List T3):Prop:=cU (Gr H) vs ts
theorem jN.length {ts:List T3}(r:jN H vs ts):vs.length=ts.length:=aM r
theorem jN.get :∀{vs:List V}{ts:List T3}{i:Nat}{v:V},jN H vs ts->vs[i]? = some v->∃t,ts[i]? = some t/\Gr H v t
 | _,_,_,_,.nil,e=>by simp at e
 | _,_,0,_,.cons r _,e=>by simp at e;subst e;exact ⟨_,rfl,r⟩
 | _,_,i+1,v,.cons _ t,e=>by
  obtain ⟨d,h1,h2⟩:=jN.get (i:=i) (v:=v) t (by simpa using e)
  exact ⟨d,by simpa using h1,h2⟩
theorem jN.imp {H':Hp}{ts:List T3}(r:jN H vs ts) (h:∀p t,H p=some (yW t)->H' p=some (yW t)):jN H' vs ts :=
 Paired.mapP r λ_ t ⟨p,e,q⟩=>⟨p,e,h p t q⟩
theorem jN.snoc {ts:List T3}{t:T3}(r:jN H vs ts) (h:Gr H v t):jN H (vs++[v]) (ts++[t]):=bV r h
theorem qT {α β:Type}(f:α->β) (l:List α) (i:Nat) (v:α) (h:l[i]? = some v):(l.take (i+1)).map f=(l.take i).map f++[f v]:=by
 rw [bI,h,aE]
 rfl
end L2
end
section
namespace L2
open PySem PySem.W PyProof.Rows
noncomputable def xu {α:Type}(lt:Nat->Nat->Bool) (n:Nat):KasT α->(α->Prop)->Prop
 | .ret a,G=>G a
 | .ask i j k,G=>i<n/\j<n/\xu lt n (k (lt i j)) G
theorem xu.bind {α β:Type}{lt:Nat->Nat->Bool}{n:Nat}{f:α->KasT β}{G:β->Prop}:∀{t:KasT α},xu lt n t (λa=>xu lt n (f a) G)->xu lt n (t.bind f) G
 | .ret _,h=>h
 | .ask _ _ k,h=>⟨h.1,h.2.1,xu.bind (t:=k _) h.2.2⟩
theorem xu.wp {α:Type}{lt:Nat->Nat->Bool}{n:Nat}{z:Nat->Nat->(Bool->Shared->Prop)->Shared->Prop}{I:Shared->Prop}(Y:∀i j C s,i<n->j<n->I s->(∀s',I s'->C (lt i j) s')->z i j C s)
  {G:α->Prop} {Q:α->Shared->Prop} (U:∀a s,G a->I s->Q a s):∀{t:KasT α} {s:Shared},xu lt n t G->I s->t.kasWp z Q s
 | .ret a,s,h,b=>U a s h b
 | .ask i j k,s,h,b=>Y i j _ s h.1 h.2.1 b λs' c=>xu.wp Y U (t:=k _) h.2.2 c
section
variable {O:KeyOrd}{key:Nat->O.α}{n:Nat}{p:Array Nat}
noncomputable abbrev ltK (O:KeyOrd) (key:Nat->O.α):Nat->Nat->Bool:=λi j=>O.blt (key i) (key j)
noncomputable abbrev kp (key:Nat->O.α) (p:Array Nat) (i:Nat):O.α:=key (p.getD i 0)
noncomputable def zU (key:Nat->O.α) (p:Array Nat) (k:Nat):Prop:=∀i j,i<=j->j<k->O.kle (kp key p i) (kp key p j)
noncomputable def kS (key:Nat->O.α) (p:Array Nat) (k:Nat):Prop:=∀i j,i<=j->j<k->O.kle (kp key p j) (kp key p i)
noncomputable def qE (n:Nat) (p:Array Nat):Prop:=p.Perm (aJ n).toArray
theorem qE.size (h:qE n p):p.size=n:=by have:=h.size_eq;simpa using this
theorem qE.lt (h:qE n p) (j:0<n) (i:Nat):p.getD i 0<n:=by
 by_cases hi:i<p.size
 ·have e:p.getD i 0=p[i]:=by simp [oZ,hi]
  rw [e]
  have a:p[i]∈(aJ n).toArray.toList:=(Array.perm_iff_toList_perm.mp h).mem_iff.mp (by simp)
  simpa using a
 ·have e:p.getD i 0=0:=by simp [oZ,hi]
  rw [e];exact j
theorem zW {p q:Array Nat}{i j:Nat}(h:p[i]? = q[j]?):p.getD i 0=q.getD j 0:=by
 rw [lr,lr,h]
theorem Jo {j d:Nat}(hs:j<p.size) (z:d<=j) (k:Nat) :
  kp (O:=O) key (bubble p j d) k=if k=j-d then kp key p j else if j-d<k/\k<=j then kp key p (k-1) else kp key p k:=by
 have e:=getElem?_bubble hs d z k
 unfold kp
 by_cases h1:k=j-d
 ·rw [if_pos h1] at e ⊢;rw [zW e]
 ·rw [if_neg h1] at e ⊢
  by_cases h2:j-d<k/\k<=j
  ·rw [if_pos h2] at e ⊢;rw [zW e]
  ·rw [if_neg h2] at e ⊢;rw [zW e]
theorem Z3 {i j:Nat}(z:j<=p.size) (k:Nat):kp (O:=O) key (sP p i j) k=if i<=k/\k<j then kp key p (i+j-1-k) else kp key p k:=by
 have e:=getElem?_mirror_all (i:=i) z k
 unfold kp sP
 by_cases h1:i<=k/\k<j
 ·rw [if_pos h1] at e ⊢;rw [zW e]
 ·rw [if_neg h1] at e ⊢;rw [zW e]
theorem xR {i j:Nat}(G:j<=p.size) (z:∀k,i<=k->k<j->kp (O:=O) key p k=kp key p (j-1)) (k:Nat):kp (O:=O) key (sP p i j) k=kp key p k:=by
 rw [Z3 G]
 split
 ·rw [z _ ∅ ∅,z k ∅ ∅]
 ·rfl
theorem qE.rev (h:qE n p) (i j:Nat):qE n (sP p i j):=(mirror_perm _ _ _ _).trans h
theorem qE.bub (h:qE n p) (i j:Nat):qE n (bubble p i j):=(bubble_perm _ _ _).trans h
theorem Qc (U:qE n p) (I:0<n) {G:Nat->Prop}:∀(f a:Nat),1<=a->zU (O:=O) key p a ->
  (∀m,a<=m->m<=a+f->zU (O:=O) key p m->(m=a+f\/O.klt (kp key p m) (kp key p (m-1)))->G m)->xu (ltK O key) n (kas_asc p f a) G
 | 0,a,_,c,h=>h a (ar _) (ar _) c (.inl rfl)
 | f+1,a,h1,c,h=>by
  refine ⟨U.lt I _,U.lt I _,?_⟩
  show xu _ _ (if O.blt (kp key p a) (kp key p (a-1))=true then _ else _) _
  cases b:O.blt (kp key p a) (kp key p (a-1)) with
  | true=>rw [if_pos rfl];exact h a (ar _) ∅ c (.inr b)
  | false =>
   rw [if_neg au]
   refine Qc U I f (a+1) ∅ (λi j k s=>?_) λm r q d o=>h m ∅ ∅ d (o.imp (λz=>∅) id)
   by_cases e:j<a
   ·exact c i j k e
   ·have g:j=a:=∅
    subst g
    by_cases l:i=j
    ·subst l;exact df _
    ·exact iK (c i (j-1) ∅ ∅) b
theorem Jq (U:qE n p) {m z:Nat}{G:Nat×Array Nat->Prop}(h1:1<=m) (hm:m<=z) (Y:z<=n) (hs:kS (O:=O) key p m)
  (h:∀k I,qE n I->1<=k->k<=z->zU (O:=O) key I k->G (k,I)):xu (ltK O key) n (tZ m z p) G:=by
 have a:m<=p.size:=by rw [U.size];omega
 refine xu.bind (Qc (U.rev _ _) ∅ _ m h1 (λi j e f=>?_) λk d c b _=>h k _ (U.rev _ _) ∅ ∅ b)
 rw [Z3 a,Z3 a,if_pos ∅,if_pos ∅]
 exact hs _ _ ∅ ∅
theorem uq {U:Nat}(Y:U<=n) {G:Array Nat×Nat×Nat->Prop}:∀(f:Nat) (p:Array Nat) (x q:Nat),qE n p->1<=x->x+f=U->kS (O:=O) key p x->q+1<=x ->
  (∀i,x-(q+1)<=i->i<x->kp (O:=O) key p i=kp key p (x-1)) ->
  (∀z m I,qE n z->x<=m->m<=U->kS (O:=O) key z m->I+1<=m->(∀i,m-(I+1)<=i->i<m->kp (O:=O) key z i=kp key z (m-1))->G (z,m,I)) ->
  xu (ltK O key) n (kas_desc f p x q) G
 | 0,p,x,q,c,h1,D,d,y,w,h=>h p x q c (ar _) ∅ d y w
 | f+1,p,x,q,c,h1,D,d,y,w,h=>by
  have A:x<=p.size:=by rw [c.size];omega
  refine ⟨c.lt ∅ _,c.lt ∅ _,?_⟩
  show xu _ _ (if O.blt (kp key p x) (kp key p (x-1))=true then _ else _) _
  cases g:O.blt (kp key p x) (kp key p (x-1)) with
  | true =>
   rw [if_pos rfl]
   have e:∀z:Array Nat,(∀k,kp (O:=O) key z k=kp key p k)->kS (O:=O) key z (x+1):=by
    intro z B i j t E
    rw [B,B]
    by_cases r:j<x
    ·exact d i j t r
    ·have s:j=x:=∅
     subst s
     by_cases u:i=j
     ·subst u;exact df _
     ·exact iK (ie g) (d i (j-1) ∅ ∅)
   by_cases o:q > 0
   ·rw [if_pos o]
    exact uq Y f _ (x+1) 0 (c.rev _ _) ∅ ∅ (e _ (xR A w)) ∅ (λi h1 h2=>by congr 1;omega) λz m I a b=>h z m I a ∅
   ·rw [if_neg o]
    exact uq Y f _ (x+1) 0 c ∅ ∅ (e _ λ_=>rfl) ∅ (λi h1 h2=>by congr 1;omega) λz m I a b=>h z m I a ∅
  | false =>
   rw [if_neg au]
   refine ⟨c.lt ∅ _,c.lt ∅ _,?_⟩
   show xu _ _ (if O.blt (kp key p (x-1)) (kp key p x)=true then _ else _) _
   cases l:O.blt (kp key p (x-1)) (kp key p x) with
   | true=>rw [if_pos rfl];exact h p x q c (ar _) ∅ d y w
   | false =>
    rw [if_neg au]
    have v:kp (O:=O) key p x=kp key p (x-1):=lj l g
    refine uq Y f p (x+1) (q+1) c ∅ ∅ (λi j t E=>?_) ∅ (λi h1 h2=>?_) λz m I a b=>h z m I a ∅
    ·by_cases r:j<x
     ·exact d i j t r
     ·have s:j=x:=∅
      subst s
      by_cases u:i=j
      ·subst u;exact df _
      ·rw [v];exact d i (j-1) ∅ ∅
    ·rw [show x+1-1=x by omega]
     by_cases C:i=x
     ·subst C;rfl
     ·rw [v];exact w i ∅ ∅
theorem uJ (Y:qE n p) {m z:Nat}{G:Nat×Array Nat->Prop}(hm:m+1<=z) (U:z<=n) (hs:kS (O:=O) key p (m+1))
  (h:∀k I,qE n I->1<=k->k<=z->zU (O:=O) key I k->G (k,I)):xu (ltK O key) n (kas_descPart m z p) G:=by
 refine xu.bind (uq U _ p (m+1) 0 Y ∅ ∅ hs ∅ (λi h1 h2=>by congr 1;omega) λI k q b o e d r g=>?_)
 have c:k<=I.size:=by rw [b.size];omega
 show xu _ _ (if q > 0 then tZ k z (sP I (k-(q+1)) k) else tZ k z I) _
 by_cases a:q > 0
 ·rw [if_pos a]
  refine Jq (b.rev _ _) ∅ e U (λi j f l=>?_) h
  rw [xR c g,xR c g]
  exact d i j f l
 ·rw [if_neg a]
  exact Jq b ∅ e U d h
theorem YF (I:qE n p) (Y:0<n) {G:Nat×Array Nat->Prop}(h:∀k U,qE n U->1<=k->k<=n->zU (O:=O) key U k->G (k,U)):xu (ltK O key) n (kas_count n p) G:=by
 refine xu.bind (Qc I Y _ 1 (ar 1) (λi j o w=>by have:i=j:=∅;subst this;exact df _) λm g C b s=>?_)
 by_cases f:m=n
 ·rw [if_pos (by simpa using f)]
  exact h m p I g ∅ b
 ·rw [if_neg (by simpa using f)]
  have l:O.klt (kp key p m) (kp key p (m-1)):=by
   rcases s with z | z
   ·omega
   ·exact z
  by_cases q:m > 1
  ·rw [if_pos q]
   refine ⟨I.lt Y _,I.lt Y _,?_⟩
   show xu _ _ (if O.blt (kp key p 0) (kp key p (m-1))=true then _ else _) _
   cases d:O.blt (kp key p 0) (kp key p (m-1)) with
   | true=>rw [if_pos rfl];exact h m p I g ∅ b
   | false =>
    rw [if_neg au]
    have e:m<=p.size:=by rw [I.size];omega
    have a:∀k,0<=k->k<m->kp (O:=O) key p k=kp key p (m-1):=by
     intro k _ y
     have B:=b 0 k ∅ y
     have A:=b k (m-1) ∅ ∅
     exact lj A (iK d B)
    refine uJ (I.rev _ _) ∅ (ar _) (λi j o w=>?_) h
    rw [xR e a,xR e a]
    by_cases t:j<m
    ·rw [a i ∅ ∅,a j ∅ t];exact df _
    ·have v:j=m:=∅
     subst v
     by_cases c:i=j
     ·subst c;exact df _
     ·rw [a i ∅ ∅];exact ie l
  ·rw [if_neg q]
   have r:m=1:=∅
   subst r
   refine uJ I ∅ (ar _) (λi j o w=>?_) h
   by_cases c:i=j
   ·subst c;exact df _
   ·have x:i=0:=∅
    have u:j=1:=∅
    subst x;subst u
    exact ie l
theorem uZ (z:qE n p) (j:0<n) {k:Nat}(hs:zU (O:=O) key p k) {G:Nat->Prop}:∀(f l r:Nat),l<=r->r<=k->r-l<=f ->
  (∀i,i<l->O.kle (kp key p i) (kp key p k))->(∀i,r<=i->i<k->O.klt (kp key p k) (kp key p i)) ->
  (∀l,l<=k->(∀i,i<l->O.kle (kp key p i) (kp key p k))->(∀i,l<=i->i<k->O.klt (kp key p k) (kp key p i))->G l)->xu (ltK O key) n (kas_place p k f l r) G
 | 0,l,r,g,d,m,a,c,h=>by
  have:l=r:=∅
  subst this
  exact h l d a c
 | f+1,l,r,g,d,m,a,c,h=>by
  unfold kas_place
  by_cases e:l>=r
  ·rw [if_pos e]
   have:l=r:=∅
   subst this
   exact h l d a c
  ·rw [if_neg e]
   refine ⟨z.lt j _,z.lt j _,?_⟩
   show xu _ _ (if O.blt (kp key p k) (kp key p ((l+r) / 2))=true then _ else _) _
   cases b:O.blt (kp key p k) (kp key p ((l+r) / 2)) with
   | true =>
    rw [if_pos rfl]
    exact uZ z j hs f l _ ∅ ∅ ∅ a (λi h1 h2=>KeyOrd.klt_of_klt_of_kle b (hs _ _ h1 h2)) h
   | false =>
    rw [if_neg au]
    exact uZ z j hs f _ r ∅ ∅ ∅ (λi h1=>iK (hs i ((l+r) / 2) ∅ ∅) (show O.kle _ _ from b)) c h
theorem ZX (I:0<n) {G:Array Nat->Prop}:∀(f:Nat) (p:Array Nat) (k:Nat),qE n p->k+f=n->zU (O:=O) key p k ->
  (∀z,qE n z->zU (O:=O) key z n->G z)->xu (ltK O key) n (kas_bin f p k) G
 | 0,p,k,a,e,b,h=>h p a (by rw [<- e];exact b)
 | f+1,p,k,a,e,b,h=>by
  refine xu.bind (uZ a I b k 0 k (aG _) (ar _) ∅ (λi hi=>∅) (λi h1 h2=>∅) λl m d g=>?_)
  refine ZX I f _ (k+1) (a.bub _ _) ∅ (λi j o q=>?_) h
  have c:k<p.size:=by rw [a.size];omega
  rw [Jo c ∅,Jo c ∅,show k-(k-l)=l by omega]
  repeat' split
  all_goals first
   | (exfalso;omega)
   | exact df _
   | exact d _ ∅
   | exact ie (g _ ∅ ∅)
   | exact b _ _ ∅ ∅
theorem km (z:0<n) {G:Array Nat->Prop}(h:∀j,qE n j->zU (O:=O) key j n->G j):xu (ltK O key) n (Ab n) G:=by
 refine xu.bind (YF (Array.Perm.refl _) z λk j c h1 d b=>?_)
 show xu _ _ (if k<n then kas_bin (n-max k 1) j (max k 1) else .ret j) _
 by_cases a:k<n
 ·rw [if_pos a,show max k 1=k by omega]
  exact ZX z _ j k c ∅ b h
 ·rw [if_neg a]
  have e:k=n:=∅
  subst e
  exact h j c b
end
noncomputable def zX:List Int->List Int->Bool
 | [],[]=>false
 | [],_::_=>true
 | _::_,[]=>false
 | a::x,b::y=>if a=b then zX x y else decide (a<b)
theorem wC:∀a,zX a a=false
 | []=>rfl
 | a::x=>by unfold zX;rw [if_pos rfl];exact wC x
theorem hV:∀a b c,zX a b=true->zX b c=true->zX a c=true
 | [],[],_,h,_=>by cases h
 | [],_::_,[],_,h=>by cases h
 | [],_::_,_::_,_,_=>rfl
 | _::_,[],_,h,_=>by cases h
 | _::_,_::_,[],_,h=>by cases h
 | a::x,b::y,c::z,h1,h2=>by
  unfold zX at h1 h2 ⊢
  by_cases e:a=b
  ·subst e
   rw [if_pos rfl] at h1
   by_cases d:a=c
   ·rw [if_pos d] at h2 ⊢;exact hV x y z h1 h2
   ·rw [if_neg d] at h2 ⊢;exact h2
  ·rw [if_neg e] at h1
   have g:=of_decide_eq_true h1
   by_cases d:b=c
   ·subst d;rw [if_neg e];exact h1
   ·rw [if_neg d] at h2
    have f:=of_decide_eq_true h2
    rw [if_neg ∅]
    exact decide_eq_true ∅
theorem Xo:∀a b c,zX a c=true->zX a b=true\/zX b c=true
 | [],[],[],h=>by cases h
 | [],[],_::_,_=>.inr rfl
 | [],_::_,_,_=>.inl rfl
 | _::_,_,[],h=>by cases h
 | _::_,[],_::_,_=>.inr rfl
 | a::x,b::y,c::z,h=>by
  unfold zX at h ⊢
  by_cases f:a=b
  ·subst f
   rw [if_pos rfl]
   by_cases e:a=c
   ·rw [if_pos e] at h ⊢;exact Xo x y z h
   ·rw [if_neg e] at h ⊢;exact .inr h
  ·rw [if_neg f]
   by_cases e:b=c
   ·subst e;rw [if_neg f] at h;exact .inl h
   ·rw [if_neg e]
    by_cases g:a=c
    ·subst g
     by_cases d:a<b
     ·exact .inl (decide_eq_true d)
     ·exact .inr (decide_eq_true ∅)
    ·rw [if_neg g] at h
     have h':=of_decide_eq_true h
     by_cases d:a<b
     ·exact .inl (decide_eq_true d)
     ·exact .inr (decide_eq_true ∅)
theorem gZ:∀a b,zX a b=false->zX b a=false->a=b
 | [],[],_,_=>rfl
 | [],_::_,h,_=>by cases h
 | _::_,[],_,h=>by cases h
 | a::x,b::y,h1,h2=>by
  unfold zX at h1 h2
  by_cases e:a=b
  ·subst e
   rw [if_pos rfl] at h1 h2
   rw [gZ x y h1 h2]
  ·rw [if_neg e] at h1
   rw [if_neg (λz=>e z.symm)] at h2
   have:=of_decide_eq_false h1
   have:=of_decide_eq_false h2
   omega
noncomputable def wP:KeyOrd:=⟨List Int,zX,wC,hV,Xo,gZ⟩
noncomputable def Um:KeyOrd:=⟨Int,λa b=>decide (a<b),λa=>by simp,λa b c h1 h2=>by
  have:=of_decide_eq_true h1;have:=of_decide_eq_true h2;exact decide_eq_true ∅,λa b c h=>by
  have:=of_decide_eq_true h
  by_cases d:a<b
  ·exact .inl (decide_eq_true d)
  ·exact .inr (decide_eq_true ∅),λa b h1 h2=>by
  have:=of_decide_eq_false h1;have:=of_decide_eq_false h2;omega⟩
end L2
end
section
namespace L2
open PySem.W
open PySem.AutoSeq1 (wpAny_loadPart')
open PySem.MeetsSeq PySem.MeetsSeq2 PySem.MeetsSeq3 PySem.SeqRoads2
theorem JX (h:di its xs) {i:Nat}(hi:i<its.length):∃t,its[i]? = some (.int (xs[i]'(by have:=h.length;omega)) t):=by
 have a:i<xs.length:=by have:=h.length;omega
 obtain ⟨u,c,t,b⟩:=jH.get (w5 h) (i:=i) (x:=V.int xs[i]) (by rw [ay,af a];rfl)
 exact ⟨t,by rw [c,b]⟩
theorem Yp (l b:Addr) (items j:List aj) (n n2:Nat) (dd U:Option Addr) (Y z:Array (Option aj)) (I:di items xs) (G:di j ys) (k:Nat) :
  ∀i:Nat,items.length-i=k->i<=items.length->i<=j.length->Meets (eM.«list.__eq__.loop» ⟨[.ref l,.ref b,c0 i,c0 0],[]⟩)
   (λA R s=>s.heap.get? l=some { cls:=.type "list",dict:=dd,data:=.seq items.toArray n,slots:=Y }/\s.heap.get? b=some { cls:=.type "list",dict:=U,data:=.seq j.toArray n2,slots:=z } /\
    R (.ok (.ret (.bool (zX (xs.drop i) (ys.drop i))))) s):=by
 have H:=I.length
 have E:=G.length
 induction k with
 | zero =>
  intro i B hi q prog w A R s h
  obtain ⟨y,g,d,tk,os⟩:=s;obtain ⟨a,c,h⟩:=h
  wp_walk using c6 a,c6 c
  have o:items.toArray[((i:Nat):Int).toNat]? = none:=by simp;omega
  have C:xs.drop i=[]:=by simp;omega
  rw [C] at h
  rw [o]
  wp_walk using c6 a,c6 c
  show R (.ok (.ret (.bool (decide (items.toArray.size<j.toArray.size))))) _
  have f:decide (items.toArray.size<j.toArray.size)=zX [] (ys.drop i):=by
   by_cases m:i<ys.length
   ·rw [bO m]
    exact decide_eq_true ↥69
   ·rw [mI ∅]
    exact decide_eq_false ↥69
  rw [f]
  exact h
 | succ k x =>
  intro i B hi q prog w A R s h
  obtain ⟨y,g,d,tk,os⟩:=s;obtain ⟨a,c,h⟩:=h
  have m:i<items.length:=∅
  obtain ⟨t,v⟩:=JX I m
  have o:items.toArray[((i:Nat):Int).toNat]? = some (.int (xs[i]'∅) t):=by simpa using v
  wp_walk using c6 a,c6 c
  rw [o]
  by_cases p:i<j.length
  ·obtain ⟨u,r⟩:=JX G p
   have f:j.toArray[((i:Nat):Int).toNat]? = some (.int (ys[i]'∅) u):=by simpa using r
   rw [f]
   rw [bO (show i<xs.length by omega),bO (show i<ys.length by omega)] at h
   unfold zX at h
   refine aa (md ?_)
   have D:((i:Int)+1)=((i+1:Nat):Int):=by push_cast;rfl
   by_cases e:xs[i]'∅=ys[i]'∅
   ·rw [if_pos e] at h
    rw [beq_iff_eq.mpr e]
    wp_walk
    rw [D]
    exact ⟨fR plain_eq_loop _,dM entry_eq_loop (by
     rw [d5 plain_eq_loop _]
     exact x (i+1) ∅ ∅ ∅ prog w A R _ ⟨a,c,h⟩)⟩
   ·rw [if_neg e] at h
    rw [beq_eq_false_iff_ne.mpr e]
    wp_walk using c6 a,c6 c
    rw [o,f]
    refine aa (show ax (aD prog w) _ (richCompare .Lt _ _) _ _ _ from lt_int ?_)
    exact wpAny_pure h
  ·have f:j.toArray[((i:Nat):Int).toNat]? = none:=by simp;omega
   rw [f]
   rw [bO (show i<xs.length by omega),mI (show ys.length<=i by omega)] at h
   wp_walk using c6 a,c6 c
   show R (.ok (.ret (.bool (decide (items.toArray.size<j.toArray.size))))) _
   rw [decide_eq_false ↥69]
   exact h
theorem Y8 (l b:Addr) (items j:List aj) (n U:Nat) (dd G:Option Addr) (I z:Array (Option aj)) (hx:di items xs) (Y:di j ys) :
  Meets (eM.«list.__lt__» ⟨[.ref l,.ref b],[]⟩)
   (λA R s=>s.heap.get? l=some { cls:=.type "list",dict:=dd,data:=.seq items.toArray n,slots:=I }/\s.heap.get? b=some { cls:=.type "list",dict:=G,data:=.seq j.toArray U,slots:=z } /\
    R (.ok (.ret (.bool (zX xs ys)))) s):=by
 intro prog w A R s h
 obtain ⟨e,g,d,tk,os⟩:=s;obtain ⟨a,c,h⟩:=h
 have f:=AutoSeq1.sub_list_list
 wp_walk using c6 a,c6 c
 exact ⟨fR plain_eq_loop _,dM entry_eq_loop (by
  rw [d5 plain_eq_loop _]
  exact Yp l b items j n U dd G I z hx Y _ 0 rfl (aG _) (aG _) prog w A R _ ⟨a,c,by simpa using h⟩)⟩
section
variable {prog:Program}{w:bo}{A:bx}{E:aj->Shared->Prop}{s:Shared}
theorem XM {l b:Addr}{items j:List aj}{n Y:Nat}{dd G:Option Addr}{U z:Array (Option aj)}{Q:Bool->Shared->Prop}(hu:A.units<cLine)
  (I:s.heap.get? l=some { cls:=.type "list",dict:=dd,data:=.seq items.toArray n,slots:=U }) (hb:s.heap.get? b=some { cls:=.type "list",dict:=G,data:=.seq j.toArray Y,slots:=z })
  (hx:di items xs) (hy:di j ys) (h:Q (zX xs ys) s):ax (aD prog w) A (oneLt' true (.ref l) (.ref b)) Q E s:=by
 rw [oneLt'_eq]
 simp only [if_true]
 refine aa (wpAny_cRoomFor hu ?_)
 refine aa (wpAny_callSpecialIfBound?_slot ⟨_,I,rfl⟩ nM (mG nM ⟨_,I,rfl⟩ PySem.F.entry_list_lt (PySem.F.args_list_lt_2 _ _) (Y8 l b items j n Y dd G U z hx hy) ⟨I,hb,?_⟩))
 exact bQ h
theorem Zo {x y:Addr}{items items2:List aj}{n k:Nat}{Q:Bool->Shared->Prop}(U:s.heap.get? x=some ox) (dx:ox.data = .seq items.toArray n) (I:s.heap.get? y=some j) (Y:j.data = .seq items2.toArray k)
  (G:di items xs) (z:di items2 ys) (h:Q (zX xs ys) s):ax (aD prog w) A (keyLt' (tuples' true) (.ref x) (.ref y)) Q E s:=by
 refine kat_lt U dx I Y ?_
 have go:∀(items items2:List aj) (xs ys:List Int) (i:Nat) (f:Bool),di items xs->di items2 ys->(∀m:Nat,xs.length=m+items.length-items.length->True) ->
   f=decide (items.length<items2.length)->Q (zX xs ys) s->KatLex prog w A true f Q (items.zip items2) i s:=by
  intro items items2 xs ys i f a b
  induction a generalizing items2 ys i with
  | nil =>
   intro _ d c
   cases b with
   | nil=>subst d;exact c
   | cons m u r=>subst d;exact c
  | cons m u r o =>
   intro _ d c
   cases b with
   | nil=>subst d;exact c
   | cons l p g =>
    refine kat_cons (md ?_)
    unfold zX at c
    by_cases e:m=l
    ·rw [beq_iff_eq.mpr e]
     rw [if_pos e] at c
     refine kat_yes (o _ _ _ g (λ_ _=>trivial) ?_ c)
     rw [d]
     simp
    ·rw [beq_eq_false_iff_ne.mpr e]
     rw [if_neg e] at c
     refine kat_no ?_
     cases q:(true && i == 0) with
     | true=>exact oneLt_int c
     | false=>exact kat_one _ _ (lt_int c)
 have e:(items.toArray.toList.zip items2.toArray.toList)=items.zip items2:=by simp
 rw [e]
 exact go items items2 xs ys 0 _ G z (λ_ _=>trivial) (by simp) h
end
end L2
end
section
namespace L2
open PySem.W
section
variable {prog:Program}{w:bo}{A:bx}{E:aj->Shared->Prop}{s:Shared}
theorem uo (its:List aj):(its.toArray.zip its.toArray).map (·.2)=its.toArray:=by
 apply Array.toList_inj.mp
 rw [rM,ksk_zip]
 show (its.zip its).map Aa=its
 rw [rO]
 exact ar _
theorem ui (its:List aj):((aJ its.length).map λi=>its.getD i aX)=its:=by
 apply mn
 ·simp
 ·intro i h1 h2
  simp at h1
  simp [h1]
theorem Z7 {l:Addr}{its:List aj}{κ:t8}{lt:Nat->Nat->Bool}{G:List Nat->Prop}{Q:aj->Shared->Prop}(hl:s.heap.IsList l its.toArray) (Y:its.length<64)
  (hk:2<=its.length->∀h',↥20->∀U:t8->Shared->Prop,U κ { s with heap:=h' }->ax (aD prog w) A.in1.in1 (keyKind' its.toArray) U (λ_ _=>False) { s with heap:=h' })
  (hc:∀h',↥20->∀i j,i<its.length->j<its.length->∀U:Bool->Shared->Prop,U (lt i j) { s with heap:=h' } ->
   ax (aD prog w) A.in1.in1 (keyLt' κ (its.getD i aX) (its.getD j aX)) U (λ_ _=>False) { s with heap:=h' })
  (hs:2<=its.length->xu lt its.length (Ab its.length) λp=>qE its.length p/\G p.toList) (h1:its.length<2->G (aJ its.length))
  (h:∀(z:List Nat) (h':Heap) (n:Nat),z.Perm (aJ its.length)->G z->↥20 ->
   h'.get? ↥16=some (bB "list" (z.map λi=>its.getD i aX).toArray n)->Q (.ref ↥16) { s with heap:=h' }) :
  ax (aD prog w) A (call (.builtin "sorted") [.ref l]) Q E s:=by
 refine lN sG pW pX (args_sorted1 _) ?_
 unfold eM.«sorted»
 refine aa (m:=t9 "sorted" 1 1 _) ↥47
 refine aa (collect_list hl ?_ (by rw [bD];omega))
 refine aa (fS ?_ (by rw [bD];omega))
 have y: (↥8).objs.size=s.heap.objs.size+1:=by
  rw [dZ,pe]
 have f:((↥8).push ↥25).get? ↥16=some ↥25:=by
  rw [<- y];exact az _ rfl
 have keep:∀b o,s.heap.get? b=some o->((↥8).push ↥25).get? b=some o:=λb o q=>by
  have B:b<s.heap.objs.size:=av q
  rw [cP _ _ _ (by rw [y];exact aB (cf B)),c8 _ _ _ _ (aB B),cP _ _ _ (aB B)]
  exact q
 show ax _ _ _ _ _ { s with heap:=(↥8).push ↥25 }
 rw [y]
 refine aa (bA (cI nN ⟨_,f,rfl⟩ mT ?body (tj _)))
 case body =>
  generalize ab: (↥8).push ↥25=k at f keep
  generalize ha:s.heap.objs.size+1=a at f h
  have D:∀b o,s.heap.get? b=some o->b≠a:=λb o q=>by have:=av q;rw [<- ha];exact aB (cf this)
  show ax (aD prog w) A.in1.in1 (eM.«list.sort» ⟨[.ref a],[]⟩) _ _ { s with heap:=k }
  rw [sI]
  have J:a<k.objs.size:=av f
  refine aa (mJ f rfl ?_)
  refine aa (cZ f rfl ?_ (by rw [aw,bD];omega) (aG _))
  obtain ⟨O,H⟩:∃O,(k.update a ↥50).get? a=some (bB "list" #[] O):=⟨_,eS f (λ_=>#[])⟩
  refine aa (ft H rfl ?_)
  refine aa (lJ ?_ (by show its.length<=_;rw [bD];omega))
  refine aa (fS ?_ (aG _))
  refine bA ?_
  have d:((↥12).push ↥116).get? a=some (bB "list" #[] O):=by
   rw [cP _ _ _ (by rw [pe,dZ];exact aB (cf J)),cP _ _ _ (by rw [dZ];exact aB J)]
   exact H
  have c:∀b o,s.heap.get? b=some o->((↥12).push ↥116).get? b=some o:=λb o q =>
   ai _ (ai _ ((c8 _ _ _ _ (D b o q)).trans (keep b o q)))
  show ax (aD prog w) A.in1.in1 _ _ _ { s with heap:=(↥12).push ↥116 }
  generalize (↥12).push ↥116=g at d c
  dsimp only
  have t:∀(z:List Nat),z.Perm (aJ its.length)->G z->∀u:Array aj,u=(z.map λi=>its.getD i aX).toArray ->
    ∃v,tm (Flow.ret aX) = .done (.ret v)/\ax (aD prog w) A.in1 (do let _ <- pure v;ret (aU a)) (λt s'=>∃v,t = .done (.ret v)/\Q v s') E { s with heap:=g.update a (b8 λ_=>u) }:=λz L X u P=>by
   refine ⟨_,rfl,aa (wpAny_pure (wpAny_pure ⟨_,rfl,?_⟩))⟩
   subst P
   exact h z _ _ L X (λb o q=>(c8 _ _ _ _ (D b o q)).trans (c b o q)) (eS d λ_=>_)
  by_cases h2:its.toArray.size<2
  ·rw [if_pos h2,if_pos h2]
   refine aa ↥47
   rw [mU]
   refine aa ↥47
   dsimp only
   refine aa (ft d rfl ?_)
   rw [uo]
   refine aa (cZ d rfl ?_ (aG _) (by rw [aw,bD];omega))
   simp only [bne_self_eq_false,ck,if_false]
   rw [aw] at h2
   exact wpAny_pure (t _ (nO _) (h1 h2) _ (by rw [ui]))
  ·rw [if_neg h2,if_neg h2]
   rw [aw] at h2
   refine aa (aZ (hk ∅ g c (λK s'=>K=κ/\s'={ s with heap:=g }) ⟨rfl,rfl⟩) (λK s' q=>?_) λ_ _ x=>x.elim)
   obtain ⟨rfl,rfl⟩:=q
   refine aa (aZ (kat_run (ks:=its) (vs:=its) (κ:=K) (G:=λp s'=>(qE its.length p/\G p.toList)/\s'={ s with heap:=g }) (Q:=λr s'=>∃p:Array Nat,arrOf r=p.map (Ac (its.toArray.zip its.toArray))/\tu r=none/\(qE its.length p/\G p.toList)/\s'={ s with heap:=g })
    rfl ∅ Y (λp r s' a1 a2 a3 a4=>⟨p,a2,a3,a4⟩) (xu.wp (I:=λs'=>s'={ s with heap:=g }) (λi j C s' hi V N hC=>?_) (λp s' L N=>⟨L,N⟩) (hs ∅) rfl)) ?_ λ_ _ e=>e)
   ·subst N
    exact hc g c i j hi V C (hC _ rfl)
   ·rintro ⟨⟨⟩,r⟩ s' ⟨p,R,Z,⟨S,hG⟩,rfl⟩
    dsimp only
    have M:=Ad (ks:=its) (vs:=its) rfl R
    have T:(pY (p.toList.map λi=>its.getD i aX)).size=its.length:=by rw [aw,ah,cS,S.size]
    rw [M]
    refine aa (ft d rfl ?_)
    refine aa (cZ d rfl ?_ (aG _) (by rw [T,bD];omega))
    rw [Z]
    simp only [bne_self_eq_false,ck,if_false]
    exact wpAny_pure (t p.toList (by have:=Array.perm_iff_toList_perm.mp S;simpa using this) hG _ rfl)
end
end L2
end
section
namespace L2
open PySem.W
noncomputable def uC (O:KeyOrd) (key:Nat->O.α) (vs j:List V):Prop:=∃a:List Nat,a.Perm (aJ vs.length)/\j=(a.map λi=>vs.getD i V.non)/\(a.map key).Pairwise O.kle
theorem zU.pairwise {O:KeyOrd}{key:Nat->O.α}{p:Array Nat}{n:Nat}(hs:zU (O:=O) key p n) (z:p.size=n):(p.toList.map key).Pairwise O.kle:=by
 rw [List.pairwise_iff_getElem]
 intro i j hi a b
 simp at hi a
 have q:=hs i j (fF b) ∅
 unfold kp at q
 have d:p.getD i 0=p[i]:=by simp [oZ,hi]
 have c:p.getD j 0=p[j]:=by simp [oZ,a]
 rw [d,c] at q
 simpa using q
theorem JD:∀{vs:List V}{us:List aj},jH vs us->∀i,jJ (vs.getD i V.non) (us.getD i aX)
 | _,_,.nil,_=>rfl
 | _,_,.cons r _,0=>r
 | _,_,.cons _ t,i+1=>JD t i
theorem uT {vs:List V}{us:List aj}(r:jH vs us):∀j:List Nat,jH (j.map λi=>vs.getD i V.non) (j.map λi=>us.getD i aX)
 | []=>.nil
 | i::j=>.cons (JD r i) (uT r j)
theorem VQ {a b:Int}(h:Um.kle a b):a<=b:=Int.not_lt.mp (of_decide_eq_false h)
noncomputable def vg (H:Hp) (vs:List V) (j:List (List Int)):Prop:=cU (λv (r:List Int)=>∃a,v=V.ref a/\H a=some (.lst (r.map V.int))) vs j
theorem Paired.get {α β:Type}{F:α->β->Prop}:∀{l₁:List α}{j:List β}{i:Nat}{x:α},cU F l₁ j->l₁[i]? = some x->∃y,j[i]? = some y/\F x y
 | _,_,_,_,.nil,e=>by simp at e
 | _,_,0,_,.cons r _,e=>by simp at e;subst e;exact ⟨_,rfl,r⟩
 | _,_,i+1,v,.cons _ t,e=>by
  obtain ⟨d,h1,h2⟩:=Paired.get (i:=i) (x:=v) t (by simpa using e)
  exact ⟨d,by simpa using h1,h2⟩
theorem zL:∀{ns:List Int}{us:List aj},jH (ns.map V.int) us->di us ns
 | [],_,.nil=>.nil
 | n::ns,_,.cons ⟨t,e⟩ r=>by subst e;exact .cons n t (zL r)
section
variable {X:Cx}
theorem J8 (K:ag) (hu:X.A.units+64<cLine) (hK:X.K=K:=by rfl):xl X (.builtin "sorted") (λxs H Q=>∃p vs U,xs=[.ref p]/\SqL K H p vs/\vs.length<64/\vg H vs U /\
  ∀l H' Y,H l=none->H' l=some (.lst Y)->jm H H'->uC wP (λi=>U.getD i []) vs Y->Q (.ref l) H'):=by
 subst hK
 intro pins s σ H xs us Q I r h
 obtain ⟨p,vs,U,rfl,P,ab,O,k⟩:=h
 obtain ⟨u,rfl,t⟩:=vv r
 cases t
 obtain ⟨d,x,pl,hz⟩:=I.list P
 have B:d.length=vs.length:=x.length.symm
 have item:∀i,i<d.length->∃a c n,d.getD i aX = .ref a/\s.heap.get? a=some { cls:=.type "list",data:=.seq c.toArray n }/\di c (U.getD i []):=λi hi=>by
  have f:vs[i]? = some (vs[i]'∅):=af ∅
  obtain ⟨y,o,a,m,e4⟩:=Paired.get O f
  obtain ⟨u,e5,t⟩:=x.get f
  rw [m] at t
  cases t
  obtain ⟨z,c,n,C,e6⟩:=I.hok a _ e4
  refine ⟨a,c,n,by rw [aq,e5];rfl,e6,?_⟩
  rw [aq,o]
  exact zL C
 have D:X.A.in1.in1.units<cLine:=by
  show X.A.units+1+1<cLine
  omega
 refine Z7 (κ:=oneType') (lt:=ltK wP λi=>U.getD i []) (G:=λg=>(g.map λi=>U.getD i []).Pairwise wP.kle) pl.isList ∅ (λh2 h' e Q' q=>?_) (λh' e i j hi S Q' q=>?_) (λh2=>?_) (λh1=>?_) λg h' n E Z e R=>?_
 ·refine kas_kind (T:=.type "list") h2 (λv N=>?_) rfl rfl q
  obtain ⟨i,hi,rfl⟩:=List.mem_iff_getElem.mp N
  obtain ⟨a,c,n,f,o,_⟩:=item i hi
  have m:d[i] = .ref a:=by rw [<- f];simp [hi]
  rw [m]
  exact (show Looks _ h' (oX (.ref a)) _ from (Ae (e _ _ o)).andThen .now)
 ·obtain ⟨a,c,n,f,o,m⟩:=item i hi
  obtain ⟨b,M,n2,f1,f2,f3⟩:=item j S
  rw [f,f1,keyLt'_oneType]
  exact XM D (e _ _ o) (e _ _ f2) m f3 q
 ·exact km ∅ λp' L hS=>⟨L,hS.pairwise L.size⟩
 ·have w:d.length=0\/d.length=1:=∅
  rcases w with z | z
  ·rw [z];exact ib
  ·rw [z];exact i0 _ _
 ·have J:H ↥16=none:=I.hok.fresh (fZ _)
  refine ⟨.ref _,upd H ↥16 (.lst (g.map λi=>vs.getD i V.non)),I.laid (t':=s.toks) e (fZ _) ⟨?_,_,n,uT x g,R⟩,rfl,k _ _ _ J j6 (jm.new J) ⟨g,by rw [<- B];exact E,rfl,Z⟩⟩
  rw [ah,E.length_eq,bz]
  exact aI (by omega:d.length<=1000) ⋯
end
end L2
end
section
namespace L2
open PySem.W
noncomputable abbrev uD (j:Str) (params:Arguments) (body:Expr) (scope:Scope) (pm:aj) (c:Addr) (z:aj):FuncData:=kla_fn "<lambda>" j params body scope [] pm (.ref c) z
noncomputable def Ym (f:Addr) (fd:FuncData):HO:=.ext λh=>h.get? f=some { cls:=.type "function",data:=.func fd }
noncomputable def Zp (c:Addr) (j:Str):HO:=.ext λh=>h.CodeRec (.ref c) j
noncomputable def Tab (H:Hp) (Pt:Addr) (pos:Pos) (j:Str):Prop:=H Pt=some (.tbl #[])\/∃a,H Pt=some (.tbl #[c0 pos.line,c0 pos.col,.ref a])/\H a=some (Zp a j)
theorem Tab.ne {pos:Pos}(T:Tab H Pt pos j):∃ps,H Pt=some (.tbl ps):=by
 rcases T with z | ⟨a,z,_⟩
 ·exact ⟨_,z⟩
 ·exact ⟨_,z⟩
theorem Tab.same {pos:Pos}(T:Tab H Pt pos qual) (s:jm H H'):Tab H' Pt pos qual:=by
 rcases T with z | ⟨a,z,y⟩
 ·exact .inl (s _ _ z)
 ·exact .inr ⟨a,s _ _ z,s _ _ y⟩
theorem Tab.ext {b:Addr}{pos:Pos}{xs:List V}(T:Tab H Pt pos qual) (j:H b=some (.lst xs)) (e:Ext b H H'):Tab H' Pt pos qual:=by
 rcases T with z | ⟨a,z,y⟩
 ·exact .inl (e _ _ z (jo z j (by intro q;cases q)))
 ·exact .inr ⟨a,e _ _ z (jo z j (by intro q;cases q)),e _ _ y (jo y j (by intro q;cases q))⟩
theorem Tab.extN {b:Addr}{pos:Pos}(T:Tab H Pt pos qual) (j:H b=none) (e:Ext b H H'):Tab H' Pt pos qual:=T.same λc o h=>e c o h (j1 h j)
noncomputable def Bm (mg:Str->Option aj) (base:Heap):Prop:=∃b a,mg "__builtins__" = some (.ref b)/\b≠mB/\base.get? b=some a/\a.cls = .type "module" /\ a.dict=some mB/\a.data = .plain
theorem Wj {K:ag}{k:Nat}{f c:Addr}{pm z:aj}{x:Str}{s:Shared}{u:aj}{t:TE}
  (ho:s.heap.get? f=some { cls:=.type "function",data:=.func (uD j params body scope pm c z) }) (Y:s.heap.CodeRec (.ref c) j) (S:FnScope N [x] scope) (U:Room (k+1) A) (G:Env0 P w K mg base A outer s H)
  (hb:∀pm c z u,cG (uD j params body scope pm c z) ⟨[u],[]⟩=pure [(x,u)]) (r:jJ v u)
  (ht:PE (vN CX0 P w K mg base N j scope f (.ref c) A outer s H E0).nox body t) (q:t (start N [v]) H Q) :
  cO (aD P w) A (.call (.ref f) ⟨[u],[]⟩) (CR CX0 outer P w H s Q E0) s:=by
 have g:s.heap.NoLimit:=G.mod.nolimit.keeps λb o e=>(G.bs b o e).1
 have a:∀y∈([x].zip [u]),scope.names.lookup y.1=some .local\/(scope.names.lookup y.1=some .cell/\((mj ↥16 scope.names []).lookup y.1).isSome=true):=λ⟨n,v⟩ m=>by
  rcases S.par n (fU m).1 with q | q
  ·exact .inl q
  ·exact .inr ⟨q,eK _ _ _ (.inl q)⟩
 refine kla_callFunE U.depth ho rfl S.co S.gen rfl Y ?_
 rw [hb]
 refine wpAny_pure (fq (binds:=[x].zip [u]) S.kind a λenv p s1 y=>?_)
 subst p
 refine ⟨g.keeps y.toInCall.keep,kla_codeExpr ?_⟩
 have I:Inv (vN CX0 P w K mg base N j scope f (.ref c) A outer s H E0) [] (start N [v]) H s1:=we S U.hd G rfl (Paired.cons r .nil) y
 refine aZ (ht.nox [] s1 (start N [v]) H _ I q) (λB s' d=>?_) λe s' d=>d
 obtain ⟨h,H',J,i,l⟩:=d
 exact ⟨h,H',J.os,J.bare,J.base,J.hok,i,l⟩
section
variable {X:Cx}{pins:List (Addr×Obj)}{σ:St}{H:Hp}{s:Shared}
theorem VF {pos:Pos}{Q:aj->Shared->Prop}(I:Inv X pins σ H s) (G:X.env.code = .ref c) (CH:CodeHd X.base c Pt) (hB:Bm X.mg X.base)
  (U:oY scope X.env=pure []) (Y:defaultsOf params X.env=([],[])) (T:Tab H Pt pos ↥67)
  (k:∀f H' s' pm c' j,Inv X pins σ H' s'->H f=none->H' f=some (Ym f (uD ↥67 params body scope pm c' j))->H' c'=some (Zp c' ↥67)->Ext Pt H H'->Tab H' Pt pos ↥67->Q (.ref f) s') :
  ax ↥3 X.A (eval (.Lambda params body scope pos) X.env) Q E s:=by
 refine kla_eval Y ?_
 obtain ⟨bm,ob,b1,b2,K,b4,b5,V⟩:=hB
 obtain ⟨a2,aL⟩:=T.ne
 have trk:∀{b:Addr} {o:Obj},X.base.get? b=some o->b≠Pt:=λ{b o} e z=>by
  have:=(I.bs b o e).2
  rw [z,aL] at this;cases this
 have O:s.heap.Ns mainGlobals X.mg:=I.ok.mod.glob.keeps I.bk
 have am:mainGlobals≠Pt:=by
  obtain ⟨o,es,S,e,_⟩:=I.ok.mod.glob
  exact trk e
 have as:bm≠mainGlobals:=λq=>by
  obtain ⟨o,es,S,e,hd,_⟩:=I.ok.mod.glob
  rw [q,e] at K;cases K;rw [hd] at V;cases V
 have P:s.heap.BuiltinsAt X.mg Pt:=⟨bm,ob,b1,b2,as,trk K,I.bk _ _ K,b4,b5,V⟩
 have LS:∀(f:Addr) (fd:FuncData) (h1 h2:Heap),h1.get? f=some { cls:=.type "function",data:=.func fd }->(∀o,h1.get? f=some o->h2.get? f=some o)->h2.get? f=some { cls:=.type "function",data:=.func fd }:=λf fd h1 h2 e m=>m _ e
 have CS:∀(c:Addr) (q:Str) (h1 h2:Heap),h1.CodeRec (.ref c) q->(∀o,h1.get? c=some o->h2.get? c=some o)->h2.CodeRec (.ref c) q:=λc q h1 h2 ⟨c',o,vs,t,e,g,r⟩ m=>by
  cases e
  exact ⟨c,o,vs,t,rfl,m _ g,r⟩
 rcases T with h | ⟨c',h,J⟩
 ·have B:s.heap.get? Pt=some (sQ #[]):=I.hok Pt _ h
  refine kla_makeFunction (mg:=X.mg) U I.ok.glob O G (CH.keeps I.bk) B trivial rfl am P λc' j h' tk hx x N p ac=>?_
  have ap:H c'=none:=I.hok.fresh x
  have l:s.heap.objs.size<=h'.objs.size:=fF (bU x N)
  have d:H h'.objs.size=none:=I.hok.fresh l
  have M:∀{b:Addr} {o:Obj},s.heap.get? b=some o->b≠c':=λ{b o} e=>aB (aQ (av e) x)
  have L:∀{b:Addr} {o:Obj},s.heap.get? b=some o->b≠h'.objs.size:=λ{b o} e=>aB (aQ (av e) l)
  have a1:Pt≠c':=M B
  have a0:Pt≠h'.objs.size:=L B
  have an:c'≠h'.objs.size:=aB N
  have e':h'.get? Pt=some (sQ #[c0 pos.line,c0 pos.col,.ref c']):=by simpa using ac
  have a:∀{b:Addr} {o:HO},H b=some o->b≠Pt->upd ↥29 h'.objs.size ↥18 b=some o:=λ{b o} e n=>by
   rw [j7 (j1 e d),j7 (j1 e ap),j7 n];exact e
  have atP:upd ↥29 h'.objs.size ↥18 Pt=some (.tbl #[c0 pos.line,c0 pos.col,.ref c']):=by
   rw [j7 a0,j7 a1,j6]
  have C:upd ↥29 h'.objs.size ↥18 c'=some (Zp c' ↥67):=by
   rw [j7 an,j6]
  refine k h'.objs.size (upd ↥29 h'.objs.size ↥18) _ ((X.mg "__name__").getD .none) c' j ?_ d j6 C (λb o e n=>a e n) (.inr ⟨c',atP,C⟩)
  have i:∀b o,b≠Pt->s.heap.get? b=some o->(h'.push (kla_obj "<lambda>" ↥67 params body scope [] ((X.mg "__name__").getD .none) c' j)).get? b=some o:=λb o n e=>ai _ (hx b o n e)
  have D:∀{b:Addr},H b=none->b≠Pt:=λ{b} e z=>by rw [z,h] at e;cases e
  refine I.step (g':=s.gens) (d':=s.drawn) (ch:=[]) (λ_ z=>nomatch z) (λb o _ _ _ e n=>i b o (D n) e) (λb o _ _ _ e n=>⟨o.slots,i b o (D n) e⟩) (λb o _ e n=>?_) (λb o _ e=>?_) (λb xs e=>?_) (λb o u e=>?_) (λb ps e=>?_) (λm hm=>?_) (λb u e=>?_) I.bare
  ·rw [j7 (L e),j7 (M e),j7 (D n)];exact n
  ·by_cases y:b=Pt
   ·subst y;exact ⟨_,ai _ e'⟩
   ·exact ⟨o,i b o y e⟩
  ·exact a e (jo e h ↥44)
  ·exact a e (jo e h ↥44)
  ·by_cases y:b=Pt
   ·subst y
    rw [h] at e;cases e
    exact ⟨#[c0 pos.line,c0 pos.col,.ref c'],by rw [atP];simp⟩
   ·exact ⟨#[],by rw [a e y];simp⟩
  ·obtain ⟨o,es,S,ho,r⟩:=hm
   exact ⟨o,es,S,i _ o (D I.free) ho,r⟩
  ·by_cases h1:b=h'.objs.size
   ·subst h1
    rw [j6] at e;cases e
    exact ⟨az _ rfl,⟨_,az _ rfl⟩,λh1 h2 e m=>LS _ _ h1 h2 e m⟩
   ·by_cases h2:b=c'
    ·subst h2
     rw [C] at e;cases e
     obtain ⟨c2,oc,vs,t,e2,ae,r⟩:=id p
     cases e2
     exact ⟨p.keeps λb o e=>ai _ e,⟨_,ai _ ae⟩,λh1 h2 e m=>CS _ _ h1 h2 e m⟩
    ·by_cases R:b=Pt
     ·subst R
      rw [atP] at e;cases e
      exact ai _ e'
     ·rw [j7 h1,j7 h2,j7 R] at e
      refine (I.hok b u e).stay (λZ v hc q=>i Z v ?_ q) (λZ q=>a q (jo q h ↥44)) λZ xs q=>a q (jo q h ↥44)
      rcases hc with z | z
      ·rw [z];exact R
      ·exact jo z h ↥44
 ·have B:s.heap.get? Pt=some (sQ #[c0 pos.line,c0 pos.col,.ref c']):=I.hok Pt _ h
  have ab:TriplesOk (#[c0 pos.line,c0 pos.col,aU c']:Array aj).toList:=TriplesOk_snoc pos.line pos.col (.ref c') [] trivial
  have al:codeAmong pos (#[c0 pos.line,c0 pos.col,aU c']:Array aj).toList=some (.ref c'):=codeAmong_snoc (c:=.ref c') [] trivial rfl
  refine kla_makeFunctionHit (mg:=X.mg) U I.ok.glob O G (CH.keeps I.bk) B ab al P λj h' tk hk l=>?_
  have d:H h'.objs.size=none:=I.hok.fresh l
  refine k h'.objs.size (upd H h'.objs.size ↥18) _ ((X.mg "__name__").getD .none) c' j ?_ d j6 (by rw [j7 (j1 J d)];exact J) (Ext.new d) (.inr ⟨c',by rw [j7 (j1 h d)];exact h,by rw [j7 (j1 J d)];exact J⟩)
  exact I.laid (λb o e=>ai _ (hk b o e)) l ⟨az _ rfl,⟨_,az _ rfl⟩,λh1 h2 e m=>LS _ _ h1 h2 e m⟩
theorem Inv.adopt {D:Addr}{j:Obj}{h':Heap}{t':Nat}(I:Inv X ((D,j)::pins) σ H s) (h1:X.s₀.heap.objs.size<=D) (h2:∀x c,X.env.cells.lookup x=some c->c≠D) (G:∀p∈X.pn++pins,p.1≠D)
  (k:∀b u,b≠D->s.heap.get? b=some u->h'.get? b=some u) (new:qu X.prog X.w (upd H D o) h' D o):Inv X pins σ (upd H D o) { s with heap:=h',toks:=t' }:=by
 obtain ⟨B,nD,i,_,_⟩:=I.pin (D,j) (aC _ aK)
 have h:Inv X pins σ H s:=I.pins_of λp l=>I.pin p (aC _ (aH _ l))
 have g:∀b u,H b=some u->b≠D:=λb u e z=>by rw [z,nD] at e;cases e
 have a:∀{b:Addr} {u:HO},H b=some u->upd H D o b=some u:=λ{b u} e=>by rw [j7 (g b u e)];exact e
 refine h.step (g':=s.gens) (d':=s.drawn) (ch:=[D]) (λb f=>?_) (λb o _ _ d e _=>k b o (λz=>d (by simp [z])) e) (λb o _ _ d e _=>⟨o.slots,k b o (λz=>d (by simp [z])) e⟩) (λb o d _ n=>by rw [j7 (λz=>d (by simp [z]))];exact n)
  (λb o d e=>⟨o,k b o (λz=>d (by simp [z])) e⟩) (λ_ _ e=>a e) (λ_ _ _ e=>a e) (λb ps e=>⟨#[],by rw [a e];simp⟩) (λm y=>?_) (λb u e=>?_) h.bare
 ·have e:b=D:=by simpa using f
  subst e
  exact ⟨.inr h1,i,h2,G⟩
 ·obtain ⟨o,es,A,t,r⟩:=y
  exact ⟨o,es,A,k _ o (cx i) t,r⟩
 ·by_cases f:b=D
  ·subst f
   rw [j6] at e;cases e
   exact new
  ·rw [j7 f] at e
   refine (h.hok b u e).stay (λc v d q=>k c v ?_ q) (λ_ q=>a q) λ_ _ q=>a q
   rcases d with z | z
   ·rw [z];exact f
   ·exact g c _ z
end
end L2
end
section
namespace L2
open PySem.W
noncomputable def WU (H:Hp) (ks:List V) (z:Nat->List Int) (j:Nat):Prop:=ks.length=j/\∀i,i<j->∃q,ks[i]? = some (V.ref q)/\H q=some (.tup ((z i).map V.int))
theorem QB {a b:List aj}(h:a.length=b.length):(a.toArray.zip b.toArray).map (·.2)=b.toArray:=by
 apply Array.toList_inj.mp
 rw [rM,ksk_zip]
 show (a.zip b).map Aa=b
 rw [rO]
 omega
section
variable {X:Cx}{pins:List (Addr×Obj)}{σ:St}{H:Hp}{s:Shared}
theorem QH {U:Nat->List Int}{Q:aj->Shared->Prop}(I:Inv X pins σ H s) (hq:SqL X.K H p vs) (cL:vs.length<64) (b6:∀i,i<vs.length->U i≠[])
  (bd:∀i v,vs[i]? = some v->∀Y s' H' u,Inv X Y σ H' s'->jm H H'->jJ v u->ax ↥3 X.A.in1.in1 (call (.ref f) [u]) (EP X Y σ λkv a8=>jm H' a8/\∃q,kv = .ref q/\a8 q=some (.tup ((U i).map V.int))) (λ_ _=>False) s')
  (k:∀l H' bl s',Inv X pins σ H' s'->H l=none->H' l=some (.lst bl)->jm H H'->uC wP U vs bl->Q (.ref l) s') :
  ax ↥3 X.A (call (.builtin "sorted") [.ref p] [(ak "key",.ref f)]) Q E s:=by
 obtain ⟨its,rv,pl,hz⟩:=I.list hq
 have bu:its.length=vs.length:=rv.length.symm
 refine call_function_entry_kw sG pW pX (ksk_s1 _ _) ?_
 unfold eM.«sorted»
 refine aa (m:=t9 "sorted" 1 1 _) ↥47
 refine aa (collect_list pl.isList ?_ (by rw [bD];omega))
 refine aa (fS ?_ (by rw [bD];omega))
 have al: (↥8).objs.size=s.heap.objs.size+1:=by
  rw [dZ,pe]
 have S:((↥8).push ↥25).get? ↥16=some ↥25:=by
  rw [<- al];exact az _ rfl
 have keep:∀b o,s.heap.get? b=some o->((↥8).push ↥25).get? b=some o:=λb o q=>by
  have an:b<s.heap.objs.size:=av q
  rw [cP _ _ _ (by rw [al];exact aB (cf an)),c8 _ _ _ _ (aB an),cP _ _ _ (aB an)]
  exact q
 show ax _ _ _ _ _ { s with heap:=(↥8).push ↥25 }
 rw [al]
 refine aa (bA (wpAny_call_entry_kw nN ⟨_,S,rfl⟩ mT ?body (ksk_l1 _ _)))
 case body =>
  generalize (↥8).push ↥25=R at S keep
  generalize ha:s.heap.objs.size+1=a at S
  have a6:s.heap.objs.size<=a:=by rw [<- ha];exact fZ _
  have O:∀b o,s.heap.get? b=some o->b≠a:=λb o q=>by have:=av q;rw [<- ha];exact aB (cf this)
  show ax ↥3 X.A.in1.in1 (eM.«list.sort» ⟨[.ref a],[(ak "key",.ref f)]⟩) _ _ { s with heap:=R }
  rw [ksk_t1]
  unfold ksk_tree
  have cy:a<R.objs.size:=av S
  refine aa (mJ S rfl ?_)
  refine aa (cZ S rfl ?_ (by rw [aw,bD];omega) (aG _))
  obtain ⟨D,bn⟩:∃D,(R.update a ↥50).get? a=some (bB "list" #[] D):=⟨_,eS S (λ_=>#[])⟩
  refine aa (ft bn rfl ?_)
  refine aa (lJ ?_ (by show its.length<=_;rw [bD];omega))
  refine aa (fS ?_ (aG _))
  refine bA ?_
  have am: (↥83).get? a=some (bB "list" #[] D):=ai _ bn
  have Z:∀b o,s.heap.get? b=some o->(↥83).get? b=some o:=λb o q =>
   ai _ ((c8 _ _ _ _ (O b o q)).trans (keep b o q))
  show ax ↥3 X.A.in1.in1 (ksk_rest a (.ref f) false its.toArray D (.ref (↥83).objs.size)) _ _
   { s with heap:=(↥83).push ↥116 }
  generalize (R.update a ↥50).push (bB "tuple" its.toArray 0)=B at am Z
  have I5:Inv X pins σ H { s with heap:=B,toks:=s.toks }:=I.kept Z
  have a0:H a=none:=I.hok.fresh a6
  have aL:H B.objs.size=none:=I5.hok.fresh (ar _)
  have bv:a≠X.env.locals:=λz=>by
   obtain ⟨m,⟨o,es,ep,e,_⟩,_⟩:=I.loc
   exact O _ _ e z.symm
  have cl:a∉X.fs:=I.nofs a6
  have bk:∀x c,X.env.cells.lookup x=some c->c≠a:=λx c e=>by
   obtain ⟨v,o,e2,_⟩:=I.cell x c e
   exact O c o e2
  have bi:∀q∈X.pn++pins,q.1≠a:=λq hq=>O _ _ (I.pin q hq).1
  have I6:Inv X ((a,bB "list" #[] D)::pins) σ (upd H B.objs.size (.lst [])) { s with heap:=B.push ↥116,toks:=s.toks }:=by
   refine Inv.pins_of (I5.lnew (its:=[]) (ys:=[]) .nil (aG _)) λq hq=>?_
   rcases List.mem_cons.mp hq with rfl | hq
   ·refine ⟨ai _ am,?_,bv,cl,λv=>by intro z;cases z⟩
    rw [j7 (aB (av am))]
    exact a0
   ·have J:=(I5.lnew (its:=[]) (ys:=[]) (t':=s.toks) .nil (aG _)).pin q (aC _ hq)
    exact J
  unfold ksk_rest
  refine aa (eN ?_)
  first
   | rw [List.forIn_toArray]
   | (rw [<- pf];simp only [List.toList_toArray])
   | rw [<- pf]
  refine aa (ksk_fold (λj s'=>∃H' ks,Inv X ((a,bB "list" #[] D)::pins) σ H' s'/\jm H H'/\H' B.objs.size=some (.lst ks)/\WU H' ks U j) its 0 _
   ⟨_,[],I6,jm.new aL,j6,rfl,λi hi=>absurd hi (iX _)⟩ (λj x s' hx hJ=>?_) λs' hJ=>?_)
  ·-- a key
   rw [ig] at hJ ⊢
   obtain ⟨H',ks,J,sm,hk,hl,as⟩:=hJ
   have hj:j<its.length:=(List.getElem?_eq_some_iff.mp hx).1
   have hv:vs[j]? = some (vs[j]'∅):=af ∅
   obtain ⟨u,e5,ru⟩:=rv.get hv
   rw [hx] at e5
   cases e5
   refine aa (fc (aZ (bd j _ hv _ s' H' x J sm ru) (λkv b0 cb=>?_) λ_ _ hF=>hF.elim))
   obtain ⟨ct,a8,J2,rk,ac,q,rfl,bm⟩:=cb
   dsimp only
   have ab:=ac _ _ hk
   obtain ⟨z,y,n,ae,ap,ek⟩:=J2.lstM ab
   refine aa (cZ ek rfl ?_ (by rw [aw,<- ap,hl,bD];omega) (aI (pG (Array.size_push ..)) (by rw [aw,<- ap,hl,bD];omega)))
   refine wpAny_pure ⟨rfl,_,ks++[.ref q],J2.lset (t':=b0.toks) (its':=y++[kv]) ab ek (by simp) (ae.append (.cons rk .nil)) (by rw [ao,br,hl];exact aI (by omega:j+1<=1000) ⋯),λb o e=>?_,j6,?_,λi hi=>?_⟩
   ·rw [j7 (j1 e aL)]
    exact ac _ _ (sm _ _ e)
   ·rw [ao,br,hl]
   ·by_cases cd:i<j
    ·obtain ⟨q',e6,e7⟩:=as i cd
     refine ⟨q',by rw [cV ∅];exact e6,?_⟩
     have e8:=ac _ _ e7
     rw [j7 (jo e8 ab ↥44)]
     exact e8
    ·have:i=j:=∅
     subst this
     refine ⟨q,by rw [bX ∅,hl];simp,?_⟩
     rw [j7 (jo bm ab ↥44)]
     exact bm
  ·-- cn cs keys
   rw [ig] at hJ
   obtain ⟨H',ks,J,sm,hk,hl,as⟩:=hJ
   obtain ⟨z,y,n,ae,ap,ek⟩:=J.lstM hk
   have hlk':y.length=its.length:=∅
   refine aa (mJ ek rfl ?_)
   obtain ⟨eD,nD,_⟩:=J.pin (a,bB "list" #[] D) (aC _ aK)
   have ci:a≠B.objs.size:=λz=>by rw [z,hk] at nD;cases nD
   have N:∀i,i<its.length->∃q d o m,y.getD i aX = .ref q/\s'.heap.get? q=some o/\o.cls = .type "tuple" /\ o.data = .seq d.toArray m/\di d (U i):=λi hi=>by
    obtain ⟨q,e6,e7⟩:=as i hi
    obtain ⟨u,e8,ru⟩:=ae.get e6
    cases ru
    obtain ⟨zz,d,rq,o,e9,ec,m,ed⟩:=J.hok q _ e7
    exact ⟨q,d,o,m,by rw [aq,e8];rfl,e9,ec,ed,zL rq⟩
   have M:∀(L:List Nat) (g:SortSt),L.Perm (aJ its.length)->(L.map U).Pairwise wP.kle->tu g=none->(arrOf g).map (·.2)=(L.map λi=>its.getD i aX).toArray ->
     ax ↥3 X.A.in1.in1 (ksk_tail a false D (.ref B.objs.size) g) (λM s'=>∃v,M = .done (.ret v)/\ax ↥3 X.A.in1 (do let _ <- pure v;ret (aU a)) (λM s'=>∃v,M = .done (.ret v)/\Q v s') E s') E s':=by
    intro L g hp hg hf bs
    unfold ksk_tail
    dsimp only
    rw [bs]
    have cv:(L.map λi=>its.getD i aX).length<64:=by rw [ah,hp.length_eq,bz];omega
    refine aa (cZ ek rfl ?_ (by rw [aw,hlk',bD];omega) (aG _))
    refine aa (nQ ?_)
    have J2:Inv X ((a,bB "list" #[] D)::pins) σ (upd H' B.objs.size (.lst [])) { s' with heap:=s'.heap.update B.objs.size ↥50,toks:=s'.toks }:=J.lset (its':=[]) (ys:=[]) hk ek rfl .nil (aG _)
    have a7:(s'.heap.update B.objs.size ↥50).get? a=some (bB "list" #[] D):=(c8 _ _ _ _ ci).trans eD
    refine aa (ft a7 rfl ?_)
    refine aa (cZ a7 rfl ?_ (aG _) (by simp only [ck,if_false];rw [aw,bD];omega))
    rw [hf]
    simp only [bne_self_eq_false,ck,if_false]
    refine wpAny_pure ⟨_,rfl,aa (wpAny_pure (wpAny_pure ⟨_,rfl,?_⟩))⟩
    have eo:∃n,((s'.heap.update B.objs.size ↥50).update a (b8 λ_=>(L.map λi=>its.getD i aX).toArray)).get? a=some (bB "list" (L.map λi=>its.getD i aX).toArray n):=⟨_,eS a7 λ_=>_⟩
    obtain ⟨n',eo⟩:=eo
    have J3:=J2.adopt (o:=.lst (L.map λi=>vs.getD i V.non)) (t':=s'.toks) (aI I.sz a6) bk bi
     (h':=(s'.heap.update B.objs.size ↥50).update a (b8 λ_=>(L.map λi=>its.getD i aX).toArray)) (λb u n e=>(c8 _ _ _ _ n).trans e) ⟨by rw [ah,hp.length_eq,bz];exact aI (by omega:its.length<=1000) ⋯,_,n',uT rv L,eo⟩
    refine k a _ _ _ J3 a0 j6 (λb o e=>?_) ⟨L,by rw [<- bu];exact hp,rfl,hg⟩
    rw [j7 (j1 e a0),j7 (j1 e aL)]
    exact sm _ _ e
   unfold ksk_end
   dsimp only
   simp only [ck,if_false]
   by_cases h2:its.toArray.size<2
   ·rw [if_pos h2,if_pos h2]
    refine aa ↥47
    rw [mU]
    refine aa ↥47
    dsimp only
    rw [aw] at h2
    refine M (aJ its.length) _ (nO _) ?_ rfl ?_
    ·have a9:its.length=0\/its.length=1:=∅
     rcases a9 with z | z
     ·rw [z];exact ib
     ·rw [z];exact i0 _ _
    ·rw [ui]
     exact QB hlk'
   ·rw [if_neg h2,if_neg h2]
    rw [aw] at h2
    have bq:∃fs,KatTups s'.heap y fs/\0<fs.length/\∀v∈fs,Looks ↥3 s'.heap (oX v) (.type "int"):=by
     have go:∀(l:List aj),(∀i,i<l.length->∃q d o m ns,l.getD i aX = .ref q/\s'.heap.get? q=some o/\o.cls = .type "tuple" /\ o.data = .seq (pY d) m/\di d ns/\ns≠[]) ->
       ∃fs,KatTups s'.heap l fs/\fs.length=l.length/\∀v∈fs,Looks ↥3 s'.heap (oX v) (.type "int"):=by
      intro l
      induction l with
      | nil=>intro _;exact ⟨[],.nil,rfl,λ_ h=>nomatch h⟩
      | cons v l ih =>
       intro h
       obtain ⟨fs,t,e,lk⟩:=ih λi hi=>h (i+1) (by rw [bf];omega)
       obtain ⟨q,d,o,m,ns,D,e2,e3,e4,e5,e6⟩:=h 0 (by rw [bf];omega)
       have cm:v = .ref q:=D
       subst cm
       cases e5 with
       | nil=>exact absurd rfl e6
       | cons n t' r =>
        refine ⟨.int n t'::fs,KatTups.cons e2 e3 e4 (by simp) t,by rw [bf,bf,e],λv hv=>?_⟩
        rcases List.mem_cons.mp hv with rfl | hv
        ·exact tT rfl
        ·exact lk v hv
     obtain ⟨fs,t,e,lk⟩:=go y λi hi=>by
      obtain ⟨q,d,o,m,a1,a2,a3,a4,a5⟩:=N i ∅
      exact ⟨q,d,o,m,U i,a1,a2,a3,a4,a5,b6 i ∅⟩
     exact ⟨fs,t,∅,lk⟩
    obtain ⟨fs,t,ce,lk⟩:=bq
    refine aa (kat_kind (T:=.type "int") t ce lk rfl ?_)
    rw [show (iH "int" != iH "tuple")=true from rfl]
    refine aa (aZ (kat_run (ks:=y) (vs:=its) (κ:=tuples' true) (G:=λp P=>(qE its.length p/\(p.toList.map U).Pairwise wP.kle)/\P=s') (Q:=λg P=>∃p:Array Nat,arrOf g=p.map (Ac (y.toArray.zip its.toArray))/\tu g=none/\(qE its.length p/\(p.toList.map U).Pairwise wP.kle)/\P=s')
     hlk' ∅ ∅ (λp g s' a1 a2 a3 a4=>⟨p,a2,a3,a4⟩) (xu.wp (lt:=ltK wP U) (n:=its.length) (I:=λP=>P=s') (λi j C P hi hj hI hC=>?_) (λp P hp hI=>⟨hp,hI⟩) (km ∅ λp' hP hS=>⟨hP,hS.pairwise hP.size⟩) rfl)) ?_ λ_ _ e=>e)
    ·subst hI
     obtain ⟨q,d,o,m,a1,a2,a3,a4,a5⟩:=N i hi
     obtain ⟨q',cr,o',m',b1,b2,b3,b4,b5⟩:=N j hj
     unfold kas_ask
     rw [a1,b1]
     exact Zo a2 a4 b2 b4 a5 b5 (hC _ rfl)
    ·rintro ⟨⟨⟩,g⟩ P ⟨p,ch,hf,⟨hP,hG⟩,rfl⟩
     dsimp only
     exact M p.toList g (by have:=Array.perm_iff_toList_perm.mp hP;simpa using this) hG hf (Ad hlk' ch)
end
end L2
end
section
namespace L2
open PySem.W
section
variable {prog:Program}{w:bo}{A:bx}{E:aj->Shared->Prop}{s:Shared}
theorem XY (n:Nat):fL none none (-1) (n:Int)=((n:Int)-1,-1):=by
 unfold fL
 simp
theorem XV (n:Nat):dE ((n:Int)-1) (-1) (-1)=n:=by
 unfold dE
 have h1:¬((-1:Int) > 0):=⋯
 simp only [h1,if_false]
 by_cases h:n=0
 ·subst h;simp
 ·rw [show (- -1:Int)=1 by decide]
  simp only [Int.ediv_one]
  split <;> omega
theorem wt {n:Nat}{Q:Int×Int×Nat->Shared->Prop}(hs:s.heap.IsSliceOf z .none .none j) (G:sY j (some (-1)))
  (h:Q ((n:Int)-1,-1,n) s):ax (aD prog w) A (lK (.ref z) (pure (n:Int))) Q E s:=by
 obtain ⟨os,a,c,b⟩:=id hs
 unfold lK Builtin.Slice.sliceFields
 refine aa (aa (bG a b (x:=.none) rfl (aa (bG a b (x:=.none) rfl (aa (bG a b (x:=j) rfl ↥47))))))
 refine aa (HT.slicePart_ G ?_)
 show ax _ _ (if ((-1:Int) == 0)=true then _ else _) _ _ s
 rw [if_neg ⋯]
 refine aa (HT.slicePart_ .none (aa (HT.slicePart_ .none (aa ↥47))))
 show ax _ _ (match fL none none (-1) (n:Int) with | (lo,hi)=>pure (lo,(-1:Int),dE lo hi (-1))) _ _ s
 rw [XY n]
 show ax _ _ (pure ((n:Int)-1,(-1:Int),dE ((n:Int)-1) (-1) (-1))) _ _ s
 rw [XV]
 exact wpAny_pure h
theorem VS (xs:Array aj):((aJ xs.size).filterMap λ(m:Nat)=>xs[(((xs.size:Int)-1)+(m:Int) * -1).toNat]?).toArray=xs.toList.reverse.toArray:=by
 have e:((aJ xs.size).filterMap λ(m:Nat)=>xs[(((xs.size:Int)-1)+(m:Int) * -1).toNat]?)=((aJ xs.size).map λk=>xs.size-1-k).filterMap (xs[·]?):=by
  rw [List.filterMap_map]
  congr 1
  funext m
  show xs[(((xs.size:Int)-1)+(m:Int) * -1).toNat]? = xs[xs.size-1-m]?
  congr 1
  omega
 rw [e,krv_range,List.filterMap_reverse,krv_all]
theorem uz {t:Addr}{Q:aj->Shared->Prop}(j:tW s.heap t items) (hs:s.heap.IsSliceOf z .none .none G) (I:sY G (some (-1)))
  (h:Q ↥11 { s with heap:=s.heap.push { cls:=.type "tuple",data:=.seq items.toList.reverse.toArray } }) (hsz:items.size<=sizeLine):ax (aD prog w) A (mD (.ref t) (.ref z)) Q E s:=by
 have a:sizeOk (.seq items.toList.reverse.toArray):=by
  show items.toList.reverse.toArray.size<=sizeLine
  rw [aw,lp,cS]
  exact hsz
 obtain ⟨os,b,c,e⟩:=id hs
 have d:s.TypeIs (.ref z) "slice":=⟨os,b,c⟩
 unfold mD
 try with_reducible refine bA ?_
 first | refine aa ↥47 | skip
 refine aa (wpAny_sequenceKey j.typeIs ⋯ ?_)
 refine aa (cj (name:=ak "__getitem__") j.typeIs iA
  (cI iA j.typeIs entry_tuple_getitem ?_ (args_tuple_getitem _ _)))
 show ax _ _ (Builtin.Tuple.tupleItemsOf (.ref t) >>= _) _ _ s
 refine aa (tupleItemsOf_ j ?_)
 refine aa (lu d ?_)
 rw [if_pos ⋯]
 refine aa (wt hs I ?_)
 show ax _ _ (if (((items.size:Int)-1) == 0 && (-1:Int) == 1 && items.size == items.size)=true then _ else _) _ _ s
 rw [if_neg (by simp),VS]
 first
  | exact aa (m:=dS _) (bS ↥126 a)
  | exact aa (m:=dS _) (bS (aa (wpAny_pure ↥126)) a)
  | exact aa (aa (m:=dS _) (bS (wpAny_pure ↥126) a))
  | exact aa (aa (m:=dS _) (bS ↥126 a))
end
section
variable {X:Cx}{e:Expr}{te:TE}{pos p2 p3 p4:Pos}{j3:Nat}
inductive tRevTI (K:ag) (Q:VK) (x:V) (H2:Hp):Prop
 | mk (a:_) (xs:_) (_:x = .ref a) (_:SqT K H2 a xs) (_:New H2 (.tup xs.reverse) Q)
noncomputable def Ep (K:ag) (te:TE):TE:=λσ H Q=>te σ H λx H2=>tRevTI K Q x H2
inductive tRevLI (K:ag) (Q:VK) (x:V) (H2:Hp):Prop
 | mk (a:_) (xs:_) (_:x = .ref a) (_:SqL K H2 a xs) (_:New H2 (.lst xs.reverse) Q)
noncomputable def Er (K:ag) (te:TE):TE:=λσ H Q=>te σ H λx H2=>tRevLI K Q x H2
theorem Wa (K:ag) (z:PE X e te) (G:X.K=K:=by rfl):PE X (.Subscript e ↥48 pos) (Ep K te):=by
 subst G
 intro pins s σ H Q I h
 refine mE (thn ↥112 λv s1 ⟨x,H1,E,l,m⟩=>?_)
 refine sA ?_
 rw [lY]
 refine wpAny_pure ?_
 refine wpAny_pure ?_
 rw [oI]
 obtain ⟨a,xs,rfl,p,q⟩:=m
 refine thn (vd zG j5 pins s1 σ H1 (λy H2=>y = .int (-1)/\H2=H1) E ⟨_,rfl,rfl,rfl⟩) λu c ⟨y,J,D,k,B,C⟩=>?_
 subst B C
 obtain ⟨tk,rfl⟩:=k
 cases l
 have f:Inv X pins σ J { c with heap:=c.heap.push { cls:=.type "slice",data:=.fields #[.none,.none,.int (-1) tk] } }:=D.kept (t':=c.toks) λb n q=>ai _ q
 obtain ⟨g,r,j,i⟩:=f.tuple p
 have d:g.toArray.size=xs.length:=by rw [aw];exact r.length.symm
 show ax ↥3 X.A (iM e ↥48 (.ref a) (.ref c.heap.objs.size)) ↥61 X.xe { c with heap:=c.heap.push { cls:=.type "slice",data:=.fields #[.none,.none,.int (-1) tk] } }
 refine A8 (ops:=[.ref a,.ref c.heap.objs.size]) j.typeIs PyProof.Rows.slot_tuple_getitem.lookup ?_ ↥52
 refine uz j (lI ..) (.int _ _) ?_ (by rw [d];exact i)
 have t:=f.hok.fresh (ar _)
 refine ⟨.ref _,_,f.laid (t':=c.toks) (o:=.tup xs.reverse) (λb n q=>ai _ q) (ar _) ?_,rfl,q.at _ t⟩
 exact ⟨by rw [lp];exact i,_,r.reverse,tY _ _⟩
theorem Up (K:ag) (z:PE X e te) (G:X.K=K:=by rfl):PE X (.Subscript e ↥48 pos) (Er K te):=by
 subst G
 intro pins s σ H Q I h
 refine mE (thn ↥112 λv s1 ⟨x,H1,E,j,k⟩=>?_)
 refine sA ?_
 rw [lY]
 refine wpAny_pure ?_
 refine wpAny_pure ?_
 rw [oI]
 obtain ⟨a,xs,rfl,n,q⟩:=k
 refine thn (vd zG j5 pins s1 σ H1 (λy H2=>y = .int (-1)/\H2=H1) E ⟨_,rfl,rfl,rfl⟩) λu c ⟨y,J,D,i,B,C⟩=>?_
 subst B C
 obtain ⟨tk,rfl⟩:=i
 cases j
 have d:Inv X pins σ J { c with heap:=c.heap.push { cls:=.type "slice",data:=.fields #[.none,.none,.int (-1) tk] } }:=D.kept (t':=c.toks) λb l q=>ai _ q
 obtain ⟨f,r,g,m⟩:=d.list n
 have p:f.length=xs.length:=r.length.symm
 show ax ↥3 X.A (iM e ↥48 (.ref a) (.ref c.heap.objs.size)) ↥61 X.xe { c with heap:=c.heap.push { cls:=.type "slice",data:=.fields #[.none,.none,.int (-1) tk] } }
 refine A8 (ops:=[.ref a,.ref c.heap.objs.size]) g.isList.typeIs slot_list_getitem.lookup ?_ ↥52
 refine lZ g.isList (lI ..) .none .none (.int _ _) ⋯ ?_ (by rw [aw];omega)
 rw [krv_pick]
 have t:=d.hok.fresh (ar _)
 refine ⟨.ref _,_,d.laid (t':=c.toks) (o:=.lst xs.reverse) (λb l q=>ai _ q) (ar _) ?_,rfl,q.at _ t⟩
 exact ⟨by rw [lp];exact m,_,0,r.reverse,az _ rfl⟩
end
theorem SqL.extT {K:ag}{H:Hp}{xs:List V}(j:H Pt=some (.tbl ps)) (x:Ext Pt H H') (h:SqL K H a xs):SqL K H' a xs:=by
 rcases h with (h | ⟨o,h⟩) | h
 ·exact .inl (.inl (x _ _ h (jo h j ↥44)))
 ·exact .inl (.inr ⟨o,x _ _ h (jo h j ↥44)⟩)
 ·exact .inr h
section
variable {X:Cx}{e body:Expr}{ta:TA}{tb:TE}{params:Arguments}{scope:Scope}{lpos kpos p pos:Pos}{N:List Str}{x:Str}{c Pt:Addr}{k:Nat}
noncomputable def WN (K:ag) (Pt:Addr) (lpos:Pos) (j:Str) (N:List Str) (ta:TA) (tb:TE):TE:=λσ H Q=>ta σ H λxs H1=>Tab H1 Pt lpos j/\∃(p:Addr) (b:List V) (a:Nat->List Int),xs=[.ref p]/\SqL K H1 p b/\b.length<64/\(∀i,i<b.length->a i≠[]) /\
 (∀H2,Ext Pt H1 H2->∀i v,b[i]? = some v->tb (start N [v]) H2 λe d=>jm H2 d/\∃q,e = .ref q/\d q=some (.tup ((a i).map V.int))) /\
 ∀l H2 c,H1 l=none->H2 l=some (.lst c)->Ext Pt H1 H2->Tab H2 Pt lpos j->uC wP a b c->Q (.ref l) H2
theorem ZE (hg:Gl X "sorted") (hm:X.mg "sorted" = none) (ha:PA X [e] ta) (G:X.env.code = .ref c) (CH:CodeHd X.base c Pt) (hB:Bm X.mg X.base) (hr:Room (k+3) X.A) (S:FnScope N [x] scope)
  (hb:∀pm c ab u,cG (uD ↥67 params body scope pm c ab) ⟨[u],[]⟩=pure [(x,u)])
  (U:∀f Y s H,PE (vN CX0 X.prog X.w X.K X.mg X.base N ↥67 scope f (.ref Y) X.A.in1.in1 X.stack s H E0).nox body tb)
  (ae:oY scope X.env=pure []:=by rfl) (ac:defaultsOf params X.env=([],[]):=by rfl)
  (he:cM pos (aR [e] X.env)=↥40::cM pos (aR [] X.env):=by rfl) (j:(cM pos (aR [e] X.env)).any (·.1)=false:=by rfl) :
  PE X (.Call (.Name "sorted" p) [e] [⟨some (ak "key"),.Lambda params body scope lpos,kpos⟩] pos) (WN X.K Pt lpos ↥67 N ta tb):=by
 intro pins s σ H Q I h
 refine cW (yS I hg hm sH ?_ ⋯ ⋯)
 refine callWith_kw (thn ↥98 λus s1 ⟨vs,H1,I1,r,q⟩=>?_) he j
 show ax _ _ (evalAll ((do let v <- eval (.Lambda params body scope lpos) X.env;fG pos;pure v)::[])) _ _ s1
 obtain ⟨T,a,xs,al,e1,hx,M,B,t,b⟩:=q
 subst e1
 obtain ⟨u0,rfl,o⟩:=vv r
 cases o
 obtain ⟨an,L⟩:=T.ne
 refine wpAny_evalAll_cons (aa (VF I1 G CH hB ae ac T λf H2 Z pm Y ab I2 hf D J m O=>aa (cY (wpAny_pure (wpAny_evalAll_nil ?_)))))
 show ax _ _ (call (.builtin "sorted") [.ref a] [(ak "key",.ref f)]) _ _ Z
 refine QH I2 (SqL.extT L m hx) M B (λi v hv R s' H' u n d o=>?_) λl P y s' I3 g C d hs=>?_
 ·have X3:Ext Pt H1 H':=m.trans (Ext.of_same d)
  obtain ⟨ho,_⟩:=n.hok f _ (d _ _ D)
  obtain ⟨E,_⟩:=n.hok Y _ (d _ _ J)
  refine fV (dh (Wj (k:=k) ho E S (hr.in1.in1) n.env0.in1.in1 hb o (U f Y s' H') (t H' X3 i v hv)) λr am b=>?_)
  cases r with
  | error e=>exact bw b
  | ok fl =>
   cases fl with
   | ret u=>exact n.after b
   | next=>exact bw b
   | brk=>exact bw b
   | cont=>exact bw b
 ·exact ⟨.ref l,P,I3,rfl,b l P y (m.free g (λz=>by rw [z] at g;obtain ⟨p2,V⟩:=O.ne;rw [V] at g;cases g)) C (m.trans (Ext.of_same d)) (O.same d) hs⟩
end
end L2
end
section
namespace L2
open PySem.W
theorem Yo {P:Program}{w:bo}{K:ag}{k:Nat}{fa a Pt:Addr}{x:Str}{s₁:Shared}{vs:List aj}
  (KX:K.In s₁.heap) (Y:s₁.heap.Ns mainGlobals mg) (j:s₁.heap.Ns mB mb) (ae:∀x:Str,x ≠ "__name__" -> mb x=fE x) (ab:s₁.heap.NoLimit) (hg:s₁.gens = #[])
  (I:s₁.heap.get? a=some { cls:=.type "list",data:=.seq vs.toArray }) (hi:di vs ns) (hl:ns.length<=sizeLine) (hr:Room k ow)
  (G:s₁.heap.get? Pt=some (sQ #[])) (al:K.lookup Pt=none) (CH:CodeHd s₁.heap c Pt) (hB:Bm mg s₁.heap)
  (F:∀base:Heap,K.In base->base.Ns mainGlobals mg->Bm mg base->FnOk P w K mg base CX0 k fa fd [x] sp) (U:∀(s:Shared) (u:aj),pN s fd ⟨[u],[]⟩ [(x,u)])
  (ac:∀H:Hp,SqL K H a (ns.map V.int)->H Pt=some (.tbl #[])->sp [.ref a] H (λv _=>v = .bl true) λ_ _ _=>False) :
  cO (aD P w) ow (.call (.ref fa) ⟨[.ref a],[]⟩) (λr s'=>r = .ok (.ret (.bool true))/\OldK s₁.heap s'.heap/\s'.os=s₁.os/\iL s'.gens) s₁:=by
 have R:=w5 hi
 have M:=hi.length
 have y:∀H:Hp,H Pt=some (.tbl #[])->(∀b,b≠Pt->H b=none\/∃o xs,H b=some (.frz o (.lst xs)))->SqL K H a (ns.map V.int)->HOk P w H s₁.heap->(∀b,H b≠none->b=a\/b=Pt)->(H a≠none->K.lookup a=none) ->
   cO (aD P w) ow (.call (.ref fa) ⟨[.ref a],[]⟩) (λr s'=>r = .ok (.ret (.bool true))/\OldK s₁.heap s'.heap/\s'.os=s₁.os/\iL s'.gens) s₁:=by
  intro H T hO hS C Z hK
  have g:∀{b:Addr} {o:Obj},s₁.heap.get? b=some o->H b=none->(Jh s₁.heap H).get? b=some o:=λe n=>U4 e n
  have B:∀{b:Addr} {o:Obj},s₁.heap.get? b=some o->(∀xs n,o.data≠.seq xs n)->(∀vs,o.data = .fields vs->o.cls≠.none)->H b=none:=λ{b o} e d1 d2=>by
   cases q:H b with
   | none=>rfl
   | some u =>
    rcases Z b (by rw [q];simp) with e' | e'
    ·subst e'
     rw [I] at e;cases e
     exact absurd rfl (d1 _ _)
    ·subst e'
     rw [G] at e;cases e
     exact absurd rfl (d2 _ rfl)
  have S:∀{b:Addr} {o:Obj} {es:Array DictEntry} {A:Nat},s₁.heap.get? b=some o->o.data = .dict es A->H b=none:=λ{b o es A} e d =>
   B e (λxs n z=>by rw [d] at z;cases z) (λvs z=>by rw [d] at z;cases z)
  have l:∀{b:Addr} {m:Str->Option aj},s₁.heap.Ns b m->(Jh s₁.heap H).Ns b m:=λ{b m} ⟨o,es,A,e,d,r⟩=>⟨o,es,A,g e (S e d),d,r⟩
  have J:K.In (Jh s₁.heap H):=λb o e=>g (KX b o e) (by
   cases q:H b with
   | none=>rfl
   | some u =>
    rcases Z b (by rw [q];simp) with e' | e'
    ·subst e'
     rw [hK (by rw [q];simp)] at e;cases e
    ·subst e'
     rw [al] at e;cases e)
  have X:Bm mg (Jh s₁.heap H):=by
   obtain ⟨bm,L,b1,b2,b3,b4,b5,Q⟩:=hB
   exact ⟨bm,L,b1,b2,g b3 (B b3 (λxs n z=>by rw [Q] at z;cases z) λvs z=>by rw [Q] at z;cases z),b4,b5,Q⟩
  have hM:Mod K mg (Jh s₁.heap H):=⟨J,l Y,⟨mb,l j,ae⟩,let ⟨mc,h1,h2⟩:=ab;⟨mc,l h1,h2⟩⟩
  have e0:Env0 P w K mg (Jh s₁.heap H) ow [] s₁ H:=⟨rfl,hM,λb o e=>UC e,pG (V4 _ _),trivial,λb j=>absurd (show b∈([]:List Addr) from j) (by simp),C,.of_eq hg⟩
  refine dh ((F _ J (l Y) X).run ow [] s₁ H ⟨[.ref a],[]⟩ [.ref a] [.ref a] _ _ hr e0 (U s₁ (.ref a)) (.cons rfl .nil) (ac H hS T)) λr s' h=>?_
  cases r with
  | error e=>exact bw h
  | ok fl =>
   cases fl with
   | next=>exact bw h
   | brk=>exact bw h
   | cont=>exact bw h
   | ret u =>
    obtain ⟨v,H',os,O,un,t,r',q⟩:=h
    have q':v = .bl true:=q
    subst q'
    obtain rfl:u=mz true:=r'
    have kp:∀b o,b≠Pt->s₁.heap.get? b=some o->s'.heap.get? b=some o:=λb o j e=>by
     cases q:H b with
     | none=>exact un.keep b o e q (by intro z;exact absurd (show b∈([]:List Addr) from z) (by simp)) (by simp)
     | some u =>
      rcases hO b j with z | ⟨L,xs,z⟩
      ·rw [q] at z;cases z
      ·have z2:=un.frzs b L _ z
       obtain ⟨e1,_⟩:=C b _ z
       obtain ⟨e2,_⟩:=t b _ z2
       rw [e] at e1;cases e1
       exact e2
    obtain ⟨p,hm⟩:=un.tbls Pt _ T
    have D:s'.heap.get? Pt=some { cls:=.none,data:=.fields (#[]++p) }:=t Pt _ hm
    refine ⟨rfl,⟨λb o e=>?_,λb o e=>?_⟩,os,O⟩
    ·by_cases j:b=Pt
     ·subst j
      rw [G] at e;cases e
      exact .inr (.inl ⟨(CH.tab G).isCodeTable,rfl,#[],p,rfl,D⟩)
     ·exact .inl (kp b o j e)
    ·by_cases j:b=Pt
     ·subst j;exact ⟨_,D⟩
     ·exact ⟨o,kp b o j e⟩
 have E:a≠Pt:=λz=>by rw [z,G] at I;cases I
 cases N:K.lookup a with
 | some o =>
  have e:=KX a o N
  rw [I] at e
  cases e
  refine y (λb=>if b=Pt then some (.tbl #[]) else none) (if_pos rfl) (λb j=>.inl (if_neg j)) (.inr ⟨_,vs.toArray,_,N,rfl,rfl,rfl,by rw [aw,M];exact hl,by simpa using R⟩) (λb u z=>?_) (λb z=>?_) λz=>absurd (if_neg E) z
  ·by_cases j:b=Pt
   ·have i:=(if_pos j).symm.trans z
    cases i
    subst j
    exact G
   ·have i:=(if_neg j).symm.trans z
    cases i
  ·by_cases j:b=Pt
   ·exact .inr j
   ·exact absurd (if_neg j) z
 | none =>
  refine y (λb=>if b=Pt then some (.tbl #[]) else if b=a then some (.frz { cls:=.type "list",data:=.seq vs.toArray } (.lst (ns.map V.int))) else none) (if_pos rfl) (λb j=>?_)
   (.inl (.inr ⟨{ cls:=.type "list",data:=.seq vs.toArray },(if_neg E).trans (if_pos rfl)⟩)) (λb u z=>?_) (λb z=>?_) λ_=>N
  ·by_cases f:b=a
   ·exact .inr ⟨_,_,(if_neg j).trans (if_pos f)⟩
   ·exact .inl ((if_neg j).trans (if_neg f))
  ·by_cases j:b=Pt
   ·have i:=(if_pos j).symm.trans z
    cases i
    subst j
    exact G
   ·by_cases f:b=a
    ·have i:=((if_neg j).trans (if_pos f)).symm.trans z
     cases i
     subst f
     exact ⟨I,by rw [ah];exact hl,vs,_,R,I⟩
    ·have i:=((if_neg j).trans (if_neg f)).symm.trans z
     cases i
  ·by_cases j:b=Pt
   ·exact .inr j
   ·by_cases f:b=a
    ·exact .inl f
    ·exact absurd ((if_neg j).trans (if_neg f)) z
inductive spLawT (K:ag) (Pt:Addr) (vs:List V) (H:Hp) (Q:VK) (z_3:XK):Prop
 | mk (a:Addr) (ns:List Int) (_:vs=[.ref a]) (_:SqL K H a (ns.map V.int)) (_:ns.length<=63) (_:H Pt=some (.tbl #[])) (_:∀H',Q (.bl true) H')
theorem Ul {l:sJ}{loose:List Str}{YP:bo->Heap->Prop}{d:DefRec}{K:Ag->ag}(k:Nat) (c Pt:Addr) (U:Room k ow) (hn:l.most=some 63) (z:d.params.defaults=[])
  (hY:∀(w:bo) (h:Heap),YP w h->(K w.params).In h/\h.get? Pt=some (sQ #[])) (I:∀p:Ag,(K p).lookup Pt=none) (hC:∀p:Ag,codeHdIn (K p) c Pt=true)
  (F:∀(w:bo) (mg:Str->Option aj) (j:Addr) (h:Heap),(K w.params).In h->h.Ns mainGlobals mg->mg d.name=some (.ref j) ->
   ∃fd:FuncData,(∀(s:Shared) (u:aj),pN s fd ⟨[u],[]⟩ [("_law_script",u)])/\∀base:Heap,(K w.params).In base->base.Ns mainGlobals mg->Bm mg base->FnOk l.prog w (K w.params) mg base CX0 k j fd ["_law_script"] (spLawT (K w.params) Pt)) :
  PySem.W.WalkO q loose XP YP l.row.toRowW d [] (λf vs=>PySem.call f vs):=by
 refine Att.attach_call hn z λw J E mg L j o pm O doc a vs t G Y M N D r m i e v=>?_
 obtain ⟨n,y⟩:=hY w _ Y
 obtain ⟨fd,x,C⟩:=F w mg j _ n G.T.g r
 exact Yo (c:=c) n G.T.g G.T.b G.T.builtins G.T.nolimit v m i (aI e ⋯) U y (I w.params) (codeHd_of_K n (hC w.params)) G.T.bmain C x λH A B=>⟨a,t,rfl,A,e,B,λ_=>rfl⟩
theorem Fun.okC {w:bo}{K:ag}{mg:Str->Option aj}{base:Heap}{x:Str}{st:Stmt}{U:aj}{od:Option Addr}{G:Array (Option aj)}{kV pm I:aj}{N:List Str}{k:Nat}{sp:Sp}
  (l:K.lookup f=some ⟨U,od,.func (bF x j (qf st) (jT st) (j8 st) .none kV doc pm an (.ref c) I),G⟩) (Y:cC K (.ref c) j=true) (S:FnScope N ps (j8 st)) (len:∀vs H Q E,sp vs H Q E->vs.length=ps.length)
  (z:∀(A:bx) (outer:List Env) (s:Shared) (H:Hp) (vs:List V) (Q:VK) (E:XK),Room k (A.deeper (iU j (j8 st) s.heap.objs.size f (.ref c)))->sp vs H Q E ->
   ∃t,PSs (vN CX0 P w K mg base N j (j8 st) f (.ref c) A outer s H E).nox (jT st) t/\t { nx:=λ_ H'=>Q .non H',rt:=Q } (start N vs) H) :
  FnOk P w K mg base CX0 (k+1) f (bF x j (qf st) (jT st) (j8 st) .none kV doc pm an (.ref c) I) ps sp:=by
 refine Vl l Y S len λA outer s H vs Q E b a=>?_
 obtain ⟨t,h,q⟩:=z A outer s H vs Q E b a
 exact ⟨t,h.nox,q⟩
theorem Cal.mkC {w:bo}{K:ag}{mg:Str->Option aj}{base:Heap}{k:Nat}{x:Str}{ps:List Str}{st:Stmt}{oc:aj}{od z:Option Addr}{I:Array (Option aj)}{kV doc pm j:aj}
  (X:K.In h) (G:h.Ns mainGlobals mg) (a:aW K mainGlobals x=some (some (.ref f)))
  (l:K.lookup f=some ⟨oc,od,.func (bF x x (qf st) (jT st) (j8 st) .none kV doc pm z (.ref c) j),I⟩) (cd:cC K (.ref c) x=true) (U:bR K (.ref f)=true)
  (hb:∀(kV doc pm:aj) (z:Option Addr) (Y j:aj) (us:List aj),us.length=ps.length->cG (bF x x (qf st) (jT st) (j8 st) .none kV doc pm z Y j) ⟨us,[]⟩=pure (ps.zip us))
  (ok:FnOk P w K mg base CX0 k f (bF x x (qf st) (jT st) (j8 st) .none kV doc pm z (.ref c) j) ps sp):Cal P w K mg base k x ps sp:=by
 have F:=vz (st:=st) l cd U
 exact ⟨f,_,ok,F.binds hb,bh X G a,U⟩
end L2
end
section
namespace L2
open PySem.W
noncomputable def Ite (K:ag) (a:Addr):It :=
 ⟨λi H=>∃xs x,SqL K H a xs/\xs[i]? = some x,λi H v H'=>∃t x,v = .ref t/\H t=none/\H'=upd H t (.tup [.int i,x])/\∀xs,SqL K H a xs->xs[i]? = some x,λi H=>∃xs,SqL K H a xs/\xs.length<=i⟩
theorem Yc {K:ag}{x1:Nat}{pos:Pos}(a e it:Addr) (hne:e≠it):Turn P w K (.Tuple es x1 pos) (Ite K a) [e,it] e (λi h=>∃old,IsEnum h e it i old/\h.IsListIter it a i) where
 mem:=by simp
 obj:=λi h ⟨old,st1,st2⟩ b hb=>by
  rcases List.mem_cons.mp hb with rfl | hb
  ·exact ⟨_,st1,λv z=>by
    have z':nE _=mf v:=z
    cases z'⟩
  ·have e:b=it:=by simpa using hb
   subst e
   obtain ⟨o,e,c,d⟩:=st2
   exact ⟨o,e,λv z=>by rw [d] at z;cases z⟩
 keep:=λi h h' ⟨old,st1,st2⟩ k=>⟨old,k e (by simp) _ st1,st2.at λo z=>k it (by simp) o z⟩
 item:=by
  intro X hP hw hK hc i pins s σ H E I hf st hg
  subst hP hw hK
  obtain ⟨old,st1,st2⟩:=st
  obtain ⟨xs,x,hq,hx⟩:=hg
  obtain ⟨its,rv,p,hz⟩:=I.list hq
  obtain ⟨u,hu,ru⟩:=rv.get hx
  obtain ⟨f0,f1,f2,f3,f4,f5⟩:=hf e (by simp)
  obtain ⟨g0,g1,g2,g3,g4,g5⟩:=hf it (by simp)
  have hn:H s.heap.objs.size=none:=I.hok.fresh (ar _)
  refine wpAny_pyNext_enum_item st1 st2 p.isList (x:=u) (by simpa using hu) hne λh' o1 o2 o3 o4 o5=>⟨_,rfl,?_⟩
  refine wpAny_letOwnedTupleGo_enum o1 λh2 q1 sb=>?_
  have hel:e<s.heap.objs.size:=av st1
  have kk:∀b o,b≠e->b≠it->s.heap.get? b=some o->h2.get? b=some o:=λb o n1 n2 z=>(sb.2 b n1).trans (o5 b o n1 n2 z)
  have et:h2.get? s.heap.objs.size=some { cls:=.type "tuple",data:=.seq #[.int i s.toks,u] }:=(sb.2 _ (cN hel)).trans o3
  have tne:∀b o,H b=some o->b≠e/\b≠it/\b≠s.heap.objs.size:=λb o q=>⟨λz=>(by rw [z,f0] at q;cases q),λz=>(by rw [z,g0] at q;cases q),λz=>(by rw [z,hn] at q;cases q)⟩
  have getF:∀{b:Addr} {o:HO},H b=some o->upd H s.heap.objs.size (.tup [.int i,x]) b=some o:=λ{b o} q=>by rw [j7 (tne b o q).2.2];exact q
  have I1:Inv X pins σ (upd H s.heap.objs.size (.tup [.int i,x])) { s with heap:=h2,toks:=s.toks+1 }:=by
   refine I.step (g':=s.gens) (d':=s.drawn) (ch:=[e,it]) (λb hb=>?_) (λb o _ _ hc z _=>kk b o ↥142 ↥142 z) (λb o _ _ hc z _=>⟨o.slots,kk b o ↥142 ↥142 z⟩)
    (λb o hc z n=>by rw [j7 (aB (av z))];exact n) (λb o hc z=>⟨o,kk b o ↥142 ↥142 z⟩) (λ_ _ q=>getF q) (λ_ _ _ q=>getF q) (λb ps q=>⟨#[],by rw [getF q];simp⟩) (λm hm=>?_) (λb v q=>?_) I.bare
   ·rcases List.mem_cons.mp hb with rfl | hb
    ·exact ⟨f3,f1,f4,f5⟩
    ·have e:b=it:=by simpa using hb
     subst e
     exact ⟨g3,g1,g4,g5⟩
   ·obtain ⟨o,es,ep,ho,r⟩:=hm
    exact ⟨o,es,ep,kk _ o (cx f1) (cx g1) ho,r⟩
   ·by_cases hb:b=s.heap.objs.size
    ·subst hb
     rw [j6] at q;cases q
     exact ⟨by show 2<=sizeLine;decide,[.int i s.toks,u],.cons ⟨_,rfl⟩ (.cons ru .nil),⟨_,et,rfl,0,rfl⟩⟩
    ·rw [j7 hb] at q
     refine (I.hok b v q).stay (λc o hc z=>kk c o ?_ ?_ z) (λ_ z=>getF z) λ_ _ z=>getF z
     ·rcases hc with z | z
      ·rw [z];exact (tne b v q).1
      ·exact (tne c _ z).1
     ·rcases hc with z | z
      ·rw [z];exact (tne b v q).2.1
      ·exact (tne c _ z).2.1
  have st2':h2.IsListIter it a (i+1):=o2.at λo z=>(sb.2 it (cx hne)).trans z
  refine ⟨.ref s.heap.objs.size,_,I1,rfl,⟨_,x,rfl,hn,rfl,λys hy=>by rw [I.list_inj hy hq];exact hx⟩,⟨u,?_,st2'⟩,λb hb=>?_⟩
  ·have:((i+1:Nat):Int)=(i:Int)+1:=by push_cast;rfl
   rw [this]
   exact q1
  ·rcases List.mem_cons.mp hb with rfl | hb
   ·rw [j7 (aB hel)];exact f0
   ·have e:b=it:=by simpa using hb
    subst e
    obtain ⟨o,z,_⟩:=st2
    rw [j7 (aB (av z))];exact g0
 done:=by
  intro X hP hw hK hc i pins s σ H E I hf st hg
  subst hP hw hK
  obtain ⟨old,st1,st2⟩:=st
  obtain ⟨xs,hq,hx⟩:=hg
  obtain ⟨its,rv,p,hz⟩:=I.list hq
  obtain ⟨g0,g1,g2,g3,g4,g5⟩:=hf it (by simp)
  have hl:=rv.length
  exact wpAny_pyNext_enum_end (I.ok.hd hc) st1 st2 p.isList ↥69 λh' eb=>⟨rfl,I.turned (t':=s.toks) ↥100 g0 g1 g3 g4 g5⟩
 self:=λ_ _ _ _ _ ⟨old,st1,_⟩ h=>pZ st1 h
section
variable {X:Cx}
inductive iEnumI (K:ag) (R:It->Hp->Prop) (vs:List V) (H1:Hp):Prop
 | mk (a:_) (_:vs=[.ref a]) (_:(∃xs,SqL K H1 a xs)/\R (Ite K a) H1)
noncomputable def Eu (K:ag) (ta:TA):TI:=λσ H R=>ta σ H λa H1=>iEnumI K R a H1
theorem Qa {j:Nat}{l:Expr}{p pos:Pos}(K:ag) (G:Gl X "enumerate") (z:X.mg "enumerate" = none) (U:PA X [l] ta) (hs:aR [l] X.env=[(false,eval l X.env)]:=by rfl) (Y:X.K=K:=by rfl) :
  PI X (.Tuple es j tpos) (.Call (.Name "enumerate" p) [l] [] pos) (Eu K ta):=by
 subst Y
 intro pins s σ H R I h
 refine Aj (yS I G z boot_enumerate (c9 (thn (U pos pins s σ H _ I h) λv s1 ⟨t,H1,c,g,i⟩=>?_) hs rfl))
 obtain ⟨a,e,⟨xs,n⟩,q⟩:=i
 subst e
 obtain ⟨u,rfl,f⟩:=vv g
 cases f
 obtain ⟨r,w,pl,y⟩:=c.list n
 refine call_enumerate_list pl.isList λh' d m x k=>?_
 refine pZ d ?_
 have o:Inv X pins σ H1 { s1 with heap:=h',toks:=s1.toks }:=c.kept k
 refine ⟨_,[s1.heap.objs.size+1,s1.heap.objs.size],_,_,H1,rfl,o,Yc a _ _ (by exact Nat.succ_ne_self _),⟨.none,d,m⟩,λb hb=>?_,q⟩
 rcases List.mem_cons.mp hb with rfl | hb
 ·exact c.fpOk (fZ _) (c.hok.fresh (fZ _))
 ·have e:b=s1.heap.objs.size:=by simpa using hb
  subst e
  exact c.fpOk (ar _) (c.hok.fresh (ar _))
end
theorem Y6 {K:ag}{xs:List V}{g:TG}{ti:TT}{te:TE}{R:Hp->Prop}{σ:St}{H:Hp}(Pv:Nat->St->Hp->Prop) (h0:Pv 0 σ H) (hl:∀i σ H,i<=xs.length->Pv i σ H->SqL K H a xs)
  (hs:∀i x σ H t,xs[i]? = some x->Pv i σ H->H t=none->g (.ref t) σ (upd H t (.tup [.int i,x])) λj Y=>ti j Y λok G=>if ok=true then te j G λv z=>∃ys,z acc=some (.lst ys)/\ys.length<sizeLine/\Pv (i+1) j (upd z acc ↥68) else Pv (i+1) j G)
  (hd:∀σ H,Pv xs.length σ H->R H) :
  ∃W:Nat->Nat->St->Hp->Prop,↥76/\∀i m I H',W i m I H' ->
   ((Ite K a).stop i H'/\R H')\/((Ite K a).go i H'/\∃U:St->Hp->Prop,↥62 /\
    ∀x H2,(Ite K a).yld i H' x H2->g x I H2 λj Y=>ti j Y λok G=>if ok=true then te j G λv z=>∃ys,z acc=some (.lst ys)/\ys.length<sizeLine/\U j (upd z acc ↥68) else U j G):=by
 refine ⟨λi m σ H=>m=xs.length-i/\i<=xs.length/\Pv i σ H,⟨xs.length,by simp,aG _,h0⟩,?_⟩
 rintro i m σ H ⟨rfl,hi,p⟩
 have q:=hl i σ H hi p
 by_cases b:i<xs.length
 ·refine .inr ⟨⟨xs,xs[i],q,by simp [b]⟩,Pv (i+1),λI H' c=>⟨xs.length-(i+1),∅,rfl,b,c⟩,λv H' y=>?_⟩
  obtain ⟨t,x,rfl,d,rfl,y⟩:=y
  exact hs i x σ H t (y xs q) p d
 ·have e:i=xs.length:=∅
  subst e
  exact .inl ⟨⟨xs,q,ar _⟩,hd σ H p⟩
theorem QV {K:ag}{xs:List V}{g:TG}{tb:TS}{D:Ends}{σ:St}{H:Hp}(Pv:Nat->St->Hp->Prop) (Y:Pv 0 σ H) (I:∀i σ H,i<=xs.length->Pv i σ H->SqL K H a xs)
  (hs:∀i x σ H t,xs[i]? = some x->Pv i σ H->H t=none->g (.ref t) σ (upd H t (.tup [.int i,x])) λj H2=>tb { D with nx:=Pv (i+1),ct:=Pv (i+1),bk:=D.nx } j H2) (U:∀σ H,Pv xs.length σ H->D.nx σ H) :
  ∃W:Nat->Nat->St->Hp->Prop,↥76/\∀i m σ H,W i m σ H ->
   ((Ite K a).stop i H/\D.nx σ H)\/((Ite K a).go i H/\∃N:St->Hp->Prop,↥106/\∀x H',(Ite K a).yld i H x H'->g x σ H' λj H2=>tb { D with nx:=N,ct:=N,bk:=D.nx } j H2):=by
 refine ⟨λi m σ H=>m=xs.length-i/\i<=xs.length/\Pv i σ H,⟨xs.length,by simp,aG _,Y⟩,?_⟩
 rintro i m σ H ⟨rfl,hi,p⟩
 have q:=I i σ H hi p
 by_cases b:i<xs.length
 ·refine .inr ⟨⟨xs,xs[i],q,by simp [b]⟩,Pv (i+1),λz H' c=>⟨xs.length-(i+1),∅,rfl,b,c⟩,λv H' y=>?_⟩
  obtain ⟨t,x,rfl,d,rfl,y⟩:=y
  exact hs i x σ H t (y xs q) p d
 ·have e:i=xs.length:=∅
  subst e
  exact .inl ⟨⟨xs,q,ar _⟩,U σ H p⟩
end L2
end
section
namespace L2
open PySem.W
theorem Jy:∀(l:List Int),(∀n∈l,0<=n/\n<=2 ^ 20)->0<=l.sum/\l.sum<=2 ^ 20*l.length
 | [],_=>by simp
 | n::l,h=>by
  have b:=Jy l λm a=>h m (aH _ a)
  have c:=h n aK
  rw [oM,bf]
  constructor
  ·omega
  ·push_cast
   omega
section
variable {X:Cx}
inductive cI_call_sum (K:ag) (xs:List V) (H:Hp) (Q:VK):Prop
 | mk (p:Addr) (ns:List Int) (_:xs=[.ref p]) (_:SqL K H p (ns.map V.int)) (_:ns.length<=1000) (_:(∀n∈ns,0<=n/\n<=2 ^ 20)) (_:Q (.int ns.sum) H)
theorem kI (K:ag) (G:X.calm=true) (U:X.K=K:=by rfl):xl X (.builtin "sum") (cI_call_sum K):=by
 subst U
 intro pins s σ H xs M Q I r h
 obtain ⟨p,a,rfl,B,O,l,q⟩:=h
 obtain ⟨u,rfl,y⟩:=vv r
 cases y
 obtain ⟨c,x,pl,N⟩:=I.list B
 have m:=zL x
 have D:=m.length
 have k:p≠s.heap.objs.size:=by
  obtain ⟨o,n,e,_⟩:=id pl
  exact aB (av e)
 refine call_sum_walk (d6 pl.isList ?_)
 refine ⟨s.heap.objs.size,_,_,_,_,_,λi=>a.getD i 0,rfl,Walks.list (show (X.A.in1).handled=none from I.ok.hd G) s.heap.objs.size p k c.toArray,⟨⟨_,az _ rfl,rfl,rfl⟩,pl.isList.at λo e=>ai _ e⟩,?_,?_,?_,?_⟩
 ·intro b hb'
  have g:p<s.heap.objs.size:=by
   obtain ⟨o,n,e,_⟩:=id pl
   exact av e
  show b<(s.heap.push _).objs.size
  rw [cB]
  rcases List.mem_cons.mp hb' with rfl | hb'
  ·exact iJ _
  ·have e:b=p:=by simpa using hb'
   subst e
   exact cf g
 ·intro i v J
  have d:c[i]? = some v:=by simpa using J
  have hi:i<c.length:=(List.getElem?_eq_some_iff.mp d).1
  obtain ⟨t,e⟩:=JX m hi
  rw [e] at d
  refine ⟨t,?_⟩
  show v=ma (a.getD i 0) t
  rw [aq,af ∅]
  exact (aT d).symm
 ·intro j P
  have f:j<a.length:=by
   have:c.toArray.size=c.length:=by simp
   omega
  constructor
  ·show InLong (a.getD j 0)
   rw [aq,af f]
   have:=l _ (c7 f)
   show -(2 ^ 63)<=a[j]/\a[j]<2 ^ 63
   omega
  ·rw [preSum_getD]
   have:=Jy (a.take (j+1)) λn C=>l n (dO C)
   have L:(a.take (j+1)).length<=1000:=by rw [aN];omega
   show -(2 ^ 63)<=_/\_<2 ^ 63
   omega
 ·intro h' tk t' E
  rw [preSum_getD,bT ↥69]
  refine ⟨.int a.sum,H,I.kept (t':=tk) λb o w=>E b o (by
   intro z
   have:=List.mem_singleton.mp z
   subst this
   exact absurd (av w) (cK _)) (ai _ w),⟨t',rfl⟩,q⟩
inductive cI_call_tuple_ofL (K:ag) (xs:List V) (H:Hp) (Q:VK):Prop
 | mk (p:_) (ys:_) (_:xs=[.ref p]) (_:SqL K H p ys) (_:New H (.tup ys) Q)
theorem xW (K:ag) (h:X.K=K:=by rfl):xl X (.type "tuple") (cI_call_tuple_ofL K):=by
 subst h
 exact Jc.weak λ_ _ _ ⟨p,ys,h1,h2,q⟩=>⟨p,ys,h1,.inl ⟨h2,q.at⟩⟩
end
end L2
end
section
namespace L2
open PySem.W
structure Nb2 (mg:Str->Option aj):Prop extends Nb mg where
 b_enumerate:mg "enumerate" = none
 b_sorted:mg "sorted" = none
 b_sum:mg "sum" = none
noncomputable abbrev Rch:=Int×List Int
noncomputable def tos (rs:List Rch):List Int:=rs.map (·.1)
noncomputable def zB (rs:List Rch) (r:Nat):Int:=(rs.getD r (-1,[])).1
noncomputable def yl (rs:List Rch) (r:Nat):List Int:=(rs.getD r (-1,[])).2
noncomputable def zf (i:Nat) (t:Int):Bool:=if i=0 then decide (t = -1) else decide (0<=t/\t<i)
noncomputable def okR (i:Nat) (r:Rch):Bool:=zf i r.1 && decide (1<=(r.2.length:Int)/\(r.2.length:Int)<=12) && r.2.all λx=>decide (0<=x/\x<=99)
noncomputable def wu (rs:List Rch):Bool:=(aJ rs.length).all λi=>okR i (rs.getD i (-1,[]))
noncomputable def xO (rs:List Rch):Prop:=∀i,i<rs.length->zf i (zB rs i)=true
noncomputable def jZ (rs:List Rch) (h:Nat):Bool:=!decide ((h:Int)∈tos rs)
noncomputable def jw (rs:List Rch):List Nat:=(aJ rs.length).filter (jZ rs)
noncomputable def vU (rs:List Rch):Nat->Nat->List Int
 | 0,_=>[]
 | f+1,r=>(r:Int)::(if zB rs r<0 then [] else vU rs f (zB rs r).toNat)
noncomputable def qO (rs:List Rch) (r:Nat):List Int:=vU rs (r+1) r
noncomputable def jK (rs:List Rch) (j:List Int):Int:=(j.map λr=>((yl rs r.toNat).length:Int)).sum
noncomputable def y4 (rs:List Rch):Bool:=decide (1<=(rs.length:Int)/\(rs.length:Int)<=8) && (wu rs && (decide (↥102<=6) && (jw rs).all λh=>decide (jK rs (qO rs h)<=30)))
theorem kM {i:Nat}{t:Int}(h:zf i t=true):t<i/\(-1<=t)/\(t<0->i=0):=by
 unfold zf at h
 by_cases hi:i=0
 ·rw [if_pos hi] at h
  have:=of_decide_eq_true h
  omega
 ·rw [if_neg hi] at h
  have:=of_decide_eq_true h
  omega
theorem YB {i:Nat}(h:okR i r=true):zf i r.1=true:=by
 unfold okR at h
 rw [bp,bp] at h
 exact h.1.1
theorem Qq (h:wu rs=true) {i:Nat}(j:rs[i]? = some r):okR i r=true:=by
 unfold wu at h
 rw [bP] at h
 have hi:=(List.getElem?_eq_some_iff.mp j).1
 have:=h i (List.mem_range.mpr hi)
 rw [aq,j] at this
 exact this
theorem qx (h:wu rs=true):xO rs:=λi hi=>by
 have:=YB (Qq h (af hi))
 unfold zB
 rw [aq,af hi]
 exact this
theorem Qs {rs:List Rch}{i:Nat}(h:rs[i]? = some r):zB rs i=r.1:=by
 unfold zB
 rw [aq,h]
 rfl
theorem Qd {rs:List Rch}{i:Nat}(h:rs[i]? = some r):yl rs i=r.2:=by
 unfold yl
 rw [aq,h]
 rfl
theorem xO.lt {rs:List Rch}(L:xO rs) {r:Nat}(j:r<rs.length):zB rs r<r:=(kM (L r j)).1
theorem Ji (L:xO rs):∀(f g r:Nat),r<rs.length->r<f->r<g->vU rs f r=vU rs g r
 | 0,_,_,_,h,_=>∅
 | _+1,0,_,_,_,h=>∅
 | f+1,g+1,r,b,h1,h2=>by
  unfold vU
  by_cases a:zB rs r<0
  ·rw [if_pos a,if_pos a]
  ·rw [if_neg a,if_neg a]
   have c:=L.lt b
   rw [Ji L f g (zB rs r).toNat ∅ ∅ ∅]
theorem zZ (L:xO rs) {r:Nat}(j:r<rs.length):qO rs r=(r:Int)::(if zB rs r<0 then [] else qO rs (zB rs r).toNat):=by
 unfold qO
 rw [vU]
 by_cases a:zB rs r<0
 ·rw [if_pos a,if_pos a]
 ·rw [if_neg a,if_neg a]
  have b:=L.lt j
  rw [Ji L r ((zB rs r).toNat+1) (zB rs r).toNat ∅ ∅ ∅]
theorem Uz (r:Nat):qO rs r≠[]:=by unfold qO vU;exact λz=>nomatch z
theorem ut (L:xO rs):∀(r:Nat),r<rs.length->(qO rs r).length<=r+1
 | r,b=>by
  rw [zZ L b]
  by_cases a:zB rs r<0
  ·rw [if_pos a];simp
  ·rw [if_neg a]
   have c:=L.lt b
   have:=ut L (zB rs r).toNat ∅
   rw [bf]
   omega
 termination_by r=>r
 decreasing_by omega
theorem zq {rs:List Rch}(L:xO rs):∀(r:Nat),r<rs.length->∀x∈qO rs r,0<=x/\x<rs.length
 | r,b,x,hx=>by
  rw [zZ L b] at hx
  rcases List.mem_cons.mp hx with rfl | hx
  ·omega
  ·by_cases a:zB rs r<0
   ·rw [if_pos a] at hx;cases hx
   ·rw [if_neg a] at hx
    have c:=L.lt b
    exact zq L (zB rs r).toNat ∅ x hx
 termination_by r=>r
 decreasing_by omega
theorem xS {h:Nat}(j:h∈jw rs):h<rs.length:=by
 have:=(List.mem_filter.mp j).1
 exact List.mem_range.mp this
theorem xD (rs:List Rch) (r:Int) (way:List Int):jK rs (r::way)=((yl rs r.toNat).length:Int)+jK rs way:=by
 unfold jK
 rw [aS,oM]
theorem VM {α:Type}{p:α->Bool}{l j:List α}(h:l.Perm j):l.all p=j.all p:=by
 rw [dJ,bP,bP]
 exact ⟨λz x a=>z x (h.mem_iff.mpr a),λz x a=>z x (h.mem_iff.mp a)⟩
noncomputable def qt (rs:List Rch) (ws:List (List Int)):Prop:=ws.Perm ((jw rs).map (qO rs))/\(ws.map cQ).Pairwise wP.kle
theorem qt.length {rs:List Rch}{ws:List (List Int)}(h:qt rs ws):ws.length=(jw rs).length:=by rw [h.1.length_eq,ah]
theorem qt.mem {rs:List Rch}{ws:List (List Int)}(h:qt rs ws) {w:List Int}(j:w∈ws):∃x∈jw rs,w=qO rs x:=by
 obtain ⟨x,a,e⟩:=List.mem_map.mp (h.1.mem_iff.mp j)
 exact ⟨x,a,e.symm⟩
theorem qt.all {rs:List Rch}{ws:List (List Int)}(h:qt rs ws):(ws.map λw=>decide (jK rs w<=30)).all (λb=>b)=(jw rs).all λx=>decide (jK rs (qO rs x)<=30):=by
 rw [ij,VM h.1,ij]
 rfl
theorem vf {O:KeyOrd}:∀{l l':List O.α},l.Perm l'->l.Pairwise O.kle->l'.Pairwise O.kle->l=l'
 | [],l',h,_,_=>(List.nil_perm.mp h).symm
 | x::l,[],h,_,_=>by have:=h.length_eq;simp at this
 | x::l,y::l',h,h1,h2=>by
  have b:=(List.pairwise_cons.mp h1)
  have a:=(List.pairwise_cons.mp h2)
  have e:x=y:=by
   have d:x∈y::l':=h.mem_iff.mp aK
   have c:y∈x::l:=h.mem_iff.mpr aK
   rcases List.mem_cons.mp d with z | z
   ·exact z
   ·rcases List.mem_cons.mp c with z2 | z2
    ·exact z2.symm
    ·exact lj (b.1 y z2) (a.1 x z)
  subst e
  rw [vf (ph h) b.2 a.2]
theorem qt.unique {rs:List Rch}{ws:List (List Int)}(h:qt rs ws) (h':qt rs ws'):ws=ws':=by
 have p:(ws.map cQ).Perm (ws'.map cQ):=(h.1.trans h'.1.symm).map _
 have e:=vf (O:=wP) p h.2 h'.2
 have a:=congrArg (tD cQ) e
 rw [bW,bW,show (cQ ∘ cQ:List Int->List Int)=id from funext λx=>fA x,nR,nR] at a
 exact a
theorem Xz (rs:List Rch) (t:Int) (hs:List Int):tos ↥89=tos rs++[t]:=by unfold tos;rw [aE];rfl
theorem uR {rs:List Rch}{x:Rch}{i:Nat}(h:i<rs.length):(rs++[x]).getD i d=rs.getD i d:=by
 rw [aq,aq,cV h]
theorem xU {rs:List Rch}{x:Rch}:(rs++[x]).getD rs.length d=x:=by
 rw [aq,bX (ar _),mK]
 rfl
theorem Ju (h:wu rs=true) (j:okR rs.length x=true):wu (rs++[x])=true:=by
 unfold wu at h ⊢
 rw [bP] at h ⊢
 intro i hi
 have b:i<rs.length+1:=by have:=List.mem_range.mp hi;rw [ao,br] at this;exact this
 by_cases a:i<rs.length
 ·rw [uR a];exact h i (List.mem_range.mpr a)
 ·have e:i=rs.length:=∅
  subst e
  rw [xU];exact j
theorem ko {x:Rch}(L:xO rs):∀(f r:Nat),r<rs.length->vU (rs++[x]) f r=vU rs f r
 | 0,_,_=>rfl
 | f+1,r,b=>by
  have e:zB (rs++[x]) r=zB rs r:=by unfold zB;rw [uR b]
  unfold vU
  rw [e]
  by_cases a:zB rs r<0
  ·rw [if_pos a,if_pos a]
  ·rw [if_neg a,if_neg a,ko L f _ (by have:=L.lt b;omega)]
theorem vI {x:Rch}(L:xO rs) {r:Nat}(j:r<rs.length):qO (rs++[x]) r=qO rs r:=ko L _ r j
theorem zA {rs:List Rch}{x:Rch}:∀(j:List Int),(∀r∈j,0<=r/\r<rs.length)->jK (rs++[x]) j=jK rs j
 | [],_=>rfl
 | r::j,h=>by
  have b:=h r aK
  rw [xD,xD,zA j λy a=>h y (aH _ a)]
  congr 2
  unfold yl
  rw [uR ∅]
theorem Zy (L:xO rs) {t:Int}(h:t∈tos rs):t+1<rs.length:=by
 unfold tos at h
 obtain ⟨r,a,rfl⟩:=List.mem_map.mp h
 obtain ⟨i,hi,e⟩:=List.mem_iff_getElem.mp a
 have:=L.lt hi
 rw [Qs (af hi),e] at this
 omega
theorem Zx {t:Int}{hs:List Int}(L:xO rs) (G:0<=t) (h1:t<rs.length) :
  (jw ↥89).length=if t∈tos rs then (jw rs).length+1 else (jw rs).length:=by
 unfold jw
 rw [ao,br,cE,bL,ao]
 have o:(i4 (jZ ↥89) [rs.length]).length=1:=by
  have:jZ ↥89 rs.length=true:=by
   unfold jZ
   rw [Xz,decide_eq_false]
   ·rfl
   ·intro z
    rcases List.mem_append.mp z with z | z
    ·have:=Zy L z;omega
    ·have:(rs.length:Int)=t:=by simpa using z
     omega
  simp [this]
 rw [o]
 have n:∀h,jZ ↥89 h=(jZ rs h && !decide ((h:Int)=t)):=λh=>by
  unfold jZ
  rw [Xz]
  by_cases a:(h:Int)∈tos rs
  ·rw [decide_eq_true (cF _ a),decide_eq_true a];rfl
  ·rw [decide_eq_false a]
   by_cases b:(h:Int)=t
   ·rw [decide_eq_true (aC _ (by simp [b])),decide_eq_true b];rfl
   ·rw [decide_eq_false (λz=>(List.mem_append.mp z).elim a λy=>b (by simpa using y)),decide_eq_false b];rfl
 have k:i4 (jZ ↥89) (aJ rs.length)=i4 (λh:Nat=>!decide ((h:Int)=t)) (i4 (jZ rs) (aJ rs.length)):=by
  rw [List.filter_filter]
  congr 1
  funext h
  rw [n,Bool.and_comm]
 rw [k]
 have c:(i4 (jZ rs) (aJ rs.length)).Nodup:=List.Nodup.sublist List.filter_sublist mq
 generalize j:i4 (jZ rs) (aJ rs.length)=l at c
 have cnt:∀(l:List Nat),l.Nodup->(i4 (λh:Nat=>!decide ((h:Int)=t)) l).length=if t.toNat∈l then l.length-1 else l.length:=by
  intro l
  induction l with
  | nil=>intro _;rfl
  | cons x l d =>
   intro c
   have g:=List.nodup_cons.mp c
   have d:=d g.2
   by_cases b:(x:Int)=t
   ·have f:x=t.toNat:=∅
    rw [ee (by simp [b]),d,if_neg (by rw [<- f];exact g.1),if_pos (by rw [f];exact aK)]
    simp
   ·have f:t.toNat≠x:=∅
    rw [ef (by simp [b]),bf,d]
    by_cases m:t.toNat∈l
    ·rw [if_pos m,if_pos (aH _ m),bf]
     have:0<l.length:=ik m
     omega
    ·rw [if_neg m,if_neg (λz=>(List.mem_cons.mp z).elim f m)]
     simp
 rw [cnt l c]
 have i:t.toNat∈l↔¬t∈tos rs:=by
  rw [<- j,List.mem_filter,List.mem_range]
  unfold jZ
  have e:((t.toNat:Nat):Int)=t:=∅
  rw [e]
  constructor
  ·rintro ⟨_,z⟩ y
   rw [decide_eq_true y] at z
   cases z
  ·intro z
   exact ⟨∅,by rw [decide_eq_false z];rfl⟩
 by_cases m:t∈tos rs
 ·rw [if_pos m,if_neg (by rw [i];exact λz=>z m)]
 ·rw [if_neg m,if_pos (by rw [i];exact m)]
  have:0<l.length:=ik (i.mpr m)
  omega
structure Grown (rs:List Rch):Prop where
 ok:wu rs=true
 heads:(jw rs).length<=6
 deep:∀i,i<rs.length->jK rs (qO rs i)<=30
theorem Grown.snoc {rs:List Rch}{t:Int}{hs:List Int}(G:Grown rs) (I:0<=t) (h1:t<rs.length) (j:okR rs.length (t,hs)=true) (z:t∈tos rs->(jw rs).length<6) (U:jK rs (qO rs t.toNat)+hs.length<=30):Grown ↥89:=by
 have L:=qx G.ok
 have b:=Ju G.ok j
 refine ⟨b,?_,λi hi=>?_⟩
 ·rw [Zx L I h1]
  split
  ·rename_i m;have:=z m;omega
  ·exact G.heads
 ·rw [ao,br] at hi
  by_cases a:i<rs.length
  ·rw [vI L a,zA _ (zq L i a)]
   exact G.deep i a
  ·have e:i=rs.length:=∅
   subst e
   have f:=qx b
   have c:zB ↥89 rs.length=t:=by unfold zB;rw [xU]
   have d:yl ↥89 rs.length=hs:=by unfold yl;rw [xU]
   rw [zZ f (by rw [ao,br];omega),xD,bE,d,c,if_neg ∅,vI L ∅,zA _ (zq L _ ∅)]
   omega
theorem Grown.good {rs:List Rch}(G:Grown rs) (h1:1<=rs.length) (j:rs.length<=8):y4 rs=true:=by
 unfold y4
 rw [decide_eq_true (show 1<=(rs.length:Int)/\(rs.length:Int)<=8 by omega),G.ok,decide_eq_true (show ↥102<=6 by have:=G.heads;omega),fe,fe,fe,bP]
 intro h a
 exact decide_eq_true (G.deep h (xS a))
theorem Grown.deep_snoc {rs:List Rch}{t:Int}{hs:List Int}(G:Grown rs) (z:0<=t) (h1:t<rs.length) (j:okR rs.length (t,hs)=true):jK ↥89 (qO ↥89 rs.length)=jK rs (qO rs t.toNat)+hs.length:=by
 have L:=qx G.ok
 have c:=qx (Ju G.ok j)
 have a:zB ↥89 rs.length=t:=by unfold zB;rw [xU]
 have b:yl ↥89 rs.length=hs:=by unfold yl;rw [xU]
 rw [zZ c (by rw [ao,br];omega),xD,bE,b,a,if_neg ∅,vI L ∅,zA _ (zq L _ ∅)]
 omega
noncomputable def jp (H H':Hp):Prop:=∀p xs,H p=some (.tup xs)->H' p=some (.tup xs)
theorem jp.same (s:jm H H'):jp H H':=λ_ _ h=>s _ _ h
theorem jp.trans (a:jp H H1) (b:jp H1 H2):jp H H2:=λp xs h=>b p xs (a p xs h)
theorem jp.ext {b:Addr}(e:Ext b H H') (h:∀xs,H b≠some (.tup xs)):jp H H':=λp xs q=>e _ _ q λz=>h xs (z ▸ q)
theorem jp.lst {b:Addr}{xs:List V}(e:Ext b H H') (h:H b=some (.lst xs)):jp H H':=.ext e λys z=>by rw [h] at z;cases z
theorem jp.new {b:Addr}(e:Ext b H H') (h:H b=none):jp H H':=.ext e λys z=>by rw [h] at z;cases z
theorem jp.tbl {b:Addr}(e:Ext b H H') (h:H b=some (.tbl ps)):jp H H':=.ext e λys z=>by rw [h] at z;cases z
noncomputable def Qb (H:Hp) (v:V) (r:Rch):Prop:=∃p g,v=V.ref p/\H p=some (.tup [.int r.1,.ref g])/\H g=some (.tup (r.2.map V.int))
noncomputable def qo (H:Hp) (vs:List V) (rs:List Rch):Prop:=cU (Qb H) vs rs
theorem Qb.keep (k:jp H H') (h:Qb H v r):Qb H' v r:=by
 obtain ⟨p,g,e,h1,h2⟩:=h
 exact ⟨p,g,e,k _ _ h1,k _ _ h2⟩
theorem qo.keep {rs:List Rch}(k:jp H H') (h:qo H vs rs):qo H' vs rs:=Paired.mapP h λ_ _ z=>z.keep k
theorem qo.length {rs:List Rch}(h:qo H vs rs):vs.length=rs.length:=aM h
theorem qo.get {rs:List Rch}{i:Nat}(h:qo H vs rs) (e:vs[i]? = some v):∃r,rs[i]? = some r/\Qb H v r:=Paired.get h e
theorem qo.at {rs:List Rch}{i:Nat}(h:qo H vs rs) (e:rs[i]? = some r):∃v,vs[i]? = some v/\Qb H v r:=by
 have hi:i<vs.length:=by rw [h.length];exact (List.getElem?_eq_some_iff.mp e).1
 obtain ⟨b,a,q⟩:=h.get (af hi)
 rw [e] at a
 cases a
 exact ⟨_,af hi,q⟩
theorem qo.snoc {rs:List Rch}(h:qo H vs rs) (q:Qb H v r):qo H (vs++[v]) (rs++[r]):=bV h q
noncomputable def yH (H:Hp) (vs:List V) (ws:List (List Int)):Prop:=cU (λv (w:List Int)=>∃a,v=V.ref a/\H a=some (.tup (w.map V.int))) vs ws
theorem yH.keep {ws:List (List Int)}(k:jp H H') (h:yH H vs ws):yH H' vs ws:=Paired.mapP h λ_ _ ⟨a,e,q⟩=>⟨a,e,k _ _ q⟩
theorem yH.length {ws:List (List Int)}(h:yH H vs ws):vs.length=ws.length:=aM h
theorem vy (x:Int) (l:List Int):inV (.int x) (l.map V.int)=decide (x∈l):=by
 unfold inV
 induction l with
 | nil=>rfl
 | cons y l b =>
  rw [aS,fP,b]
  by_cases e:x=y
  ·subst e
   rw [decide_eq_true (aK (a:=x))]
   simp [eqV]
  ·by_cases m:x∈l
   ·rw [decide_eq_true m,decide_eq_true (aH _ m),Bool.or_true]
   ·rw [decide_eq_false m,decide_eq_false (λz=>(List.mem_cons.mp z).elim e m),Bool.or_false]
    simp [eqV]
    exact λz=>e z.symm
theorem yA (l:List Int):(l.map V.int).all uv=true:=by
 rw [ij,bP]
 intro x _
 rfl
end L2
end
section
namespace L2
open PySem.W
section
variable {prog:Program}{w:bo}{A:bx}{E:aj->Shared->Prop}{s:Shared}
end
end L2
end
section
namespace L2
open PySem.W
section
variable {X:Cx}
end
end L2
end
section
namespace L2
open PySem.W
theorem Uq {T id:String}{apos cpos:Pos}(K:ag) (pa:oW T) (j:Slot T name id) (I:oX (.builtin id)=pure (.type "method_descriptor")) (Y:MtR X id r) (U:PE X o to)
  (G:dP o name X.env (eval o X.env)=eval o X.env:=by rfl) (z: ↥144=true:=by rfl) (hK:X.K=K:=by rfl) :
  PE X (.Call (.Attribute o name apos) [] [] cpos) (Ec K T r to):=by
 subst hK
 first | exact Ug pa j I Y U G z | exact Ug pa j I Y U
end L2
end
section
namespace L2
open PySem.W
section
variable {s:Shared}{A:bx}{prog:Program}{w:bo}{E:aj->Shared->Prop}
theorem Ew {t:Addr}{k:Nat}{Q:aj->Shared->Prop}(q:s.heap.IsTupleIter it t k) (p:s.heap.IsTuple t its) (e:its[k]? = some v)
  (z:∀g,g.IsTupleIter it t (k+1)->eI it s.heap g->Q v { s with heap:=g }):ax (aD prog w) A (bC (.ref it)) Q E s:=by
 obtain ⟨i,b,f,a⟩:=id q;obtain ⟨h,c,_,j,d⟩:=p;unfold bC
 refine aa (cj (name:=ak "__next__") q.typeIs dw (cI dw q.typeIs lx ?_ (iY _)))
 show ax _ _ (mV (.ref it) 0 >>= _) _ _ s;refine aa (bG b a (x:=.ref t) rfl ?_)
 show ax _ _ (if (aU t == aX)=true then _ else _) _ _ s;rw [if_neg (show ¬((aU t == aX)=true) from au)]
 show ax _ _ (mV (.ref it) 1 >>= _) _ _ s;refine aa (bG b a (x:=.int k 0) rfl ?_)
 show ax _ _ (rQ (.ref t) >>= _) _ _ s;refine aa (cp c d ?_)
 simp only [bE,e]
 refine aa (fB b a (by simp) (wpAny_pure ⟨v,rfl,wpAny_pure (z _ ⟨_,dC _ b (fi (eO a _)),(r9 ..).trans f,by rw [eO a];simp [c0]⟩ (oE ..))⟩))
theorem GT {t:Addr}{k:Nat}(j:A.handled=none) (q:s.heap.IsTupleIter it t k) (p:s.heap.IsTuple t its) (e:its[k]? = none)
  (z:∀g x,iS it s.heap g->(∃o,g.get? x=some o/\o.cls = .type "StopIteration")->E (.ref x) { s with heap:=g }):ax (aD prog w) A (bC (.ref it)) Q E s:=by
 obtain ⟨i,b,n,c⟩:=id q;obtain ⟨h,d,_,l,f⟩:=p;unfold bC
 refine aa (cj (name:=ak "__next__") q.typeIs dw (cI dw q.typeIs lx ?_ (iY _)))
 show ax _ _ (mV (.ref it) 0 >>= _) _ _ s;refine aa (bG b c (x:=.ref t) rfl ?_)
 show ax _ _ (if (aU t == aX)=true then _ else _) _ _ s;rw [if_neg (show ¬((aU t == aX)=true) from au)]
 show ax _ _ (mV (.ref it) 1 >>= _) _ _ s;refine aa (bG b c (x:=.int k 0) rfl ?_)
 show ax _ _ (rQ (.ref t) >>= _) _ _ s;refine aa (cp d f ?_)
 simp only [bE,e]
 refine aa (eN (aa (fB b c (by simp) ?_)))
 show ax _ _ (Ai (.type "StopIteration") [] >>= _) _ _ _;refine aa ?_;simp only [Ai,newTuple]
 refine aa (bS ?_ (by size_fits));refine aa (m:=lL _ _) (nU (a:=aX) (by first | rfl | (simp only [lL];rfl)) ?_)
 refine bS ?_ (by size_fits);simp only [raiseNew];refine aa (tU ?_);first | rw [j] | rw [show A.in1.handled=none from j]
 exact aa (wpAny_pure (wpAny_throw (z _ _ (((oE ..).extBut.push _).push _) ⟨_,az _ rfl,rfl⟩)))
structure Feeds (prog:Program) (w:bo) (i l:Addr) (xs:Array aj) (S:Nat->Heap->Prop):Prop where
 keep:∀k h h',S k h->(∀o,h.get? i=some o->h'.get? i=some o)->(∀o,h.get? l=some o->h'.get? l=some o)->S k h'
 obj:∀k h,S k h->∃o,h.get? i=some o/\∀v,o.data≠.cell v
 item:∀(A:bx) (E:aj->Shared->Prop) (k:Nat) (x:aj) (s:Shared) (Q:aj->Shared->Prop),S k s.heap->xs[k]? = some x->(∀g,S (k+1) g->eI i s.heap g->Q x { s with heap:=g })->ax (aD prog w) A (bC (.ref i)) Q E s
 done:∀(A:bx) (E:aj->Shared->Prop) (k:Nat) (s:Shared) (Q:aj->Shared->Prop),A.handled=none->S k s.heap->xs[k]? = none->(∀g x,iS i s.heap g->(∃o,g.get? x=some o/\o.cls = .type "StopIteration")->E (.ref x) { s with heap:=g })->ax (aD prog w) A (bC (.ref i)) Q E s
theorem Feeds.but {b:Addr}{xs:Array aj}{S:Nat->Heap->Prop}(f:Feeds prog w i l xs S) {k:Nat}(q:S k h) (j:eI b h h') (G:i≠b) (z:l≠b):S k h':=f.keep k h h' q (λo e=>j.extBut _ _ G e) λo e=>j.extBut _ _ z e
theorem ZI {i l:Addr}{xs:Array aj}(n:l≠i):Feeds prog w i l xs λk h=>h.IsListIter i l k/\h.IsList l xs where
 keep:=λk h h' q k1 k2=>⟨q.1.at λo e=>k1 o e,q.2.at λo e=>k2 o e⟩
 obj:=λk h q=>by obtain ⟨o,e,_,d⟩:=q.1;exact ⟨o,e,λv z=>by rw [d] at z;cases z⟩
 item:=λA E k x s Q q e z=>wpAny_nextOf_list_item q.1 q.2 e λg q1 sb=>z g ⟨q1,q.2.extBut sb.extBut n⟩ sb
 done:=λA E k s Q hh q e z=>wpAny_nextOf_list_end hh q.1 q.2 e z
theorem YN {i l:Addr}{xs:Array aj}(n:l≠i):Feeds prog w i l xs λk h=>h.IsTupleIter i l k/\h.IsTuple l xs where
 keep:=λk h h' q k1 k2=>⟨q.1.at λo e=>k1 o e,let ⟨o,e,r⟩:=q.2;⟨o,k2 o e,r⟩⟩
 obj:=λk h q=>by obtain ⟨o,e,_,d⟩:=q.1;exact ⟨o,e,λv z=>by rw [d] at z;cases z⟩
 item:=λA E k x s Q q e z=>Ew q.1 q.2 e λg q1 sb=>z g ⟨q1,q.2.extBut sb.extBut n⟩ sb
 done:=λA E k s Q hh q e z=>GT hh q.1 q.2 e z
theorem Ui {TI TO:Addr}{k1 k2:Nat}{Q:aj->Shared->Prop}(D:nW z TI TO U I l1 l2) (G:Feeds prog w U l1 xs S1) (j:Feeds prog w I l2 ys S2)
  (Y:lM s.heap z TI TO .none) (gI:dU s.heap TI (.ref U) (.ref I)) (gO:dU s.heap TO a b) (q1:S1 k1 s.heap) (q2:S2 k2 s.heap) (ex:xs[k1]? = some x) (ey:ys[k2]? = some y)
  (R:∀g,lM g z TI TO (c0 s.heap.objs.size)->dU g TO x y->S1 (k1+1) g->S2 (k2+1) g->dU g s.heap.objs.size x y->g.objs.size=s.heap.objs.size+1 ->
   (∀c o,c≠z->c≠TO->c≠U->c≠I->s.heap.get? c=some o->g.get? c=some o)->Q ↥11 { s with heap:=g }):ax (aD prog w) A (eM.«zip.__next__» ⟨[.ref z],[]⟩) (λab s'=>∃v,ab = .done (.ret v)/\Q v s') E s:=by
 show ax _ _ (mV (.ref z) 2 >>= _) _ _ _;refine aa (bG Y rfl (x:=.bool false) rfl ?_)
 show ax _ _ (mV (.ref z) 3 >>= _) _ _ _;refine aa (bG Y rfl (x:=.ref TI) rfl ?_)
 refine aa (cp gI rfl ?_);show ax _ _ (cD (.ref z) >>= _) _ _ _
 refine aa ?_;unfold cD;refine aa (bG Y rfl (x:=.none) rfl ↥47);simp only [if_true]
 refine aa (eN ?_);refine aa (bG Y rfl (x:=.ref TO) rfl ?_)
 refine aa (dz Y (by simp) λh1 M q=>?_)
 replace M:lM h1 z TI TO .ellipsis:=M
 refine aa ?_;simp only [rR,sL,iW,tE]
 refine aa (aa (m6 ?_));show ax _ _ (bC (.ref U) >>= _) _ _ _
 refine aa (G.item _ _ k1 x _ _ (G.but q1 q D.i1z D.l1z) ex λh2 V p=>wpAny_pure ?_)
 have H:dU h2 TO a b:=p.extBut _ _ D.TOi1 (q.extBut _ _ D.TOz gO)
 refine aa (cp H rfl ?_);refine aa (iT H λh3 i m=>?_)
 replace i:dU h3 TO x b:=i
 refine aa (nQ ↥47);refine aa (aa (m6 ?_));show ax _ _ (bC (.ref I) >>= _) _ _ _
 refine aa (j.item _ _ k2 y _ _ (j.but (j.but (j.but q2 q D.i2z D.l2z) p D.i12.symm D.l2i1) m D.TOi2.symm D.l2TO) ey λh4 S l=>wpAny_pure ?_)
 have C:dU h4 TO x b:=l.extBut _ _ D.TOi2 i
 refine aa (cp C rfl ?_);refine aa (iT C λh5 d k=>?_)
 replace d:dU h5 TO x y:=d
 refine aa (nQ (wpAny_pure ↥47));refine aa (cp d rfl ?_);refine aa (lJ ?_)
 have sz:h5.objs.size=s.heap.objs.size:=by rw [k.1,l.1,m.1,p.1,q.1]
 have g5:lM h5 z TI TO .ellipsis:=k.extBut _ _ D.TOz.symm (l.extBut _ _ D.i2z.symm (m.extBut _ _ D.TOz.symm (p.extBut _ _ D.i1z.symm M)))
 have k5:∀c o,c≠z->c≠TO->c≠U->c≠I->s.heap.get? c=some o->h5.get? c=some o:=λc o t r K J e=>k.extBut _ _ r (l.extBut _ _ J (m.extBut _ _ r (p.extBut _ _ K (q.extBut _ _ t e))))
 have T:S1 (k1+1) h5:=G.but (G.but (G.but V m D.TOi1.symm D.l1TO) l D.i12 D.l1i2) k D.TOi1.symm D.l1TO
 have P:S2 (k2+1) h5:=j.but S k D.TOi2.symm D.l2TO
 have X:z<h5.objs.size:=av g5
 show ax _ _ (fN (.ref z) (.ref h5.objs.size) >>= _) _ _ _;refine aa ?_;unfold fN
 have g6:lM (h5.push { cls:=.type "tuple",data:=.seq #[x,y] }) z TI TO .ellipsis:=ai _ g5
 refine aa (dz g6 (by simp) λh7 L O=>?_)
 replace L:lM h7 z TI TO (c0 h5.objs.size):=L
 refine dz L (by simp) λh u N=>?_
 replace u:lM h z TI TO (c0 h5.objs.size):=u
 have f:∀c o,c≠z->h5.get? c=some o->h.get? c=some o:=λc o n e=>N.extBut _ _ n (O.extBut _ _ n (ai _ e))
 have Z:dU h h5.objs.size x y:=N.extBut _ _ (cN X) (O.extBut _ _ (cN X) (az _ rfl))
 have B:h.objs.size=h5.objs.size+1:=by rw [N.1,O.1,cB]
 rw [sz] at u Z B
 refine wpAny_pure ⟨_,rfl,?_⟩;show Q (.ref h5.objs.size) _;rw [sz]
 exact R h u (f _ _ D.TOz d) (G.keep _ _ _ T (λo e=>f _ o D.i1z e) λo e=>f _ o D.l1z e) (j.keep _ _ _ P (λo e=>f _ o D.i2z e) λo e=>f _ o D.l2z e) Z B λc o t r K J e=>f c o t (k5 c o t r K J e)
theorem VC {TI TO:Addr}{k1 k2:Nat}(hh:A.handled=none) (D:nW z TI TO U I l1 l2) (f1:Feeds prog w U l1 xs S1) (Y:Feeds prog w I l2 ys S2)
  (G:lM s.heap z TI TO .none) (gI:dU s.heap TI (.ref U) (.ref I)) (gO:dU s.heap TO a b) (q1:S1 k1 s.heap) (q2:S2 k2 s.heap) (ed:xs[k1]? = none\/ys[k2]? = none)
  (R:∀g e,(∀c o,c≠z->c≠TO->c≠U->c≠I->s.heap.get? c=some o->g.get? c=some o)->(∃o,g.get? e=some o/\o.cls = .type "StopIteration")->E (.ref e) { s with heap:=g }):ax (aD prog w) A (eM.«zip.__next__» ⟨[.ref z],[]⟩) Q E s:=by
 show ax _ _ (mV (.ref z) 2 >>= _) _ _ _;refine aa (bG G rfl (x:=.bool false) rfl ?_)
 show ax _ _ (mV (.ref z) 3 >>= _) _ _ _;refine aa (bG G rfl (x:=.ref TI) rfl ?_)
 refine aa (cp gI rfl ?_);show ax _ _ (cD (.ref z) >>= _) _ _ _
 refine aa ?_;unfold cD;refine aa (bG G rfl (x:=.none) rfl ↥47);simp only [if_true]
 refine aa (eN ?_);refine aa (bG G rfl (x:=.ref TO) rfl ?_)
 refine aa (dz G (by simp) λh1 l i=>?_)
 replace l:lM h1 z TI TO .ellipsis:=l
 refine aa ?_;simp only [rR,sL,iW,tE]
 refine aa (aa (m6 ?_));show ax _ _ (bC (.ref U) >>= _) _ _ _
 cases ex:xs[k1]? with
 | none =>
  refine aa (f1.done _ _ k1 _ _ hh (f1.but q1 i D.i1z D.l1z) ex λh2 e f p=>?_)
  obtain ⟨oe,d,k⟩:=p
  have u:lM h2 z TI TO .ellipsis:=f _ _ D.i1z.symm l
  have ne:e≠z:=λq=>by subst q;rw [u] at d;cases d;simp at k
  exact dz u (by simp) λr _ h=>R r e (λc o j _ n _ q=>h.extBut _ _ j (f _ _ n (i.extBut _ _ j q))) ⟨oe,h.extBut _ _ ne d,k⟩
 | some x =>
  have K:ys[k2]? = none:=by rcases ed with q | q;rw [ex] at q;cases q;exact q
  refine aa (f1.item _ _ k1 x _ _ (f1.but q1 i D.i1z D.l1z) ex λh2 L f=>wpAny_pure ?_)
  have m:dU h2 TO a b:=f.extBut _ _ D.TOi1 (i.extBut _ _ D.TOz gO)
  refine aa (cp m rfl ?_);refine aa (iT m λr M h=>?_)
  refine aa (nQ ↥47);refine aa (aa (m6 ?_));show ax _ _ (bC (.ref I) >>= _) _ _ _
  refine aa (Y.done _ _ k2 _ _ hh (Y.but (Y.but (Y.but q2 i D.i2z D.l2z) f D.i12.symm D.l2i1) h D.TOi2.symm D.l2TO) K λJ e y p=>?_)
  obtain ⟨oe,d,k⟩:=p
  have t:lM J z TI TO .ellipsis:=y _ _ D.i2z.symm (h.extBut _ _ D.TOz.symm (f.extBut _ _ D.i1z.symm l))
  have ne:e≠z:=λq=>by subst q;rw [t] at d;cases d;simp at k
  exact dz t (by simp) λH _ v=>R H e (λc o j C n B q=>v.extBut _ _ j (y _ _ B (h.extBut _ _ C (f.extBut _ _ n (i.extBut _ _ j q))))) ⟨oe,v.extBut _ _ ne d,k⟩
theorem Ef {TI TO:Addr}{k1 k2:Nat}{Q:Option aj->Shared->Prop}(D:nW z TI TO G j l1 l2) (f1:Feeds prog w G l1 xs Y) (f2:Feeds prog w j l2 ys U)
  (I:lM s.heap z TI TO .none) (gI:dU s.heap TI (.ref G) (.ref j)) (gO:dU s.heap TO a b) (q1:Y k1 s.heap) (q2:U k2 s.heap) (ex:xs[k1]? = some x) (ey:ys[k2]? = some y)
  (R:∀g,lM g z TI TO (c0 s.heap.objs.size)->dU g TO x y->Y (k1+1) g->U (k2+1) g->dU g s.heap.objs.size x y->g.objs.size=s.heap.objs.size+1 ->
   (∀c o,c≠z->c≠TO->c≠G->c≠j->s.heap.get? c=some o->g.get? c=some o)->Q (some ↥11) { s with heap:=g }):ax (aD prog w) A (dY (.ref z)) Q E s:=by
 have ty:s.TypeIs (.ref z) "zip":=⟨_,I,rfl⟩
 unfold dY;exact aa (fc (cj (name:=ak "__next__") ty iZ (cI iZ ty rS
   (Ui D f1 f2 I gI gO q1 q2 ex ey λg l k i h f e d=>wpAny_pure (R g l k i h f e d)) (rf _))))
theorem El {TI TO:Addr}{k1 k2:Nat}{Q:Option aj->Shared->Prop}(hh:A.handled=none) (D:nW z TI TO G j l1 l2) (f1:Feeds prog w G l1 xs S1) (f2:Feeds prog w j l2 ys S2)
  (I:lM s.heap z TI TO .none) (gI:dU s.heap TI (.ref G) (.ref j)) (gO:dU s.heap TO a b) (Y:S1 k1 s.heap) (U:S2 k2 s.heap) (ed:xs[k1]? = none\/ys[k2]? = none)
  (R:∀g,(∀c o,c≠z->c≠TO->c≠G->c≠j->s.heap.get? c=some o->g.get? c=some o)->Q none { s with heap:=g }):ax (aD prog w) A (dY (.ref z)) Q E s:=by
 have ty:s.TypeIs (.ref z) "zip":=⟨_,I,rfl⟩
 unfold dY;refine aa (fc (cj (name:=ak "__next__") ty iZ (cI iZ ty rS (VC hh D f1 f2 I gI gO Y U ed λg e f h=>?_) (rf _))))
 obtain ⟨o,d,i⟩:=h
 exact aa (mr (T:="StopIteration") (b:=true) ⟨o,d,i⟩ nX (wpAny_pure (R _ f)))
noncomputable def WF (t:Bool):String:=match t with | true=>"tuple_iterator" | false=>"list_iterator"
noncomputable def ItK (t:Bool) (h:Heap) (i l:Addr) (k:Nat):Prop:=match t with | true=>h.IsTupleIter i l k | false=>h.IsListIter i l k
noncomputable def IsK (t:Bool) (h:Heap) (l:Addr) (xs:Array aj):Prop:=match t with | true=>h.IsTuple l xs | false=>h.IsList l xs
noncomputable def SqK (t:Bool) (K:ag) (H:Hp) (a:Addr) (xs:List V):Prop:=match t with | true=>SqT K H a xs | false=>SqL K H a xs
theorem IsK.at {t:Bool}{h':Heap}{xs:Array aj}(q:IsK t h l xs) (k:∀o,h.get? l=some o->h'.get? l=some o):IsK t h' l xs:=by
 cases t with
 | true=>obtain ⟨o,e,r⟩:=q;exact ⟨o,k o e,r⟩
 | false=>exact Heap.IsList.at q λo e=>k o e
theorem IsK.lt {t:Bool}{xs:Array aj}(q:IsK t h l xs):l<h.objs.size:=by
 cases t with
 | true=>obtain ⟨o,e,r⟩:=q;exact av e
 | false=>obtain ⟨o,e,r⟩:=q;exact av e
theorem ItK.at {t:Bool}{h':Heap}{k:Nat}(q:ItK t h i l k) (f:∀o,h.get? i=some o->h'.get? i=some o):ItK t h' i l k:=by
 cases t with
 | true=>obtain ⟨o,e,r⟩:=q;exact ⟨o,f o e,r⟩
 | false=>obtain ⟨o,e,r⟩:=q;exact ⟨o,f o e,r⟩
theorem ItK.obj {t:Bool}{k:Nat}(q:ItK t h i l k):∃o,h.get? i=some o/\∀v,o.data≠.cell v:=by
 cases t with
 | true=>obtain ⟨o,e,_,d⟩:=q;exact ⟨o,e,λv z=>by rw [d] at z;cases z⟩
 | false=>obtain ⟨o,e,_,d⟩:=q;exact ⟨o,e,λv z=>by rw [d] at z;cases z⟩
theorem ItK.of {t:Bool}{h:Heap}{i:Addr}(e:h.get? i=some { cls:=.type (WF t),data:=.fields #[.ref l,.int 0 0] }):ItK t h i l 0:=by
 cases t with
 | true=>exact ⟨_,e,rfl,rfl⟩
 | false=>exact ⟨_,e,rfl,rfl⟩
theorem Q3 {t:Bool}{i l:Addr}{xs:Array aj}(n:l≠i):Feeds prog w i l xs λk h=>ItK t h i l k/\IsK t h l xs:=by
 cases t with
 | true=>exact YN n
 | false=>exact ZI n
theorem ZT {t:Bool}{Q:aj->Shared->Prop}(q:IsK t s.heap l xs) (z:Q ↥11 { s with heap:=s.heap.push { cls:=.type (WF t),data:=.fields #[.ref l,.int 0 0] } }):ax (aD prog w) A (lX (.ref l)) Q E s:=by
 cases t with
 | true=>exact oR q z
 | false=>exact d6 q z
noncomputable abbrev zp1 (t:Bool) (h:Heap) (l:Addr):Heap:=h.push { cls:=.type (WF t),data:=.fields #[.ref l,.int 0 0] }
noncomputable abbrev zp2 (t u:Bool) (h:Heap) (l m:Addr):Heap:=zp1 u (zp1 t h l) m
noncomputable abbrev zp3 (t u:Bool) (h:Heap) (l m:Addr):Heap:=(zp2 t u h l m).push { cls:=.type "tuple",data:=.seq #[.ref h.objs.size,.ref (zp1 t h l).objs.size] }
noncomputable abbrev zp4 (t u:Bool) (h:Heap) (l m:Addr):Heap:=(zp3 t u h l m).push { cls:=.type "tuple",data:=.seq #[.none,.none] }
noncomputable abbrev zp5 (t u:Bool) (h:Heap) (l m:Addr):Heap:=(zp4 t u h l m).push { cls:=.type "zip",data:=.fields #[.none,.bool false,.bool false,.ref (zp2 t u h l m).objs.size,.ref (zp3 t u h l m).objs.size] }
theorem YK (t u:Bool) (l m:Addr) (xs ys:Array aj) :
  Meets (eM.«zip.__new__» ⟨[.type "zip",.ref l,.ref m],[]⟩) (λ_ R s=>IsK t s.heap l xs/\IsK u s.heap m ys/\R (.ok (.ret (.ref (zp4 t u s.heap l m).objs.size))) { s with heap:=zp5 t u s.heap l m }) :=
 .of_wp λprog w A R b h=>by
  obtain ⟨a,g,d,tk,os⟩:=b;obtain ⟨f,c,h⟩:=h;have j:=sub_zip
  have i:IsK t (Shared.heap ⟨a,g,d,tk,os⟩) l xs:=f
  have p2:IsK u (Shared.heap ⟨zp1 t a l,g,d,tk,os⟩) m ys:=c.at λo e=>ai _ e
  wp_walk using ZT i,ZT p2
  exact ⟨_,rfl,h⟩
theorem WX {t u:Bool}{Q:aj->Shared->Prop}(G:IsK t s.heap l xs) (z:IsK u s.heap m ys)
  (R:∀g,lM g (s.heap.objs.size+4) (s.heap.objs.size+2) (s.heap.objs.size+3) .none->dU g (s.heap.objs.size+2) ↥11 (.ref ↥16) ->
   dU g (s.heap.objs.size+3) .none .none->ItK t g s.heap.objs.size l 0->ItK u g ↥16 m 0->(∀c o,s.heap.get? c=some o->g.get? c=some o)->Q (.ref (s.heap.objs.size+4)) { s with heap:=g }) :
  ax (aD prog w) A (call (.type "zip") [.ref l,.ref m]) Q E s:=by
 refine callType_new F.called_zip ⋯ (F.typeCall_zip_2 _ _) (F.newCall_zip_2 _ _) (λobj=>F.args_object_init_3 obj _ _) F.entry_zip_new (YK t u l m xs ys) ⟨G,z,?_⟩
 have d:(zp1 t s.heap l).objs.size=s.heap.objs.size+1:=cB ..
 have b:(zp2 t u s.heap l m).objs.size=s.heap.objs.size+2:=by rw [cB,d]
 have a:(zp3 t u s.heap l m).objs.size=s.heap.objs.size+3:=by rw [cB,b]
 have f:(zp4 t u s.heap l m).objs.size=s.heap.objs.size+4:=by rw [cB,a]
 have e:(zp5 t u s.heap l m).get? (zp4 t u s.heap l m).objs.size=some _:=az _ rfl
 have h:(zp5 t u s.heap l m).get? (zp3 t u s.heap l m).objs.size=some _:=ai _ (az _ rfl)
 have i:(zp5 t u s.heap l m).get? (zp2 t u s.heap l m).objs.size=some _:=ai _ (ai _ (az _ rfl))
 have j:(zp5 t u s.heap l m).get? (zp1 t s.heap l).objs.size=some _:=ai _ (ai _ (ai _ (az _ rfl)))
 have k:(zp5 t u s.heap l m).get? s.heap.objs.size=some _:=ai _ (ai _ (ai _ (ai _ (az _ rfl))))
 show _/\_
 rw [b,a,f] at e;rw [d,b] at i;rw [a] at h;rw [d] at j;rw [f]
 exact ⟨⟨_,e,rfl⟩,R _ e i h (.of k) (.of j) λc o x=>ai _ (ai _ (ai _ (ai _ (ai _ x))))⟩
end
section
variable {X:Cx}{s:Shared}{σ:St}{H:Hp}{pins:List (Addr×Obj)}
theorem V6 {t:Bool}(I:Inv X pins σ H s) (h:SqK t X.K H a xs):∃its:List aj,jH xs its/\IsK t s.heap a its.toArray/\xs.length<=sizeLine:=by
 cases t with
 | true=>exact I.tuple h
 | false=>obtain ⟨its,r,p,z⟩:=I.list h;exact ⟨its,r,p.isList,z⟩
theorem X0 {t:Bool}(I:Inv X pins σ H s) (h:SqK t X.K H a xs) (h':SqK t X.K H a ys):xs=ys:=by
 cases t with
 | true=>exact I.tuple_inj h h'
 | false=>exact I.list_inj h h'
end
noncomputable def Vt (K:ag) (t u:Bool) (z j:Addr):It :=
 ⟨λi H=>∃xs ys x y,SqK t K H z xs/\SqK u K H j ys/\xs[i]? = some x/\ys[i]? = some y,λi H v H'=>∃p x y,v = .ref p/\H p=none/\H'=upd H p (.tup [x,y])/\(∀xs,SqK t K H z xs->xs[i]? = some x)/\∀ys,SqK u K H j ys->ys[i]? = some y,
  λi H=>∃xs ys,SqK t K H z xs/\SqK u K H j ys/\(xs.length<=i\/ys.length<=i)⟩
theorem Yn {t u:Bool}{K:ag}{x1:Nat}{pos:Pos}{TI TO:Addr}(D:nW z TI TO i1 i2 l1 l2) :
  Turn P w K (.Tuple es x1 pos) (Vt K t u l1 l2) [z,TI,TO,i1,i2] z (λi h=>∃a b,lM h z TI TO .none/\dU h TI (.ref i1) (.ref i2)/\dU h TO a b/\ItK t h i1 l1 i/\ItK u h i2 l2 i) where
 mem:=by simp
 obj:=λi h ⟨a,b,t1,t2,t3,t4,t5⟩ c hc=>by
  simp only [ff,fK,or_false] at hc
  rcases hc with rfl | rfl | rfl | rfl | rfl
  ·exact ⟨_,t1,λv e=>by have e':nE _=mf v:=e;cases e'⟩
  ·exact ⟨_,t2,λv e=>by have e':Data.seq _ _=mf v:=e;cases e'⟩
  ·exact ⟨_,t3,λv e=>by have e':Data.seq _ _=mf v:=e;cases e'⟩
  ·exact t4.obj
  ·exact t5.obj
 keep:=λi h h' ⟨a,b,t1,t2,t3,t4,t5⟩ k=>⟨a,b,k z (by simp) _ t1,k TI (by simp) _ t2,k TO (by simp) _ t3,t4.at λo e=>k i1 (by simp) o e,t5.at λo e=>k i2 (by simp) o e⟩
 item:=by
  intro X hP hw hK hc i pins s σ H E I hf st hg
  subst hP hw hK
  obtain ⟨a,b,t1,t2,t3,t4,t5⟩:=st
  obtain ⟨xs,ys,x,y,hq1,hq2,hx,hy⟩:=hg
  obtain ⟨its1,rv1,p1,_⟩:=V6 I hq1
  obtain ⟨its2,rv2,p2,_⟩:=V6 I hq2
  obtain ⟨u1,hu1,ru1⟩:=rv1.get hx
  obtain ⟨u2,hu2,ru2⟩:=rv2.get hy
  have hn:H s.heap.objs.size=none:=I.hok.fresh (ar _)
  have fz:=hf z (by simp)
  have fTO:=hf TO (by simp)
  have f1:=hf i1 (by simp)
  have f2:=hf i2 (by simp)
  refine Ef D (Q3 D.l1i1) (Q3 D.l2i2) t1 t2 t3 ⟨t4,p1⟩ ⟨t5,p2⟩ (x:=u1) (y:=u2) (by simpa using hu1) (by simpa using hu2) λh' o1 o2 o3 o4 o5 o6 o7=>⟨_,rfl,?_⟩
  obtain ⟨o3,_⟩:=o3;obtain ⟨o4,_⟩:=o4
  refine wpAny_letOwnedTupleGo_zip o1 λh2 q1 sb=>?_
  have hzl:z<s.heap.objs.size:=av t1
  have kk:∀c o,c≠z->c≠TO->c≠i1->c≠i2->s.heap.get? c=some o->h2.get? c=some o:=λc o n1 n2 n3 n4 e=>(sb.2 c n1).trans (o7 c o n1 n2 n3 n4 e)
  have et:h2.get? s.heap.objs.size=some { cls:=.type "tuple",data:=.seq #[u1,u2] }:=(sb.2 _ (cN hzl)).trans o5
  have tne:∀c o,H c=some o->c≠z/\c≠TO/\c≠i1/\c≠i2/\c≠s.heap.objs.size:=λc o q=>⟨λe=>(by rw [e,fz.1] at q;cases q),λe=>(by rw [e,fTO.1] at q;cases q),λe=>(by rw [e,f1.1] at q;cases q),λe=>(by rw [e,f2.1] at q;cases q),λe=>(by rw [e,hn] at q;cases q)⟩
  have getF:∀{c:Addr} {o:HO},H c=some o->upd H s.heap.objs.size (.tup [x,y]) c=some o:=λ{c o} q=>by rw [j7 (tne c o q).2.2.2.2];exact q
  have nin:∀{c:Addr},c∉[z,TO,i1,i2]->c≠z/\c≠TO/\c≠i1/\c≠i2:=λ{c} h=>by simpa using h
  have I1:Inv X pins σ (upd H s.heap.objs.size (.tup [x,y])) { s with heap:=h2,toks:=s.toks }:=by
   refine I.step (g':=s.gens) (d':=s.drawn) (ch:=[z,TO,i1,i2]) (λc hc'=>?_) (λc o _ _ hc' e _=>kk c o (nin hc').1 (nin hc').2.1 (nin hc').2.2.1 (nin hc').2.2.2 e) (λc o _ _ hc' e _=>⟨o.slots,kk c o (nin hc').1 (nin hc').2.1 (nin hc').2.2.1 (nin hc').2.2.2 e⟩)
    (λc o _ e n=>by rw [j7 (aB (av e))];exact n) (λc o hc' e=>⟨o,kk c o (nin hc').1 (nin hc').2.1 (nin hc').2.2.1 (nin hc').2.2.2 e⟩) (λ_ _ q=>getF q) (λ_ _ _ q=>getF q) (λc ps q=>⟨#[],by rw [getF q];simp⟩) (λm hm=>?_) (λc v q=>?_) I.bare
   ·simp only [ff,fK,or_false] at hc'
    rcases hc' with rfl | rfl | rfl | rfl
    ·exact ⟨fz.2.2.2.1,fz.2.1,fz.2.2.2.2.1,fz.2.2.2.2.2⟩
    ·exact ⟨fTO.2.2.2.1,fTO.2.1,fTO.2.2.2.2.1,fTO.2.2.2.2.2⟩
    ·exact ⟨f1.2.2.2.1,f1.2.1,f1.2.2.2.2.1,f1.2.2.2.2.2⟩
    ·exact ⟨f2.2.2.2.1,f2.2.1,f2.2.2.2.2.1,f2.2.2.2.2.2⟩
   ·obtain ⟨o,es,ep,ho,r⟩:=hm
    exact ⟨o,es,ep,kk _ o (cx fz.2.1) (cx fTO.2.1) (cx f1.2.1) (cx f2.2.1) ho,r⟩
   ·by_cases hb:c=s.heap.objs.size
    ·subst hb
     rw [j6] at q;cases q
     exact ⟨by show 2<=sizeLine;decide,[u1,u2],.cons ru1 (.cons ru2 .nil),⟨_,et,rfl,0,rfl⟩⟩
    ·rw [j7 hb] at q
     have hh:=tne c v q
     refine (I.hok c v q).stay (λc' o hc' e=>?_) (λ_ e=>getF e) λ_ _ e=>getF e
     have hh':c'≠z/\c'≠TO/\c'≠i1/\c'≠i2:=by
      rcases hc' with e | e
      ·rw [e];exact ⟨hh.1,hh.2.1,hh.2.2.1,hh.2.2.2.1⟩
      ·have:=tne c' _ e;exact ⟨this.1,this.2.1,this.2.2.1,this.2.2.2.1⟩
     exact kk c' o hh'.1 hh'.2.1 hh'.2.2.1 hh'.2.2.2 e
  have s2:∀{c:Addr} {o:Obj},c≠z->h'.get? c=some o->h2.get? c=some o:=λn e=>(sb.2 _ n).trans e
  refine ⟨.ref s.heap.objs.size,_,I1,rfl,⟨_,x,y,rfl,hn,rfl,λys' hy'=>by rw [X0 I hy' hq1];exact hx,λys' hy'=>by rw [X0 I hy' hq2];exact hy⟩,⟨u1,u2,q1,kk _ _ D.TIz D.TITO D.TIi1 D.TIi2 t2,s2 D.TOz o2,o3.at λo e=>s2 D.i1z e,o4.at λo e=>s2 D.i2z e⟩,λc hc'=>?_⟩
  have hl:c<s.heap.objs.size:=by
   simp only [ff,fK,or_false] at hc'
   rcases hc' with rfl | rfl | rfl | rfl | rfl
   ·exact hzl
   ·exact av t2
   ·exact av t3
   ·obtain ⟨o,e,_⟩:=t4.obj;exact av e
   ·obtain ⟨o,e,_⟩:=t5.obj;exact av e
  rw [j7 (aB hl)]
  exact (hf c hc').1
 done:=by
  intro X hP hw hK hc i pins s σ H E I hf st hg
  subst hP hw hK
  obtain ⟨a,b,t1,t2,t3,t4,t5⟩:=st
  obtain ⟨xs,ys,hq1,hq2,hend⟩:=hg
  obtain ⟨its1,rv1,p1,_⟩:=V6 I hq1
  obtain ⟨its2,rv2,p2,_⟩:=V6 I hq2
  have e1:=rv1.length
  have e2:=rv2.length
  have fz:=hf z (by simp)
  have fTO:=hf TO (by simp)
  have f1:=hf i1 (by simp)
  have f2:=hf i2 (by simp)
  have tne:∀c o,H c=some o->c≠z/\c≠TO/\c≠i1/\c≠i2:=λc o q=>⟨λe=>(by rw [e,fz.1] at q;cases q),λe=>(by rw [e,fTO.1] at q;cases q),λe=>(by rw [e,f1.1] at q;cases q),λe=>(by rw [e,f2.1] at q;cases q)⟩
  have nin:∀{c:Addr},c∉[z,TO,i1,i2]->c≠z/\c≠TO/\c≠i1/\c≠i2:=λ{c} h=>by simpa using h
  refine El (I.ok.hd hc) D (Q3 D.l1i1) (Q3 D.l2i2) t1 t2 t3 ⟨t4,p1⟩ ⟨t5,p2⟩ ?_ λh' kk=>⟨rfl,?_⟩
  ·rcases hend with h | h
   ·exact .inl ↥69
   ·exact .inr ↥69
  ·refine I.step (g':=s.gens) (d':=s.drawn) (t':=s.toks) (ch:=[z,TO,i1,i2]) (λc hc'=>?_) (λc o _ _ hc' e _=>kk c o (nin hc').1 (nin hc').2.1 (nin hc').2.2.1 (nin hc').2.2.2 e) (λc o _ _ hc' e _=>⟨o.slots,kk c o (nin hc').1 (nin hc').2.1 (nin hc').2.2.1 (nin hc').2.2.2 e⟩)
    (λ_ _ _ _ n=>n) (λc o hc' e=>⟨o,kk c o (nin hc').1 (nin hc').2.1 (nin hc').2.2.1 (nin hc').2.2.2 e⟩) (λ_ _ q=>q) (λ_ _ _ q=>q) (λc ps q=>⟨#[],by rw [q];simp⟩) (λm hm=>?_) (λc v q=>?_) I.bare
   ·simp only [ff,fK,or_false] at hc'
    rcases hc' with rfl | rfl | rfl | rfl
    ·exact ⟨fz.2.2.2.1,fz.2.1,fz.2.2.2.2.1,fz.2.2.2.2.2⟩
    ·exact ⟨fTO.2.2.2.1,fTO.2.1,fTO.2.2.2.2.1,fTO.2.2.2.2.2⟩
    ·exact ⟨f1.2.2.2.1,f1.2.1,f1.2.2.2.2.1,f1.2.2.2.2.2⟩
    ·exact ⟨f2.2.2.2.1,f2.2.1,f2.2.2.2.2.1,f2.2.2.2.2.2⟩
   ·obtain ⟨o,es,ep,ho,r⟩:=hm
    exact ⟨o,es,ep,kk _ o (cx fz.2.1) (cx fTO.2.1) (cx f1.2.1) (cx f2.2.1) ho,r⟩
   ·have hh:=tne c v q
    refine (I.hok c v q).stay (λc' o hc' e=>?_) (λ_ e=>e) λ_ _ e=>e
    have hh':c'≠z/\c'≠TO/\c'≠i1/\c'≠i2:=by
     rcases hc' with e | e
     ·rw [e];exact hh
     ·exact tne c' _ e
    exact kk c' o hh'.1 hh'.2.1 hh'.2.2.1 hh'.2.2.2 e
 self:=λ_ _ _ _ _ ⟨_,_,t1,_⟩ h=>rT t1 h
section
variable {X:Cx}
inductive iZipSI (K:ag) (R:It->Hp->Prop) (vs:List V) (H1:Hp):Prop
 | mk (t:_) (u:_) (a:_) (b:_) (_:vs=[.ref a,.ref b]) (_:(∃xs,SqK t K H1 a xs)) (_:(∃ys,SqK u K H1 b ys)) (_:R (Vt K t u a b) H1)
noncomputable def ED (K:ag) (ta:TA):TI:=λσ H R=>ta σ H λa H1=>iZipSI K R a H1
theorem W1 {G:Nat}{l r:Expr}{p pos:Pos}(K:ag) (Y:Gl X "zip") (U:X.mg "zip" = none) (ha:PA X [l,r] ta) (hs:aR [l,r] X.env=(false,eval l X.env)::aR [r] X.env:=by rfl) (z:(cM pos (aR [r] X.env)).any (·.1)=false:=by rfl) (hK:X.K=K:=by rfl) :
  PI X (.Tuple es G tpos) (.Call (.Name "zip" p) [l,r] [] pos) (ED K ta):=by
 subst hK
 intro pins s σ H R I h
 refine Aj (yS I Y U boot_zip (c9 (thn ↥98 λQ s1 ⟨P,H1,d,B,C⟩=>?_) hs z))
 obtain ⟨t,T,a,b,e,⟨xs,L⟩,⟨ys,n⟩,q⟩:=C
 subst e
 obtain ⟨u,S,rfl,A,j⟩:=Y2 B
 cases A
 cases j
 obtain ⟨O,V,pl,_⟩:=V6 d L
 obtain ⟨J,N,f,_⟩:=V6 d n
 refine WX pl f λh' i y x w v E=>?_
 refine rT i ?_
 have M:Inv X pins σ H1 { s1 with heap:=h',toks:=s1.toks }:=d.kept E
 have m:a<s1.heap.objs.size:=pl.lt
 have k:b<s1.heap.objs.size:=f.lt
 have D:nW (s1.heap.objs.size+4) (s1.heap.objs.size+2) (s1.heap.objs.size+3) s1.heap.objs.size (s1.heap.objs.size+1) a b:=by
  constructor <;> first | exact aB m | exact aB k | exact aB (aQ m (eA _ _)) | exact aB (aQ k (eA _ _)) | (apply aB;omega) | (apply cN;omega)
 refine ⟨_,[s1.heap.objs.size+4,s1.heap.objs.size+2,s1.heap.objs.size+3,s1.heap.objs.size,s1.heap.objs.size+1],_,_,H1,rfl,M,Yn D,⟨.none,.none,i,y,x,w,v⟩,λc o=>?_,q⟩
 have g:s1.heap.objs.size<=c:=by
  simp only [ff,fK,or_false] at o
  rcases o with rfl | rfl | rfl | rfl | rfl
  ·exact eA _ _
  ·exact eA _ _
  ·exact eA _ _
  ·exact ar _
  ·exact eA _ _
 exact d.fpOk g (d.hok.fresh g)
end
theorem Jw {K:ag}{t0 u0:Bool}{xs ys:List V}{g:TG}{ti:TT}{te:TE}{R:Hp->Prop}{σ:St}{H:Hp}(ab:xs.length=ys.length) (Pv:Nat->St->Hp->Prop) (h0:Pv 0 σ H) (hl:∀i σ H,i<=xs.length->Pv i σ H->SqK t0 K H a xs/\SqK u0 K H b ys)
  (hs:∀i x y σ H t,xs[i]? = some x->ys[i]? = some y->Pv i σ H->H t=none->g (.ref t) σ (upd H t (.tup [x,y])) λj Y=>ti j Y λok G=>if ok=true then te j G λv z=>∃zs,z acc=some (.lst zs)/\zs.length<sizeLine/\Pv (i+1) j (upd z acc (.lst (zs++[v]))) else Pv (i+1) j G)
  (hd:∀σ H,Pv xs.length σ H->R H) :
  ∃W:Nat->Nat->St->Hp->Prop,↥76/\∀i m I H',W i m I H' ->
   ((Vt K t0 u0 a b).stop i H'/\R H')\/((Vt K t0 u0 a b).go i H'/\∃U:St->Hp->Prop,↥62 /\
    ∀x H2,(Vt K t0 u0 a b).yld i H' x H2->g x I H2 λj Y=>ti j Y λok G=>if ok=true then te j G λv z=>∃zs,z acc=some (.lst zs)/\zs.length<sizeLine/\U j (upd z acc (.lst (zs++[v]))) else U j G):=by
 refine ⟨λi m σ H=>m=xs.length-i/\i<=xs.length/\Pv i σ H,⟨xs.length,by simp,aG _,h0⟩,?_⟩
 rintro i m σ H ⟨rfl,hi,p⟩
 obtain ⟨q,d⟩:=hl i σ H hi p
 by_cases c:i<xs.length
 ·refine .inr ⟨⟨xs,ys,xs[i],ys[i]'∅,q,d,by simp [c],af ∅⟩,Pv (i+1),λI H' l=>⟨xs.length-(i+1),∅,rfl,c,l⟩,λv H' y=>?_⟩
  obtain ⟨t,x,k,rfl,n,rfl,h,f⟩:=y
  exact hs i x k σ H t (h xs q) (f ys d) p n
 ·have e:i=xs.length:=∅
  subst e
  exact .inl ⟨⟨xs,ys,q,d,.inl (ar _)⟩,hd σ H p⟩
end L2
end
section
namespace L2
open PySem.W
mutual
inductive Dat (H:Hp):V->PyData->Prop
 | non:Dat H .non .none
 | bl (b:Bool):Dat H (.bl b) (.bool b)
 | int (i:Int):Dat H (.int i) (.int i)
 | str (x:Str):Dat H (.str x) (.str x)
 | tup {p:Addr} {vs:List V} {ds:List PyData}:H p=some (.tup vs)->DatL H vs ds->Dat H (.ref p) (.tuple ds)
 | lst {p:Addr} {vs:List V} {ds:List PyData}:H p=some (.lst vs)->DatL H vs ds->Dat H (.ref p) (.list ds)
inductive DatL (H:Hp):List V->List PyData->Prop
 | nil:DatL H [] []
 | cons {v:V} {vs:List V} {d:PyData} {ds:List PyData}:Dat H v d->DatL H vs ds->DatL H (v::vs) (d::ds)
end
mutual
theorem Dat.ext (x:Vv M H H') (j:∀c,M c->∀vs,H c≠some (.lst vs)/\H c≠some (.tup vs)):∀{v:V}{d:PyData},Dat H v d->Dat H' v d
 | _,_,.non=>.non
 | _,_,.bl b=>.bl b
 | _,_,.int i=>.int i
 | _,_,.str y=>.str y
 | _,_,.tup h r=>.tup (x _ _ h λz=>(j _ z _).2 h) (DatL.ext x j r)
 | _,_,.lst h r=>.lst (x _ _ h λz=>(j _ z _).1 h) (DatL.ext x j r)
theorem DatL.ext (x:Vv M H H') (j:∀c,M c->∀vs,H c≠some (.lst vs)/\H c≠some (.tup vs)):∀{vs:List V}{ds:List PyData},DatL H vs ds->DatL H' vs ds
 | _,_,.nil=>.nil
 | _,_,.cons h r=>.cons (Dat.ext x j h) (DatL.ext x j r)
end
theorem Dat.same (s:jm H H') (h:Dat H v d):Dat H' v d:=h.ext (M:=λ_=>False) (Vv.of_same s) (λ_ z=>z.elim)
mutual
theorem Dat.rep {M:Addr->Prop}(j:∀p,¬M p) {K:ag}:∀{v:V}{d:PyData},Dat H v d->Rep M K H v d
 | _,_,.non=>.non
 | _,_,.bl b=>.bl b
 | _,_,.int i=>.int i
 | _,_,.str y=>.str y
 | _,_,.tup h r=>.tup (j _) (SqT.of h) (DatL.rep j r)
 | _,_,.lst h r=>.lst (j _) (SqL.of h) (DatL.rep j r)
theorem DatL.rep {M:Addr->Prop}(j:∀p,¬M p) {K:ag}:∀{vs:List V}{ds:List PyData},DatL H vs ds->RepL M K H vs ds
 | _,_,.nil=>.nil
 | _,_,.cons h r=>.cons (Dat.rep j h) (DatL.rep j r)
end
theorem DatL.length :∀{vs:List V}{ds:List PyData},DatL H vs ds->vs.length=ds.length
 | _,_,.nil=>rfl
 | _,_,.cons _ r=>congrArg Nat.succ r.length
theorem DatL.get :∀{vs:List V}{ds:List PyData}{i:Nat}{v:V},DatL H vs ds->vs[i]? = some v->∃d,ds[i]? = some d/\Dat H v d
 | _,_,_,_,.nil,e=>by simp at e
 | _,_,0,_,.cons r _,e=>by simp at e;subst e;exact ⟨_,rfl,r⟩
 | _,_,i+1,v,.cons _ t,e=>by
  obtain ⟨d,h1,h2⟩:=DatL.get (i:=i) (v:=v) t (by simpa using e)
  exact ⟨d,by simpa using h1,h2⟩
noncomputable def zH:Nat->PyData->Bool
 | 0,_=>false
 | _+1,.none=>true
 | _+1,.bool _=>true
 | _+1,.int _=>true
 | _+1,.str _=>true
 | n+1,.list ds=>decide (ds.length<=1000) && ds.all (zH n)
 | n+1,.tuple ds=>decide (ds.length<=1000) && ds.all (zH n)
 | _+1,_=>false
inductive spAl (n:Nat) (vs:List V) (H:Hp) (Q:VK) (z_3:XK):Prop
 | mk (x y:V) (d:PyData) (_:vs=[x,y]) (_:Dat H x d) (_:Dat H y d) (_:zH n d=true) (_:∀H',jm H H'->Q (.bl true) H')
theorem YI {n:Nat}{ds:List PyData}(h:ds.length<=1000) (a:ds.all (zH n)=true):zH (n+1) (.list ds)=true:=by
 show (decide (ds.length<=1000) && ds.all (zH n))=true
 rw [decide_eq_true h,a];rfl
theorem QS (K:ag):bb K (.type "str") (.type "bool")=some false:=(qA K _ _).trans ↥41
theorem Z4 (K:ag):bb K (.type "str") (.type "int")=some false:=(qA K _ _).trans ↥41
theorem gY (K:ag):bb K (.type "str") (.type "str")=some true:=(qA K _ _).trans ↥41
end L2
end
section
namespace L2
open PySem.W
noncomputable def Two (vs:Array aj) (a0:aj):Prop:=vs[0]? = some a0/\vs[2]? = some .none
theorem Two.put (t:Two vs a0) (x:aj):Two (vs.setIfInBounds 1 x) a0 :=
 ⟨by rw [iB ⋯];exact t.1,by rw [iB ⋯];exact t.2⟩
theorem Vu (o:Obj) (f:Array aj->Array aj):(o.mapFields f).dict=o.dict:=by
 obtain ⟨c,d,a,b⟩:=o
 cases a <;> rfl
noncomputable def OnT (h B:Heap) (e:Addr) (cls a0 fl:aj):Prop :=
 ∃oe a T b ts,h.get? e=some oe/\(oe.cls=cls/\Two a a0/\oe.dict=none)/\oe.data = .fields a/\a[1]? = some (.ref T)/\B.get? T=none/\T≠e/\h.get? T=some b/\b.data = .fields ts/\ts[3]? = some fl
section
variable {M:Model}{A:bx}{E:aj->Shared->Prop}{s:Shared}{B:Heap}{env:Env}{outer l:List Env}{L e:Addr}{cls a0 fl:aj}{Q:Unit->Shared->Prop}
theorem yV (st:B.StaysIn s.heap) (z:s.heap.FunFrames B l) (on:OnT s.heap B e cls a0 fl)
  (k:∀g,B.StaysIn g->g.FunFrames B l->OnT g B e cls a0 .none->(∀b o,s.heap.get? b=some o->(∀vs,o.data≠.fields vs)->g.get? b=some o)->Q () { s with heap:=g }):ax M A (setFlight (.ref e) none) Q E s:=by
 obtain ⟨oe,vs,T,w,ts,p,u,r,t,gB,n,i,h,v⟩:=on
 have j:3<ts.size:=(Array.getElem?_eq_some_iff.mp v).1
 have d:∀b,b≠T->(s.heap.update T (fg (·.setIfInBounds 3 ((none:Option Addr).elim aX λf=>c0 f)))).get? b=s.heap.get? b:=λb a =>
  bY _ _ a.symm
 have m:∀{b o},s.heap.get? b=some o->(∀vs,o.data≠.fields vs)->b≠T:=λa c q=>by
  rw [q,i] at a
  cases a
  exact c ts h
 unfold setFlight
 refine aa (bG p r t ?_)
 rw [if_pos (by simp)]
 refine fB i h j (k _ (λb o a=>?_) (z.of_keeps λb o a c=>⟨o,?_,rfl⟩) ?_ λb o a c=>?_)
 ·rw [d b λq=>by rw [q,gB] at a;cases a]
  exact st b o a
 ·rw [d b (m a c)]
  exact a
 ·refine ⟨oe,vs,T,_,_,?_,u,r,t,gB,n,dC _ i (fi (eO h _)),eO h _,by simp [j]⟩
  rw [d e n.symm]
  exact p
 ·rw [d b (m a c)]
  exact a
theorem XQ {Y:Bool}(fr:A.frames=some (env::outer)) (z:s.heap.FunFrames B (env::outer)) (hL:env.frame=some L) (G:s.heap.get? e=some oe) (st:B.StaysIn s.heap) (ne:B.get? e=none) (gd:oe.data = .fields vs)
  (I:1<vs.size) (U:Two vs a0) (dn:oe.dict=none) (k:∀g,B.StaysIn g->g.FunFrames B (env::outer)->OnT g B e oe.cls a0 (c0 L)->s.heap.UpToSlots g->Q () { s with heap:=g }) :
  ax M A (do let a <- frameOf env;let pl <- entryPlaceOf L Y;let b <- oF j a .none (c0 L) .none pl;setField (.ref e) 1 b) Q E s:=by
 have p:e∉(env::outer).filterMap (·.frame):=λq=>by
  obtain ⟨_,o,u,d⟩:=z.mem q
  rw [G] at u
  cases u
  exact d vs gd
 refine aa (wpAny_frameOf_fun fr z hL λg1 f=>?_)
 refine aa (wpAny_entryPlaceOf λpl n=>?_)
 unfold oF newFields
 refine aa (bS ?_ (n.sizeOk5 _ _ _ _ _))
 have w:g1.get? e=some oe:=(f.2.1 e p).trans G
 have s1:B.StaysIn g1:=λb o c=>(f.2.1 b λq=>by rw [(z.mem q).1] at c;cases c).trans (st b o c)
 generalize l:({ cls:=.type "traceback",dict:=none,data:=.fields ([j,.ref L,.none,c0 L,.none]++(if pl.isEmpty then du 6 aX else pl)).toArray }:Obj)=new
 have t:new.data = .fields ([j,.ref L,.none,c0 L,.none]++(if pl.isEmpty then du 6 aX else pl)).toArray:=by rw [<- l]
 have v:=ai (h:=g1) new w
 refine fB v gd I ?_
 have y:g1.objs.size≠e:=cN (av w)
 have x:=eO gd ↥121
 have C:=dC (fg ↥121) v (fi x)
 have T3:((g1.push new).update e (fg ↥121)).get? g1.objs.size=some new:=by
  rw [bY _ _ y.symm]
  exact az g1 (fi t)
 have kp:∀{b o},b≠e->g1.get? b=some o->((g1.push new).update e (fg ↥121)).get? b=some o:=λc q=>by
  rw [bY _ _ c.symm]
  exact ai _ q
 have r:∀{b o},s.heap.get? b=some o->(∀vs,o.data≠.fields vs)->b≠e:=λc d q=>by
  rw [q,G] at c
  cases c
  exact d vs gd
 refine k _ (λb o c=>kp (λq=>by rw [q,ne] at c;cases c) (s1 b o c)) (z.of_keeps λb o c d=>?_) ?_ λb o c d=>?_
 ·obtain ⟨m,i⟩:=f.2.2 b o c
  exact ⟨_,kp (r c d) i,rfl⟩
 ·exact ⟨_,_,g1.objs.size,_,_,C,⟨r9 _ _,U.put _,(Vu _ _).trans dn⟩,x,by simp [I],s1.fresh,y,T3,t,by first | (simp;done) | (rcases n with rfl | ⟨_,_,_,_,_,_,_,rfl⟩ <;> simp)⟩
 ·obtain ⟨m,i⟩:=f.2.2 b o c
  exact ⟨m,kp (r c d) i⟩
theorem Y0 (fr:A.frames=some (env::outer)) (z:s.heap.FunFrames B (env::outer)) (j:env.frame=some L) (on:OnT s.heap B e cls a0 .none) (st:B.StaysIn s.heap) (ne:B.get? e=none)
  (k:∀g,B.StaysIn g->g.FunFrames B (env::outer)->OnT g B e cls a0 (c0 L)->s.heap.UpToSlots g->Q () { s with heap:=g }):ax M A (lB (.ref e) env) Q E s:=by
 obtain ⟨oe,vs,T,C,ts,l,⟨rfl,r,y⟩,m,p,gB,x,f,h,n⟩:=on
 unfold lB
 simp only [j]
 refine aa (bG l m p ?_)
 rw [if_pos (by simp)]
 refine aa (bG f h n ?_)
 rw [if_neg (by simp [c0])]
 refine aa (fB f h (Array.getElem?_eq_some_iff.mp n).1 ?_)
 have d:∀b,b≠T->(s.heap.update T (fg (·.setIfInBounds 3 aX))).get? b=s.heap.get? b:=λb a =>
  bY _ _ a.symm
 have i:∀{b o},s.heap.get? b=some o->(∀vs,o.data≠.fields vs)->b≠T:=λa c q=>by
  rw [q,f] at a
  cases a
  exact c ts h
 refine XQ (oe:=oe) (vs:=vs) (a0:=a0) fr (z.of_keeps λb o a c=>⟨o,?_,rfl⟩) j ?_ (λb o a=>?_) ne m (Array.getElem?_eq_some_iff.mp p).1 r y λg w v u t=>k g w v u λb o a c=>?_
 ·exact (d b (i a c)).trans a
 ·exact (d e x.symm).trans l
 ·exact (d b λq=>by rw [q,gB] at a;cases a).trans (st b o a)
 ·exact t b o ((d b (i a c)).trans a) c
theorem U3 (fr:A.frames=some (env::outer)) (G:s.heap.FunFrames B (env::outer)) (z:env.frame=some L) (on:OnT s.heap B e cls a0 .none) (st:B.StaysIn s.heap) (ne:B.get? e=none)
  (k:∀g,B.StaysIn g->g.FunFrames B (env::outer)->OnT g B e cls a0 .none->s.heap.UpToSlots g->Q () { s with heap:=g }):ax M A (ou env (.ref e)) Q E s:=by
 unfold ou
 refine aa (Y0 fr G z on st ne λg l j i h=>?_)
 exact yV (s:={ s with heap:=g }) l j i λp f d c a=>k p f d c (h.trans λb o n m=>⟨o.slots,a b o n m⟩)
theorem Zn (fr:A.frames=some (env::outer)) (z:env.frame=some L) (st:B.StaysIn h) (G:h.FunFrames B (env::outer)) (j:nZ h s.heap e cls I)
  (k:∀g t,B.StaysIn g->g.FunFrames B (env::outer)->OnT g B e cls (.ref t) .none->B.get? e=none->s.heap.UpToSlots g->Q () { s with heap:=g }):ax M A (ou env (.ref e)) Q E s:=by
 obtain ⟨t,c,w,y⟩:=j.there
 have new:B.get? e=none:=by
  cases q:B.get? e with
  | none=>rfl
  | some o =>
   have:=st e o q
   rw [j.new] at this
   cases this
 unfold ou lB
 simp only [z]
 refine aa (aa (bG (x:=.none) c rfl rfl ?_))
 rw [if_neg ⋯]
 refine XQ (a0:=.ref t) fr (G.of_keeps λb o a _=>⟨o,j.keeps b o a,rfl⟩) z c (λb o a=>j.keeps b o (st b o a)) new rfl (by simp) ⟨rfl,rfl⟩ rfl λg r p n m=>?_
 exact yV (s:={ s with heap:=g }) r p n λv l i f d=>k v t l i f new (m.trans λb o a u=>⟨o.slots,d b o a u⟩)
end
end L2
end
section
namespace L2
open PySem.W
structure Fly (g:Heap) (H:Hp) (h:Heap) (a:Addr) (cls fl:aj):Prop where
 na:g.get? a=none
 ha:H a=none
 ob:∃oe vs T oT ts a0,h.get? a=some oe/\(oe.cls=cls/\Two vs a0/\oe.dict=none)/\oe.data = .fields vs/\vs[1]? = some (.ref T)/\g.get? T=none/\H T=none/\T≠a/\h.get? T=some oT/\oT.data = .fields ts/\ts[3]? = some fl
theorem Fly.mono {g':Heap}(f:Fly g H h a cls fl) (l:∀b o,g'.get? b=some o->∃o',g.get? b=some o'):Fly g' H h a cls fl:=by
 have no:∀{b},g.get? b=none->g'.get? b=none:=λ{b} e=>by
  cases q:g'.get? b with
  | none=>rfl
  | some o =>
   obtain ⟨o',c⟩:=l b o q
   rw [e] at c
   cases c
 obtain ⟨oe,d,T,i,ts,a0,h1,h2,n,m,k,j⟩:=f.ob
 exact ⟨no f.na,f.ha,oe,d,T,i,ts,a0,h1,h2,n,m,no k,j⟩
noncomputable def CX1 (P:Program) (w:bo):CXT:=λouter H s E e s' =>
 ∃a cls H',e = .ref a/\s'.os=s.os/\iL s'.gens/\Un (frs outer) [] H H' s.heap s'.heap/\HOk P w H' s'.heap/\Fly s.heap H' s'.heap a cls .none/\E cls none H'
noncomputable def zu (X:Cx) (pins:List (Addr×Obj)) (σ:St) (H':Hp) (s1:Shared) (a:Addr) (cls fl:aj):Prop :=
 ∃s H,Inv X pins σ H s/\s1.os=s.os/\iL s1.gens/\Un (frs X.stack) [] H H' s.heap s1.heap/\HOk X.prog X.w H' s1.heap/\Fly s.heap H' s1.heap a cls fl
theorem gg (x:qu P w H h a o):∃ob,h.get? a=some ob:=by
 cases o with
 | lst xs=>obtain ⟨_,_,_,_,e⟩:=x;exact ⟨_,e⟩
 | tup xs=>obtain ⟨_,_,_,ob,e,_⟩:=x;exact ⟨_,e⟩
 | dK kvs=>obtain ⟨_,_,_,_,ob,_,_,e,_⟩:=x;exact ⟨_,e⟩
 | dT kvs=>obtain ⟨_,_,_,_,ob,_,_,e,_⟩:=x;exact ⟨_,e⟩
 | set S n=>obtain ⟨ob,_,_,_,e,_⟩:=x;exact ⟨_,e⟩
 | ins C dx fs=>obtain ⟨_,_,_,e,_⟩:=x;exact ⟨_,e⟩
 | own y=>exact x
 | xd fs=>obtain ⟨_,⟨_,_,_,e,_⟩,_⟩:=x;exact ⟨_,e⟩
 | rng lo hi=>obtain ⟨_,_,_,e⟩:=x;exact ⟨_,e⟩
 | frz ob u=>obtain ⟨e,_⟩:=x;exact ⟨_,e⟩
 | tbl ps=>exact ⟨_,(show h.get? a=some _ from x)⟩
 | met f y=>exact ⟨_,(show h.get? a=some _ from x)⟩
 | ext φ=>obtain ⟨_,e,_⟩:=x;exact e
section
variable {X:Cx}{pins:List (Addr×Obj)}{σ:St}{H H':Hp}{s s1:Shared}{a:Addr}{cls fl:aj}
theorem zu.inv (f:zu X pins σ H' s1 a cls fl):Inv X pins σ H' s1:=by
 obtain ⟨s,H,I,os,b,u,ok,c⟩:=f
 exact I.call' os u ok b (λb z=>absurd z (by simp))
theorem zu.fly (j:X.ex=[]) (f:zu X pins σ H' s1 a cls fl):Fly X.s₀.heap H' s1.heap a cls fl:=by
 obtain ⟨s,H,I,os,b,u,ok,d⟩:=f
 exact d.mono λc o e=>I.base.there c o e (by rw [j];exact λz=>by cases z)
theorem zu.under (f:zu X pins σ H' s1 a cls .none):∃B a0,(B.StaysIn s1.heap/\B.get? a=none/\s1.heap.FunFrames B X.stack/\OnT s1.heap B a cls a0 .none) /\
  ∀h2 fl2,B.StaysIn h2->s1.heap.UpToSlots h2->OnT h2 B a cls a0 fl2->zu X pins σ H' { s1 with heap:=h2 } a cls fl2:=by
 have Z:=f.inv
 obtain ⟨s,H,I,os,b,u,ok,t⟩:=f
 obtain ⟨oe,vs,T,oT,ts,a0,h1,h2,S,h4,R,Q,h7,P,O,U⟩:=t.ob
 have fr:=Z.stack
 have fs:∀b∈frs X.stack,b≠a/\b≠T:=λb hb=>by
  obtain ⟨_,o,i,x⟩:=fr.mem hb
  refine ⟨λz=>?_,λz=>?_⟩
  ·rw [z,h1] at i;cases i;exact x _ S
  ·rw [z,P] at i;cases i;exact x _ O
 have L:∀env∈X.stack,∀c,env.frame=some c->c∈a::T::frs X.stack:=λenv he c l=>aH _ (aH _ (List.mem_filterMap.mpr ⟨env,he,l⟩))
 have j:∀{c o},s1.heap.get? c=some o->c≠a->c≠T->c∉frs X.stack->(hideAll s1.heap (a::T::frs X.stack)).get? c=some o:=λe n1 n2 n3 =>
  hideAll_get _ e (by simp only [ff,not_or];exact ⟨n1,n2,n3⟩)
 refine ⟨hideAll s1.heap (a::T::frs X.stack),a0,⟨λb o q=>of_hideAll _ q,hideAll_none _ (.head _),tF fr L,oe,vs,T,oT,ts,h1,h2,S,h4,hideAll_none _ (.tail _ (.head _)),h7,P,O,U⟩,λhp fl2 st A tr=>?_⟩
 have lo:∀{c o},s.heap.get? c=some o->c≠a/\c≠T:=λ{c o} e=>⟨λz=>(by rw [z,t.na] at e;cases e),λz=>(by rw [z,R] at e;cases e)⟩
 have k:∀{c o},s1.heap.get? c=some o->c∈frs X.stack->∀vs,o.data≠.fields vs:=λe l=>by
  obtain ⟨_,o',i,x⟩:=fr.mem l
  rw [e] at i;cases i;exact x
 refine ⟨s,H,I,os,b,⟨λc o e n K h=>?_,λc o e n g h=>?_,λc o e n h=>u.free c o e n h,λc o e h=>?_,u.tups,u.frzs,u.tbls⟩,λc o l=>?_,?_⟩
 ·exact st _ _ (j (u.keep c o e n K h) (lo e).1 (lo e).2 K)
 ·obtain ⟨sl,m⟩:=u.slot c o e n g h
  obtain ⟨p,v⟩:=A c _ m (k m g)
  exact ⟨p,v⟩
 ·obtain ⟨o1,m⟩:=u.there c o e h
  by_cases g:c∈frs X.stack
  ·obtain ⟨p,v⟩:=A c _ m (k m g)
   exact ⟨_,v⟩
  ·exact ⟨o1,st _ _ (j m (lo e).1 (lo e).2 g)⟩
 ·refine (ok c o l).stay (λc' o' M e=>?_) (λ_ e=>e) λ_ _ e=>e
  have r:H' c'≠none:=by
   rcases M with z | z
   ·rw [z,l];exact λy=>by cases y
   ·rw [z];exact λy=>by cases y
  exact st _ _ (j e (λz=>r (by rw [z];exact t.ha)) (λz=>r (by rw [z];exact Q)) λz=>r (Z.stkFree _ z))
 ·obtain ⟨G,D,d,J,E,g1,g2,g3,g4,g5,Y,C,V,g9⟩:=tr
  have key:d=T\/s1.heap.get? d=none:=by
   cases q:s1.heap.get? d with
   | none=>exact .inr rfl
   | some o =>
    refine .inl ?_
    by_cases N:d=T
    ·exact N
    ·by_cases g:d∈frs X.stack
     ·obtain ⟨p,v⟩:=A d _ q (k q g)
      rw [v] at C
      cases C
      exact absurd V (k q g _)
     ·have:=j q Y N g
      rw [g5] at this
      cases this
  refine ⟨t.na,t.ha,G,D,d,J,E,a0,g1,g2,g3,g4,?_,?_,Y,C,V,g9⟩
  ·rcases key with z | z
   ·rw [z];exact R
   ·cases q:s.heap.get? d with
    | none=>rfl
    | some o =>
     obtain ⟨o',w⟩:=u.there d o q (by simp)
     rw [z] at w
     cases w
  ·rcases key with z | z
   ·rw [z];exact Q
   ·cases q:H' d with
    | none=>rfl
    | some o =>
     obtain ⟨o',w⟩:=gg (ok d o q)
     rw [z] at w
     cases w
theorem zu.leave {Q:Unit->Shared->Prop}(f:zu X pins σ H' s1 a cls .none) (st:X.stack=X.env::X.outer) (j:X.env.frame=some X.env.locals)
  (k:∀h2,zu X pins σ H' { s1 with heap:=h2 } a cls .none->Q () { s1 with heap:=h2 }):ax ↥3 X.A (ou X.env (.ref a)) Q E s1:=by
 obtain ⟨B,a0,b,c⟩:=f.under
 have fr:X.A.frames=some (X.env::X.outer):=by rw [<- st];exact f.inv.ok.frames
 rw [st] at b
 obtain ⟨m,l,i,h⟩:=b
 exact U3 fr i j h m l λh2 g n e d=>k h2 (c h2 .none g d e)
theorem XS {Q:Unit->Shared->Prop}(I:Inv X pins σ H s) (G:nZ s.heap h1 a cls vs) (st:X.stack=X.env::X.outer) (U:X.env.frame=some X.env.locals)
  (k:∀h2,zu X pins σ H { s with heap:=h2 } a cls .none->Q () { s with heap:=h2 }):ax ↥3 X.A (ou X.env (.ref a)) Q E { s with heap:=h1 }:=by
 have fr:X.A.frames=some (X.env::X.outer):=by rw [<- st];exact I.ok.frames
 have j:=I.stack
 have x:∀env∈X.stack,∀c,env.frame=some c->c∈frs X.stack:=λenv S c d=>List.mem_filterMap.mpr ⟨env,S,d⟩
 have i:=tF j x
 have m:∀{c o},s.heap.get? c=some o->c∈frs X.stack->∀vs,o.data≠.fields vs:=λe d=>by
  obtain ⟨_,o',C,l⟩:=j.mem d
  rw [e] at C;cases C;exact l
 rw [st] at i
 refine Zn (s:={ s with heap:=h1 }) (B:=hideAll s.heap (frs (X.env::X.outer))) (h:=s.heap) fr U (λb o q=>of_hideAll _ q) i G λh2 t N b2 L b3 O=>?_
 rw [<- st] at L N
 obtain ⟨oe,ws,T,P,ts,g1,g2,g3,Z,K,Y,u,J,V⟩:=L
 have g:∀{c o},s.heap.get? c=some o->c∉frs X.stack->h2.get? c=some o:=λe n=>N _ _ (hideAll_get _ e n)
 have f:∀{c o},s.heap.get? c=some o->c∈frs X.stack->∃p,h2.get? c=some { o with slots:=p }:=λ{c o} e d=>O c o (G.keeps _ _ e) (m e d)
 have v:s.heap.get? T=none:=by
  cases q:s.heap.get? T with
  | none=>rfl
  | some o =>
   exfalso
   by_cases d:T∈frs X.stack
   ·obtain ⟨p,e⟩:=f q d
    rw [e] at u
    cases u
    exact m q d _ J
   ·rw [hideAll_get _ q d] at K
    cases K
 have l:∀{c},s.heap.get? c=none->H c=none:=λ{c} e=>by
  cases q:H c with
  | none=>rfl
  | some o =>
   obtain ⟨o',M⟩:=gg (I.hok c o q)
   rw [e] at M
   cases M
 refine k h2 ⟨s,H,I,rfl,I.bare,⟨λc o e n R r=>g e R,λc o e n U r=>f e U,λc o e n r=>n,λc o e r=>?_,λ_ _ e=>e,λ_ _ _ e=>e,λc ps e=>⟨#[],by rw [e];simp⟩⟩,λc o d=>?_,G.new,l G.new,oe,ws,T,P,ts,.ref t,g1,g2,g3,Z,v,l v,Y,u,J,V⟩
 ·by_cases d:c∈frs X.stack
  ·obtain ⟨p,e2⟩:=f e d
   exact ⟨_,e2⟩
  ·exact ⟨o,g e d⟩
 ·refine (I.hok c o d).stay (λc' o' D e=>?_) (λ_ e=>e) λ_ _ e=>e
  refine g e λz=>?_
  have:=I.stkFree _ z
  rcases D with y | y
  ·rw [y,d] at this;cases this
  ·rw [y] at this;cases this
end
noncomputable def Acc (X:Cx) (J:aj->St->Hp->Prop):Prop:=∀(pins:List (Addr×Obj)) (σ:St) (H':Hp) (s1:Shared) (a:Addr) (cls:aj),zu X pins σ H' s1 a cls .none->J cls σ H'->X.xe (.ref a) s1
noncomputable def WY (sp:Sp) (J:aj->St->Hp->Prop) (t:TA):TE:=λσ H Q=>t σ H λa H1=>sp a H1 Q λcls _ H'=>J cls σ H'
structure CalX (P:Program) (w:bo) (K:ag) (mg:Str->Option aj) (base:Heap) (k:Nat) (x:Str) (ps:List Str) (sp:Sp):Prop where
 ex:∃f fd,FnOk P w K mg base (CX1 P w) k f fd ps sp/\yB K fd ps []/\mg x=some (.ref f)/\bR K (.ref f)=true
theorem xc {X:Cx}{k:Nat}{e:Expr}{es:List Expr}{t:TA}{pos:Pos}(c:CalX X.prog X.w X.K X.mg X.base k x ps sp) (U:Room k X.A) (ac:Acc X J) (Y:Gl X x) (ha:PA X (e::es) t)
  (G: ↥22=false:=by decide) (he:aR (e::es) X.env=↥40::aR es X.env:=by rfl) (z: (↥66).any (·.1)=false:=by rfl) :
  PE X ↥65 (WY sp J t):=by
 obtain ⟨f,fd,F,y,n,v⟩:=c.ex
 intro pins s σ H Q I h
 refine cW (yM I Y n ?_ G)
 refine dr (h₀:=X.base) I.ok.mod.kin v (thn ↥98 λi s1 ⟨m,H1,g,r,q⟩=>⟨g.kIn,?_⟩) he z
 have o:i.length=ps.length:=by rw [<- r.length];exact F.len _ _ _ _ q
 have l:=y s1 i g.kIn (by rw [aF];exact o)
 rw [aF] at l
 refine fV (dh (F.run X.A X.stack s1 H1 ⟨i,[]⟩ i m Q _ U g.env0 l r q) λr s' d=>?_)
 cases r with
 | error e =>
  obtain ⟨a,cls,H',rfl,os,b,u,ok,B,j⟩:=d
  exact ac pins σ H' s' a cls ⟨s1,H1,g,os,b,u,ok,B⟩ j
 | ok fl =>
  cases fl with
  | ret u=>exact g.after d
  | next=>exact bw d
  | brk=>exact bw d
  | cont=>exact bw d
theorem CalX.cal {w:bo}{K:ag}{mg:Str->Option aj}{base:Heap}{k:Nat}{x:Str}{sp:Sp}(c:CalX P w K mg base k x ps sp):Cal P w K mg base k x ps (λvs H Q _=>sp vs H Q E0):=by
 obtain ⟨f,fd,F,b,n,o⟩:=c.ex
 refine ⟨f,fd,⟨λvs H Q E h=>F.len vs H Q E0 h,λA outer s H d g vs Q E m p b i l=>dh (F.run A outer s H d g vs Q E0 m p b i l) λr s' q=>?_⟩,b,n,o⟩
 cases r with
 | error e =>
  obtain ⟨a,cls,H',_,_,_,_,_,_,j⟩:=q
  exact bw j
 | ok fl =>
  cases fl with
  | ret u=>exact q
  | next=>exact q
  | brk=>exact q
  | cont=>exact q
theorem qP {K:ag}{E:XK} :
  Acc (vN (CX1 P w) P w K mg base N z scope f G A outer s H E) λcls _ H'=>E cls none H':=by
 intro pins σ H' s1 a cls fl j
 refine zu.leave (X:=vN (CX1 P w) P w K mg base N z scope f G A outer s H E) fl rfl rfl λh2 b=>?_
 exact ⟨a,cls,H',rfl,b.inv.os,b.inv.bare,b.inv.base,b.inv.hok,b.fly rfl,j⟩
noncomputable def GW (X:Cx) (J:aj->St->Hp->Prop):Prop:=∀(pins:List (Addr×Obj)) (σ:St) (H:Hp) (s:Shared) (h1:Heap) (a:Addr) (cls:aj) (b:List aj),Inv X pins σ H s->nZ s.heap h1 a cls b->J cls σ H->X.xe (.ref a) { s with heap:=h1 }
theorem zK {K:ag}{E:XK} :
  GW (vN (CX1 P w) P w K mg base N z scope f G A outer s H E) λcls _ H'=>E cls none H':=by
 intro pins σ H' s1 h1 a cls d I c j
 refine XS (X:=vN (CX1 P w) P w K mg base N z scope f G A outer s H E) I c rfl rfl λh2 b=>?_
 exact ⟨a,cls,H',rfl,b.inv.os,b.inv.bare,b.inv.base,b.inv.hok,b.fly rfl,j⟩
theorem WV {K:ag}{j:String}(X:K.In h) (q:excIn K C z j=true) :
  ∃bm N nm q bs hdct sn sub ab col dd k0 k1 k2 k3 k5 mN,h.get? C=some (excClassObj nm q C N bs bm hdct sn sub ab col dd k0 k1 k2 k3 k5 j)/\h.Ns N mN/\mN "__init__" = none/\OwnTail h z bm:=by
 unfold excIn at q
 split at q
 ·rename_i dd p b i
  split at q
  ·rename_i t bm k0 k1 k2 k3 n k5 c es
   simp only [bp,beq_iff_eq,Bool.not_eq_true'] at q
   obtain ⟨⟨⟨⟨⟨rfl,rfl⟩,e⟩,o⟩,a⟩,d⟩:=q
   obtain ⟨nm,bs,r,g,f,k,sn,sub,ab,col,s⟩:=p
   dsimp only at c e a d
   subst c e
   have m:b = #[k0,k1,k2,k3,some (.builtin n),k5]:=by obtain ⟨l⟩:=b;simp only at es;rw [es]
   subst m
   exact ⟨bm,g,nm,f,bs,k,sn,sub,ab,col,dd,k0,k1,k2,k3,k5,_,X _ _ i,.of_isNs (isNs_of_in X a),nsMap_none_of_in X a d,tail_of_in X o⟩
  ·cases q
 ·cases q
theorem xQ {X:Cx}{pos:Pos}{e:Expr}{es:List Expr}{t:TA}{C:Addr}{B z G:String}{J:aj->St->Hp->Prop}(FB:ExcBaseFacts B z G ae) (O:excIn X.K C ae z=true) (hm:X.mg x=some (.ref C)) (hc:X.calm=true) (am:GW X J)
  (hg:Gl X x) (ha:PA X (e::es) t) (ac: ↥22=false:=by decide) (U:aR (e::es) X.env=↥40::aR es X.env:=by rfl) (Y:(cM cpos (aR es X.env)).any (·.1)=false:=by rfl) :
  PS X (.Raise (some (.Call (.Name x np) (e::es) [] cpos)) none pos) (λD σ H=>t σ H λvs H1=>vs.length<=sizeLine/\J (.ref C) σ H1):=by
 intro pins s σ H D I h
 obtain ⟨bm,N,nm,q,bs,hdct,sn,sub,ab,col,dd,k0,k1,k2,k3,k5,mN,k,i,c,T⟩:=WV I.ok.mod.kin O
 have h':=ha cpos pins s σ H _ I h
 rw [U] at h'
 refine wpAny_Raise_call_subT (C:=C) (nm:=nm) (q:=q) (N:=N) (bs:=bs) (bm:=bm) (hdct:=hdct) (sn:=sn) (sub:=sub) (ab:=ab) (col:=col) (dd:=dd) (k0:=k0) (k1:=k1) (k2:=k2) (k3:=k3) (k5:=k5)
  FB (mN:=mN) (T.hasType FB.hasBase) (I.ok.hd hc) (by rw [U];show (false || (cM cpos (aR es X.env)).any (·.1))=false;rw [Y];rfl) c (yM I hg hm ⟨rfl,?_⟩ ac)
 rw [U]
 refine iQ (thn h' λl d ⟨vs,H2,b,r,g,j⟩=>⟨rfl,by rw [<- r.length];exact g,b.bk _ _ k,i.keeps b.bk,T.keeps b.bk,λh1 a f=>am pins σ H2 d h1 a (.ref C) _ b f j⟩)
theorem Fun.okX {w:bo}{K:ag}{mg:Str->Option aj}{base:Heap}{x:Str}{st:Stmt}{N:List Str}{k:Nat}{sp:Sp}(F:Fun K x z st f fd) (S:FnScope N ps (j8 st)) (len:∀vs H Q E,sp vs H Q E->vs.length=ps.length)
  (G:∀(j:aj) (A:bx) (outer:List Env) (s:Shared) (H:Hp) (vs:List V) (Q:VK) (E:XK),Room k (A.deeper (iU z (j8 st) s.heap.objs.size f j))->sp vs H Q E ->
   ∃t,PSs (vN (CX1 P w) P w K mg base N z (j8 st) f j A outer s H E) (jT st) t/\t { nx:=λ_ H'=>Q .non H',rt:=Q } (start N vs) H):FnOk P w K mg base (CX1 P w) (k+1) f fd ps sp:=by
 obtain ⟨h,g,kV,doc,pm,l,j,i,e,rfl,c,b⟩:=F.ex
 exact Vl c b S len λA outer s H vs Q E d a=>G j A outer s H vs Q E d a
theorem CalX.mk' {w:bo}{K:ag}{mg:Str->Option aj}{base:Heap}{k:Nat}{x:Str}{ps:List Str}{st:Stmt}{f:Addr}{oc:aj}{od I:Option Addr}{U:Array (Option aj)}{kV doc pm j z:aj}
  (X:K.In h) (G:h.Ns mainGlobals mg) (a:aW K mainGlobals x=some (some (.ref f)))
  (l:K.lookup f=some ⟨oc,od,.func ↥39,U⟩) (c:cC K j x=true) (Y:bR K (.ref f)=true)
  (hb:∀(kV doc pm:aj) (I:Option Addr) (j z:aj) (us:List aj),us.length=ps.length->cG ↥39 ⟨us,[]⟩=pure (ps.zip us))
  (ok:∀{f:Addr} {fd:FuncData},Fun K x x st f fd->FnOk P w K mg base (CX1 P w) k f fd ps sp):CalX P w K mg base k x ps sp:=by
 have F:=vz (st:=st) l c Y
 exact ⟨f,_,ok F,F.binds hb,bh X G a,Y⟩
end L2
end
section
namespace L2
open PySem.W
noncomputable abbrev Cx.atP (X:Cx) (pn:List (Addr×Obj)):Cx:={ X with pn:=pn }
noncomputable abbrev Cx.tryX (X:Cx) (pn:List (Addr×Obj)) (J:aj->St->Hp->Prop):Cx:={ X with pn:=pn,xe:=λe s1=>∃a cls b H',e = .ref a/\zu (X.atP pn) [] b H' s1 a cls .none/\J cls b H' }
noncomputable abbrev Cx.hand (X:Cx) (a:Addr):Cx:={ X with A:=X.A.mark (some (.ref a)),calm:=false,xe:=λ_ _=>False }
section
variable {X:Cx}{pins pn:List (Addr×Obj)}{σ:St}{H:Hp}{s:Shared}{J:aj->St->Hp->Prop}
theorem okP (ok:X.Ok) (Y:Cx) (h:Y={ X with pn:=Y.pn,xe:=Y.xe }):Y.Ok:=by
 rw [h]
 exact ⟨ok.mod,ok.kind,ok.glob,ok.blt,ok.above,ok.inj,ok.has,ok.cab,ok.hd,ok.frames,ok.stk,ok.exf,ok.bs,ok.bsz,ok.noex,ok.exfs,ok.funs,ok.frf⟩
theorem Inv.toTry (I:Inv X pins σ H s):Inv (X.tryX (X.pn++pins) J) [] σ H s :=
 ⟨okP I.ok _ rfl,I.os,I.bare,I.base,I.loc,I.cell,I.free,I.freeC,λp a=>I.pin p (by rw [aF] at a;exact a),I.hok,I.len⟩
theorem Inv.ofTry (I:Inv (X.tryX pn J) pins σ H s):Inv (X.atP pn) [] σ H s :=
 ⟨okP I.ok _ rfl,I.os,I.bare,I.base,I.loc,I.cell,I.free,I.freeC,λp a=>I.pin p (cF _ (by rw [aF] at a;exact a)),I.hok,I.len⟩
theorem Inv.ofP (I:Inv (X.atP (X.pn++pins)) [] σ H s):Inv X pins σ H s :=
 ⟨okP I.ok _ rfl,I.os,I.bare,I.base,I.loc,I.cell,I.free,I.freeC,λp a=>I.pin p (by rw [aF];exact a),I.hok,I.len⟩
theorem Inv.ofTryP (I:Inv (X.tryX (X.pn++pins) J) [] σ H s):Inv X pins σ H s:=Inv.ofP (Inv.ofTry I)
theorem Inv.toHand (a:Addr) (I:Inv X pins σ H s):Inv (X.hand a) pins σ H s :=
 ⟨⟨I.ok.mod,I.ok.kind,I.ok.glob,I.ok.blt,I.ok.above,I.ok.inj,I.ok.has,I.ok.cab,(λz=>(by cases z)),I.ok.frames,I.ok.stk,I.ok.exf,I.ok.bs,I.ok.bsz,I.ok.noex,I.ok.exfs,I.ok.funs,I.ok.frf⟩,I.os,I.bare,I.base,I.loc,I.cell,I.free,I.freeC,I.pin,I.hok,I.len⟩
theorem EA {D:Ends}(g:∀{σ H},Inv Y j σ H s'->Inv X pins σ H s') (h:SP Y j D f s'):SP X pins D f s':=by
 cases f with
 | next=>obtain ⟨a,H',I,q⟩:=h;exact ⟨a,H',g I,q⟩
 | brk=>obtain ⟨a,H',I,q⟩:=h;exact ⟨a,H',g I,q⟩
 | cont=>obtain ⟨a,H',I,q⟩:=h;exact ⟨a,H',g I,q⟩
 | ret u=>obtain ⟨v,a,H',I,r,q⟩:=h;exact ⟨v,a,H',g I,r,q⟩
theorem Qx:Acc (X.tryX pn J) J:=by
 intro pins σ H' s1 a cls f j
 obtain ⟨s,H,I,os,b,u,ok,c⟩:=f
 exact ⟨a,cls,σ,H',rfl,⟨s,H,Inv.ofTry I,os,b,u,ok,c⟩,j⟩
end
end L2
end
section
namespace L2
open PySem.W
section
variable {s:Shared}{A:bx}{prog:Program}{w:bo}{E:aj->Shared->Prop}
end
section
variable {X:Cx}
end
end L2
end
section
namespace L2
open PySem.W
end L2
end
section
namespace L2
open PySem.W
section
variable {X:Cx}{o e:Expr}{es:List Expr}{to:TE}{t:TA}{name:Str}{apos cpos:Pos}{id:String}{r:V->List V->Hp->VK->Prop}
end
end L2
end
section
namespace L2
open PySem.W
noncomputable abbrev wV (ifs:List Expr) (env:Env):Sem Bool:=A9 ifs true λc r=>if r=true then do let ok <- isTrue c env (eval c env);pure (c5 ok) else pure (c5 r)
noncomputable abbrev xX (elt tg iter tg2 iter2:Expr) (ifs ifs2:List Expr) (scope:Scope) (pos:Pos):Expr:=.ListComp elt [⟨tg,iter,ifs,0⟩,⟨tg2,iter2,ifs2,0⟩] scope pos
theorem YX (elt tg iter tg2 iter2:Expr) (ifs ifs2:List Expr) (scope:Scope) (pos:Pos) (it acc:aj) (env:Env) :
  pU ↥7 0 it acc env=(fG iter.pos >>= λ_=>dY it >>= λr=>match r with
   | none=>pure (.done .next)
   | some v=>cT tg it v >>= λ_=>iI tg env v >>= λ_=>wV ifs env >>= λok =>
    (if ok=true then (eval iter2 env >>= λx=>fG iter2.pos >>= λ_=>cc iter2 env x >>= λx=>dN [x] (lX x) >>= λj=>runOwn (.compStart ↥7 1 j acc env) env >>= λ_=>again (.compLoop ↥7 0 it acc env))
     else again (.compLoop ↥7 0 it acc env))):=by
 rfl
theorem Vy (elt tg iter tg2 iter2:Expr) (ifs ifs2:List Expr) (scope:Scope) (pos:Pos) (it acc:aj) (env:Env) :
  pU ↥7 1 it acc env=(fG iter2.pos >>= λ_=>dY it >>= λr=>match r with
   | none=>pure (.done .next)
   | some v=>cT tg2 it v >>= λ_=>iI tg2 env v >>= λ_=>wV ifs2 env >>= λok =>
    (if ok=true then ((eval elt env >>= λx=>call (.builtin "list.append") [acc,x] >>= λ_=>pure ()) >>= λ_=>again (.compLoop ↥7 1 it acc env))
     else again (.compLoop ↥7 1 it acc env))):=by
 rfl
section
variable {s:Shared}{A:bx}{prog:Program}{w:bo}{R:nH->Shared->Prop}{elt tg iter tg2 iter2:Expr}{ifs ifs2:List Expr}{scope:Scope}{pos:Pos}{it acc:aj}{env:Env}
theorem Vh (I:Nat->Shared->Prop)
  (j:∀n s,I n s->ax (aD prog w) A (dY it) (λr G=>match r with
   | none=>R (.ok .next) G
   | some v=>ax (aD prog w) A (cT tg2 it v) (λ_ s₂=>ax (aD prog w) A (iI tg2 env v) (λ_ s₃=>ax (aD prog w) A (wV ifs2 env) (λok z =>
      if ok=true then ax (aD prog w) A (eval elt env) (λx Y=>ax (aD prog w) A (call (.builtin "list.append") [acc,x]) (λ_ U=>∃m,m<n/\I m U) (λ_ _=>False) Y) (λ_ _=>False) z
      else ∃m,m<n/\I m z) (λ_ _=>False) s₃) (λ_ _=>False) s₂) (λ_ _=>False) G) (λ_ _=>False) s)
  (n:Nat) (h:I n s):cO (aD prog w) A (.compLoop ↥7 1 it acc env) R s:=by
 refine pT rfl I (λn s g=>?_) n h
 show ax _ A ((pU ↥7 1 it acc env).onRaise (λx=>do lB x env;mS x)) _ _ s
 refine sF ?_;rw [Vy]
 refine aa (cY (aa (aZ (j n s g) (λr G b=>?_) λ_ _ h'=>h'.elim)))
 cases r with
 | none=>exact wpAny_pure b
 | some v =>
  refine aa (aZ b (λ_ s₂ f=>?_) λ_ _ h'=>h'.elim)
  refine aa (aZ f (λ_ s₃ e=>aa (aZ e (λok z a=>?_) λ_ _ h'=>h'.elim)) λ_ _ h'=>h'.elim)
  cases ok with
  | false=>exact wpAny_pure ⟨rfl,a⟩
  | true=>exact aa (aa (aZ a (λx Y d=>aa (aZ d (λ_ U c=>wpAny_pure (wpAny_pure ⟨rfl,c⟩)) λ_ _ h'=>h'.elim)) λ_ _ h'=>h'.elim))
theorem Yk {R:nH->Shared->Prop}(z:cO (aD prog w) A (.compLoop ↥7 1 it acc env) R s)
  (h:ax (aD prog w) A (lX it) (λj s'=>cO (aD prog w) A (.compLoop ↥7 1 j acc env) R s') (λ_ _=>False) s) :
  cO (aD prog w) A (.compStart ↥7 1 it acc env) R s:=by
 refine codeAny_of_tree ?_
 show ax _ _ ((compStart ↥7 1 it acc env).onRaise (λx=>do lB x env;fG theWindowsPlace)) _ _ s
 refine wpAny_notedAt ?_;unfold compStart;show ax _ _ (ask >>= _) _ _ s
 refine aa (wpAny_askSetting (wpAny_ite ?_))
 split
 ·first | exact aa (wpAny_pure (wpAny_pure (i5 rfl z))) | exact wpAny_pure (i5 rfl z)
 ·first
   | exact aa (eN (aa (cY (aa (aZ h (λj s' h'=>wpAny_pure (i5 rfl h')) λ_ _ x=>x.elim)))))
   | (refine aa (eN ?_);show ax _ _ (fG iter2.pos >>= _) _ _ s;exact aa (cY (aa (aZ h (λj s' h'=>wpAny_pure (i5 rfl h')) λ_ _ x=>x.elim))))
theorem Yv (I:Nat->Shared->Prop) (ab:∀x,cc iter2 env x=pure x)
  (j:∀n s,I n s->ax (aD prog w) A (dY it) (λr G=>match r with
   | none=>R (.ok .next) G
   | some v=>ax (aD prog w) A (cT tg it v) (λ_ s₂=>ax (aD prog w) A (iI tg env v) (λ_ s₃=>ax (aD prog w) A (wV ifs env) (λok z =>
      if ok=true then ax (aD prog w) A (eval iter2 env) (λx Y=>ax (aD prog w) A (lX x) (λi2 U=>cO (aD prog w) A (.compStart ↥7 1 i2 acc env) (λr s'=>match r with | .ok _=>∃m,m<n/\I m s' | .error _=>False) U) (λ_ _=>False) Y) (λ_ _=>False) z
      else ∃m,m<n/\I m z) (λ_ _=>False) s₃) (λ_ _=>False) s₂) (λ_ _=>False) G) (λ_ _=>False) s)
  (n:Nat) (h:I n s):cO (aD prog w) A (.compLoop ↥7 0 it acc env) R s:=by
 refine pT rfl I (λn s k=>?_) n h
 show ax _ A ((pU ↥7 0 it acc env).onRaise (λx=>do lB x env;mS x)) _ _ s
 refine sF ?_;rw [YX]
 refine aa (cY (aa (aZ (j n s k) (λr G b=>?_) λ_ _ h'=>h'.elim)))
 cases r with
 | none=>exact wpAny_pure b
 | some v =>
  refine aa (aZ b (λ_ s₂ i=>?_) λ_ _ h'=>h'.elim)
  refine aa (aZ i (λ_ s₃ g=>aa (aZ g (λok z a=>?_) λ_ _ h'=>h'.elim)) λ_ _ h'=>h'.elim)
  cases ok with
  | false=>exact wpAny_pure ⟨rfl,a⟩
  | true =>
   refine aa (aZ a (λx Y d=>aa (cY (aa (nU (ab x) (aa (bA (aZ d (λi2 U c=>aa (wpAny_runOwn ?_)) λ_ _ h'=>h'.elim))))))) λ_ _ h'=>h'.elim)
   rw [Around.mark_none]
   refine dh c λr s' q=>?_
   cases r with
   | ok f=>exact wpAny_pure ⟨rfl,q⟩
   | error e=>exact q.elim
end
noncomputable def gU (acc:Addr) (U:TG) (G:TT) (te:TE) (z:It) (Y:St->Hp->Prop) (I:St) (H5:Hp):Prop :=
 ∃g:Nat->Nat->St->Hp->Prop,(∃m,g 0 m I H5)/\∀j m f c,g j m f c->(z.stop j c/\Y f c)\/(z.go j c/\∃a:St->Hp->Prop,(∀h b,a h b->∃k,k<m/\g (j+1) k h b) /\
  ∀y b,z.yld j c y b->U y f b λd n=>G d n λi l=>if i=true then te d l λv e=>∃ys,e acc=some (.lst ys)/\ys.length<sizeLine/\a d (upd e acc ↥68) else a d l)
section
variable {X:Cx}{pos:Pos}
noncomputable def WQ (own:Nat) (caps:List Nat) (G:TI) (g:TG) (I:TT) (j:TI) (U:TG) (z:TT) (te:TE):TE:=λσ H Q=>G σ H λJ H1=>∀acc,H1 acc=none ->
 ∃W:Nat->Nat->St->Hp->Prop,(∃m,W 0 m (ve own caps σ) (upd H1 acc (.lst [])))/\∀i m d H',W i m d H' ->
  (J.stop i H'/\Q (.ref acc) H') \/
  (J.go i H'/\∃b:St->Hp->Prop,(∀c H2,b c H2->∃e,e<m/\W (i+1) e c H2) /\
   ∀x H2,J.yld i H' x H2->g x d H2 λa l=>I a l λok f=>if ok=true then j a f λh k=>gU acc U z te h b a k else b a f)
theorem V2 {scope:Scope}{own:Nat}{G:List (Str×Addr)}{tg elt iter tg2 iter2:Expr}{ifs ifs2:List Expr}{g2:TG}{ti a8:TT}{a6:TI}{te:TE}{H:Hp}{s:Shared}{U:List Addr}{it:Addr}
    {Q:VK} {RR:aj->Addr->nH->Shared->Prop} {E:aj->Shared->Prop}
  (hc:X.calm=true) (S:CompSc osc ON scope own N caps) (dk:X.env.scope=osc) (hN:X.N=ON) (dD:∀x,G.lookup x=if (x,bc)∈scope.names then X.env.cells.lookup x else none)
  (hg:∀G C s H ex,PG ↥34 tg g) (dt:∀G C s H ex,gL ↥34 ifs ti) (dv:∀G C s H ex,PI ↥34 tg2 iter2 a6) (dy:∀G C s H ex,PG ↥34 tg2 g2) (b4:∀G C s H ex,gL ↥34 ifs2 a8) (he:∀G C s H ex,PE ↥34 elt te) (dn:∀env x,cc iter2 env x=pure x)
  (I:Inv X pins σ H s) (T:Turn X.prog X.w X.K tg J U it tn) (st:tn 0 s.heap) (hf:∀b∈U,yy X pins H b)
  (hw:∀acc,H acc=none->∃W:Nat->Nat->St->Hp->Prop,↥132/\∀i m Y H',W i m Y H' ->
   (J.stop i H'/\Q (.ref acc) H')\/(J.go i H'/\∃NX:St->Hp->Prop,↥82 /\
    ∀x H2,J.yld i H' x H2->g x Y H2 λσ3 H3=>ti σ3 H3 λok H4=>if ok=true then a6 σ3 H4 λJ2 H5=>gU acc g2 a8 te J2 NX σ3 H5 else NX σ3 H4))
  (dV:∀(D C:Addr) (H':Hp) (s':Shared),Inv X pins σ H' s'->BlockAt X pins H' C->(∃m,s'.heap.Ns C m)->Q (.ref D) H'->RR (.ref D) C (.ok .next) s') :
  ax ↥3 X.A (pV []) (λacc s₃=>ax ↥3 X.A (nK scope X.env.globals G [] X.env.qual none .none (some X.env)) (λa1 s₄ =>
   cO ↥3 X.A (.compStart ↥7 0 (.ref it) acc { a1 with scope:=A2 scope X.env }) (RR acc a1.locals) s₄) E s₃) E s:=by
 have bn:∀b∈U,b<s.heap.objs.size:=λb a=>by
  obtain ⟨o,e,_⟩:=T.obj _ _ st b a
  exact av e
 refine bS (iR S.nocell (by intro y hy;simp at hy) (λh₁ R l=>?_) S.kind)
 dsimp only at R l ⊢
 generalize an:s.heap.push { cls:=.type "list",dict:=none,data:=.seq ([]:List aj).toArray }=H2 at R l ⊢
 have ap:H2.objs.size=s.heap.objs.size+1:=by rw [<- an,cB]
 have bm:∀b o,s.heap.get? b=some o->h₁.get? b=some o:=λb o e=>l.extBut b o (aB (by rw [ap];exact cf (av e))) (ai _ (an ▸ ai _ e))
 have eD:h₁.get? s.heap.objs.size=some { cls:=.type "list",data:=.seq #[] }:=l.extBut _ _ (aB ∅) (ai _ (an ▸ az _ rfl))
 have dx:H s.heap.objs.size=none:=I.hok.fresh (ar _)
 obtain ⟨W,⟨m0,w0⟩,b2⟩:=hw s.heap.objs.size dx
 have dp:h₁.Ns H2.objs.size λ_=>none:=R
 have I1:Inv ↥13 [] (ve own caps σ) ↥145 { s with heap:=h₁,toks:=s.toks+([]:List (Str×aj)).length } :=
  vn S dk hN dD I hf bn rfl ap bm eD dp _
 have bi:tn 0 h₁:=T.keep 0 _ _ st λb _ o e=>bm b o e
 have aL:∀{H':Hp},(∀b∈U,H' b=none)->∀b∈U,yy ↥13 [] H' b:=λ{H'} hn b a=>by
  have ok:=I1.ok
  exact ⟨hn b a,(ok.exf b a).1,ok.exfs b a,.inl a,(ok.exf b a).2,λp hp=>absurd (show p∈([]:List (Addr×Obj)) from hp) (by simp)⟩
 have cb:∀{Y:St} {H':Hp} {s':Shared},Inv ↥13 [] Y H' s'->Q ↥11 H'->RR ↥11 H2.objs.size (.ok .next) s':=λ{Y H' s'} J1 q=>by
  have J2:Inv X pins σ H' s':=I.call' (ch:=U) J1.os J1.base J1.hok J1.bare λb a=>⟨(hf b a).2.2.2.1,(hf b a).2.1,(hf b a).2.2.2.2.1,(hf b a).2.2.2.2.2⟩
  obtain ⟨m,hm,_⟩:=J1.loc
  refine dV _ _ H' s' J2 ⟨J1.free,cN (aQ I.lt ∅),aI I.sz ∅,λx c e z=>?_,λp hp z=>?_⟩ ⟨m,hm⟩ q
  ·obtain ⟨v,y⟩:=I.cell x c e
   have h1:H2.objs.size<s.heap.objs.size:=z ▸ y.lt
   exact absurd h1 ∅
  ·have h1:H2.objs.size<s.heap.objs.size:=z ▸ av (I.pin p hp).1
   exact absurd h1 ∅
 have am:∀s₃:Shared,s₃={ s with heap:=h₁,toks:=s.toks+([]:List (Str×aj)).length } ->
   cO ↥3 X.A (.compLoop ↥7 0 (.ref it) ↥11 (pS scope G H2.objs.size X.env)) (RR ↥11 H2.objs.size) s₃:=by
  rintro s₃ rfl
  refine Yv (λn s'=>∃i Y H',Inv ↥13 [] Y H' s'/\tn i s'.heap/\(∀b∈U,H' b=none)/\W i n Y H') (dn _) ?_ m0
   ⟨0,_,_,I1,bi,λb a=>by rw [j7 (aB (bn b a))];exact (hf b a).1,w0⟩
  rintro n s3 ⟨i,σ3,H3,I3,bd,bq,w3⟩
  rcases b2 i n σ3 H3 w3 with ⟨b3,qn⟩ | ⟨go,NX,ds,step⟩
  ·refine thn (T.done ↥13 rfl rfl rfl hc i [] s3 σ3 H3 _ I3 (aL bq) bd b3) λr s4 ⟨P,I4⟩=>?_
   subst P
   exact cb I4 qn
  ·refine thn (T.item ↥13 rfl rfl rfl hc i [] s3 σ3 H3 _ I3 (aL bq) bd go) λr s4 ⟨u,P,h4⟩=>?_
   subst P
   refine thn h4 λ_ s5 ⟨x,H5,I5,r5,y5,ae,dT⟩=>?_
   have d1:=I5.pinned (aL dT) (T.obj _ _ ae)
   refine thn (hg G H2.objs.size s H U _ s5 σ3 H5 x u _ d1 r5 (step x H5 y5)) λ_ s6 ⟨σ6,H6,I6,q6⟩=>?_
   refine thn (dt G H2.objs.size s H U _ s6 σ6 H6 _ I6 q6) λok s7 ⟨H7,I7,q7⟩=>?_
   have again:∀{s8:Shared} {σ8:St} {H8:Hp},Inv ↥13 ([]++zd U s5.heap) σ8 H8 s8->NX σ8 H8->∃m,m<n/\∃i Y H',Inv ↥13 [] Y H' s8/\tn i s8.heap/\(∀b∈U,H' b=none)/\W i m Y H':=λ{s8 σ8 H8} I8 n8=>by
    obtain ⟨m',hm,w8⟩:=ds σ8 H8 n8
    refine ⟨m',hm,i+1,σ8,H8,I8.unpinned,T.keep _ _ _ ae λb a o e=>(I8.pin (b,o) ↥101).1,λb a=>?_,w8⟩
    obtain ⟨o,e,d⟩:=T.obj _ _ ae b a
    exact (I8.pin (b,o) ↥101).2.1
   cases ok with
   | false =>
    rw [if_neg au] at q7 ⊢
    exact again I7 q7
   | true =>
    rw [if_pos rfl] at q7 ⊢
    refine thn (dv G H2.objs.size s H U _ s7 σ6 H7 _ I7 q7) λv s8 h8=>thn h8 λed s9 h9=>?_
    obtain ⟨dd,B,a7,J2,H9,e,I9,T2,a9,f9,W2,⟨m2,w2⟩,a2⟩:=h9
    subst e
    have k:∀{H':Hp},(∀b∈B,H' b=none)->∀b∈B,yy ↥13 ([]++zd U s5.heap) H' b:=λhn b a=>⟨hn b a,(f9 b a).2⟩
    have ac:cO ↥3 X.A (.compLoop ↥7 1 (.ref dd) ↥11 (pS scope G H2.objs.size X.env)) (λr s'=>match r with | .ok _=>∃m,m<n/\∃i Y H',Inv ↥13 [] Y H' s'/\tn i s'.heap/\(∀b∈U,H' b=none)/\W i m Y H' | .error _=>False) s9:=by
     refine Vh (λn2 s'=>∃j Y H',Inv ↥13 ([]++zd U s5.heap) Y H' s'/\a7 j s'.heap/\(∀b∈B,H' b=none)/\W2 j n2 Y H') ?_ m2 ⟨0,_,_,I9,a9,λb a=>(f9 b a).1,w2⟩
     rintro n2 bl ⟨j,Z,a0,bv,al,as,cn⟩
     rcases a2 j n2 Z a0 cn with ⟨a3,db⟩ | ⟨dK,bs,b5,a4⟩
     ·refine thn (T2.done ↥13 rfl rfl rfl hc j _ bl Z a0 _ bv (k as) al a3) λr cv ⟨P,d7⟩=>?_
      subst P
      exact again d7 db
     ·refine thn (T2.item ↥13 rfl rfl rfl hc j _ bl Z a0 _ bv (k as) al dK) λr cv ⟨u2,P,dF⟩=>?_
      subst P
      refine thn dF λ_ bk ⟨x2,b1,d4,cL,ci,O,b6⟩=>?_
      have cd:=d4.pinned (k b6) (T2.obj _ _ O)
      refine thn (dy G H2.objs.size s H U _ bk Z b1 x2 u2 _ cd cL (a4 x2 b1 ci)) λ_ ct ⟨V,eb,d3,c4⟩=>?_
      refine thn (b4 G H2.objs.size s H U _ ct V eb _ d3 c4) λda cs ⟨ea,bu,ab⟩=>?_
      have L:∀{h:Shared} {t:St} {f:Hp},Inv ↥13 (([]++zd U s5.heap)++zd B bk.heap) t f h->bs t f->∃m,m<n2/\∃j Y H',Inv ↥13 ([]++zd U s5.heap) Y H' h/\a7 j h.heap/\(∀b∈B,H' b=none)/\W2 j m Y H':=λ{h t f} M dc=>by
       obtain ⟨m',hm,cm⟩:=b5 t f dc
       refine ⟨m',hm,j+1,t,f,M.unpinned,T2.keep _ _ _ O λb a o e=>(M.pin (b,o) ↥101).1,λb a=>?_,cm⟩
       obtain ⟨o,e,d⟩:=T2.obj _ _ O b a
       exact (M.pin (b,o) ↥101).2.1
      cases da with
      | false =>
       rw [if_neg au] at ab ⊢
       exact L bu ab
      | true =>
       rw [if_pos rfl] at ab ⊢
       refine thn (he G H2.objs.size s H U _ cs V ea _ bu ab) λcr h ⟨a5,f,M,cy,ys,d0,ce,c2⟩=>?_
       refine thn (jY _ h V f ↥11 [a5] _ [cr] (λ_ b0=>bs V b0) M rfl (.cons cy .nil) ⟨_,ys,a5,rfl,rfl,d0,ce,c2⟩) λ_ ec ⟨_,b0,d2,_,c1⟩=>?_
       exact L d2 c1
    exact Yk ac (T2.self _ 0 _ _ _ a9 ac)
 exact ic (am _ rfl) (T.self _ 0 _ _ _ bi (am _ rfl))
theorem Vd {own:Nat}(S:CompSc osc ON scope own N caps)
  (hc:X.calm=true) (z:X.env.scope=osc) (hN:X.N=ON) (hi:PI X tg iter wi)
  (hg:∀j C s H ex,PG ↥14 tg g) (ac:∀j C s H ex,gL ↥14 ifs ti) (ae:∀j C s H ex,PI ↥14 tg2 iter2 U) (al:∀j C s H ex,PG ↥14 tg2 g2) (G:∀j C s H ex,gL ↥14 ifs2 Y) (he:∀j C s H ex,PE ↥14 elt te)
  (hs:∀x,cc iter X.env x=pure x:=by intro _;rfl) (ab:∀env x,cc iter2 env x=pure x:=by intro _ _;rfl):PE X (.ListComp elt [⟨tg,iter,ifs,0⟩,⟨tg2,iter2,ifs2,0⟩] scope pos) (WQ own caps wi g ti U g2 Y te):=by
 intro pins s σ H Q I h
 obtain ⟨j,a,d⟩:=yT (Qi S z I)
 rw [oK]
 refine dR (use:=none) rfl hs a S.kind S.loc ↥111
 obtain ⟨it,t,p,J,H2,e,n,T,b,k,f⟩:=h2
 subst e
 refine V2 (RR:=λacc C=>t7 ↥3 X.A X.xe none ↥61 acc C) hc S z hN d hg ac ae al G he ab n T b k f λD C H' s' l B ⟨m,i⟩ q=>?_
 exact ⟨m,i,λh' c=>⟨.ref D,H',B.gone l c,rfl,q⟩⟩
end
end L2
end
section
namespace L2
open PySem.W
structure CalM (P:Program) (w:bo) (K:ag) (mg:Str->Option aj) (base:Heap) (k:Nat) (C:Addr) (m:Str) (ps:List Str) (sp:Sp):Prop where
 ex:∃f fd,FnOk P w K mg base CX0 k f fd ps sp/\yB K fd ps []/\Meth K C m f
structure CalMX (P:Program) (w:bo) (K:ag) (mg:Str->Option aj) (base:Heap) (k:Nat) (C:Addr) (m:Str) (ps:List Str) (sp:Sp):Prop where
 ex:∃f fd,FnOk P w K mg base (CX1 P w) k f fd ps sp/\yB K fd ps []/\Meth K C m f
section
variable {X:Cx}{k:Nat}{f C:Addr}{fd:FuncData}{ps:List Str}{sp:Sp}{x m:Str}{p pos apos:Pos}{e o:Expr}{es:List Expr}{ta:TE}{t:TA}{J:aj->St->Hp->Prop}
theorem Et {pins:List (Addr×Obj)}{σ:St}{s:Shared}{Q:VK}{us:List aj}(F:FnOk X.prog X.w X.K X.mg X.base (CX1 X.prog X.w) k f fd ps sp) (z:Room k X.A) (G:yB X.K fd ps []) (U:Acc X J)
  (I:Inv X pins σ H s) (r:jH vs us) (h:sp vs H Q λcls _ H'=>J cls σ H'):ax ↥3 X.A (call (.ref f) us) ↥61 X.xe s:=by
 have g:us.length=ps.length:=by rw [<- r.length];exact F.len _ _ _ _ h
 have d:=G s us I.kIn (by rw [aF];exact g)
 rw [aF] at d
 refine fV (dh (F.run X.A X.stack s H ⟨us,[]⟩ us vs Q _ z I.env0 d r h) λr s' c=>?_)
 cases r with
 | error e =>
  obtain ⟨a,cls,H',rfl,os,b,u,ok,i,j⟩:=c
  exact U pins σ H' s' a cls ⟨s,H,I,os,b,u,ok,i⟩ j
 | ok fl =>
  cases fl with
  | ret u=>exact I.after c
  | next=>exact bw c
  | brk=>exact bw c
  | cont=>exact bw c
theorem pe_m (Y:PE X o ta) (c:Cls X.K C) (cm:CalM X.prog X.w X.K X.mg X.base k C m ps sp) (U:Room k X.A) (ha:PA X (e::es) t)
  (z:aR (e::es) X.env=↥40::aR es X.env:=by rfl) (G: (↥66).any (·.1)=false:=by rfl)
  (I:eval ↥56 X.env=(do let j <- eval o X.env;fG apos.atName;let (f,first) <- dN [j] (mi j m pl);pH pos f first (cM pos (aR (e::es) X.env)) (lF pos (fk [] X.env))):=by rfl) :
  PE X ↥56 (Wo C m sp [] E0 ta t):=by
 obtain ⟨f,fd,F,b,a⟩:=cm.ex
 exact UN Y c a F U b .nil Ws ha z G I
inductive tMethXI (C:Addr) (m:Str) (sp:Sp) (J:aj->St->Hp->Prop) (t:TA) (σ:St) (Q:VK) (x:V) (H1:Hp):Prop
 | mk (a:_) (dx:_) (fs:_) (_:x = .ref a) (_:H1 a=some ↥119) (_:fs.lookup m=none) (_:t σ H1 λvs H2=>sp (x::vs) H2 Q λcls _ H'=>J cls σ H')
noncomputable def WR (C:Addr) (m:Str) (sp:Sp) (J:aj->St->Hp->Prop) (ta:TE) (t:TA):TE:=λσ H Q=>ta σ H λx H1=>tMethXI C m sp J t σ Q x H1
theorem yr (he:PE X o ta) (c:Cls X.K C) (cm:CalMX X.prog X.w X.K X.mg X.base k C m ps sp) (Y:Room k X.A) (ac:Acc X J) (ha:PA X (e::es) t)
  (z:aR (e::es) X.env=↥40::aR es X.env:=by rfl) (G: (↥66).any (·.1)=false:=by rfl)
  (U:eval ↥56 X.env=(do let j <- eval o X.env;fG apos.atName;let (f,first) <- dN [j] (mi j m pl);pH pos f first (cM pos (aR (e::es) X.env)) (lF pos (fk [] X.env))):=by rfl) :
  PE X ↥56 (WR C m sp J ta t):=by
 obtain ⟨f,fd,F,p,b⟩:=cm.ex
 intro pins s σ H Q I h
 refine iD (pl:=pl) (thn (he pins s σ H _ I h) λu s1 ⟨x,H1,g,i,a,dx,fs,ex,v,l,q⟩=>?_) U
 subst ex
 obtain rfl:u=aU a:=i
 refine vV g v c b l ?_
 refine dr (first:=[.ref a]) (h₀:=X.base) I.ok.mod.kin b.kp (thn (ha pos pins s1 σ H1 _ g q) λus y ⟨vs,H2,d,r,n⟩=>⟨d.kIn,?_⟩) z G
 exact Et (us:=.ref a::us) (vs:=.ref a::vs) F Y p ac d (.cons rfl r) n
structure MakX (P:Program) (w:bo) (K:ag) (mg:Str->Option aj) (base:Heap) (k:Nat) (C:Addr) (x:Str) (ps:List Str) (sp:Sp):Prop where
 ex:∃f fd,FnOk P w K mg base (CX1 P w) k f fd ps sp/\yB K fd ps []/\Mk K C f/\mg x=some (.ref C)
noncomputable def G6 (C:Addr) (sp:Sp) (J:aj->St->Hp->Prop) (t:TA):TE:=λσ H Q=>t σ H λa H1=>∀x dx,H1 x=none->H1 dx=none->dx≠x ->
 sp (.ref x::a) (upd (upd H1 dx (.own x)) x (.ins C dx [])) (λv H2=>v = .non/\Q (.ref x) H2) λcls _ H'=>J cls σ H'
theorem Uu (c:MakX X.prog X.w X.K X.mg X.base k C x ps sp) (U:Room (k+1) X.A) (ac:Acc X J) (Y:Gl X x) (ha:PA X (e::es) t) (G: ↥22=false:=by decide) (he:aR (e::es) X.env=↥40::aR es X.env:=by rfl) (z: (↥66).any (·.1)=false:=by rfl) :
  PE X ↥65 (G6 C sp J t):=by
 obtain ⟨f,fd,F,N,M,E⟩:=c.ex
 intro pins y σ H0 Q m O
 refine cW (yM m Y E ?_ G)
 refine dr (h₀:=X.base) m.ok.mod.kin M.kp (thn (ha pos pins y σ H0 _ m O) λg s ⟨q,H,I,r,h⟩=>⟨I.kIn,?_⟩) he z
 have o:=h ↥16 s.heap.objs.size (I.hok.fresh (fZ _)) (I.hok.fresh (ar _)) (aB (iJ _))
 have i:=Inv.made (C:=C) I
 have n:jH (V.ref ↥16::q) (aU ↥16::g):=.cons rfl r
 have L:(aU ↥16::g).length=ps.length:=by rw [<- n.length];exact F.len _ _ _ _ o
 have l:=N { s with heap:=_ } (aU ↥16::g) i.kIn (by rw [aF];exact L)
 rw [aF] at l
 refine fV (VD (f:=f) I.kIn M.makes M.init (beq_iff_eq.mp M.fn) (dh (F.run _ X.stack _ _ ⟨aU ↥16::g,[]⟩ (aU ↥16::g) _ _ _ (U.make C g []) (i.env0.make C g []) l n o) λr s' d=>?_))
 cases r with
 | error e =>
  obtain ⟨a,cls,H',rfl,os,b,u,ok,P,j⟩:=d
  exact ac pins σ H' s' a cls ⟨_,_,i,os,b,u,ok,P⟩ j
 | ok fl =>
  cases fl with
  | ret u =>
   obtain ⟨v,H',S,B,R,D⟩:=i.after d
   subst R
   exact ⟨B,⟨V.ref ↥16,H',S,rfl,D⟩⟩
  | next=>exact bw d
  | brk=>exact bw d
  | cont=>exact bw d
theorem xE {f:Str}(K:ag) (j:PE X e ta) (z:dP e f X.env (eval e X.env)=eval e X.env:=by rfl) (G:X.K=K:=by rfl):PE X (.Attribute e f pos) (GU K ta f):=by subst G;exact Gz j z
theorem uB {f:Str}(K:ag) (z:PE X o ta) (j:PE X value tv) (hs:lA value (some (.Attribute o f pos')) pos.line X.env=pure false:=by rfl) (G:X.K=K:=by rfl):PS X (.Assign [.Attribute o f pos'] value pos) (EC K ta tv f):=by subst G;exact GA z j hs
end
theorem GE {K:ag}{xs:List V}{I:TG}{G:TT}{te:TE}{U:St->Hp->Prop}{σ:St}{H:Hp}(Pv:Nat->St->Hp->Prop) (h0:Pv 0 σ H) (hl:∀i σ H,i<=xs.length->Pv i σ H->SqT K H a xs)
  (hs:∀i x σ H,xs[i]? = some x->Pv i σ H->I x σ H λj H3=>G j H3 λok H4=>if ok=true then te j H4 λv Y=>∃ys,Y acc=some (.lst ys)/\ys.length<sizeLine/\Pv (i+1) j (upd Y acc ↥68) else Pv (i+1) j H4)
  (hd:∀σ H,Pv xs.length σ H->U σ H):gU acc I G te (Itt K a) U σ H:=by
 refine ⟨λi m σ H=>m=xs.length-i/\i<=xs.length/\Pv i σ H,⟨xs.length,by simp,aG _,h0⟩,λi m σ H z=>?_⟩
 obtain ⟨rfl,hi,p⟩:=z
 have q:=hl i σ H hi p
 by_cases b:i<xs.length
 ·refine .inr ⟨⟨xs,xs[i],q,by simp [b]⟩,Pv (i+1),λd H' c=>⟨xs.length-(i+1),∅,rfl,b,c⟩,λx H' y=>?_⟩
  obtain ⟨e,y⟩:=y
  subst e
  exact hs i x σ _ (y xs q) p
 ·obtain rfl:i=xs.length:=∅
  exact .inl ⟨⟨xs,q,ar _⟩,hd σ H p⟩
theorem Yq {K:ag}{acc:Addr}{xs:List V}{g g2:TG}{ti U:TT}{I:TI}{te:TE}{R:Hp->Prop}{σ:St}{H:Hp}(Pv:Nat->St->Hp->Prop) (h0:Pv 0 σ H) (hl:∀i σ H,i<=xs.length->Pv i σ H->SqT K H a xs)
  (hs:∀i x σ H,xs[i]? = some x->Pv i σ H->g x σ H λj H3=>ti j H3 λok G=>if ok=true then I j G λJ2 H5=>gU acc g2 U te J2 (Pv (i+1)) j H5 else Pv (i+1) j G)
  (hd:∀σ H,Pv xs.length σ H->R H) :
  ∃W:Nat->Nat->St->Hp->Prop,↥76/\∀i m Y H',W i m Y H' ->
   ((Itt K a).stop i H'/\R H')\/((Itt K a).go i H'/\∃NX:St->Hp->Prop,↥82 /\
    ∀x H2,(Itt K a).yld i H' x H2->g x Y H2 λj H3=>ti j H3 λok G=>if ok=true then I j G λJ2 H5=>gU acc g2 U te J2 NX j H5 else NX j G):=by
 refine ⟨λi m σ H=>m=xs.length-i/\i<=xs.length/\Pv i σ H,⟨xs.length,by simp,aG _,h0⟩,λi m σ H z=>?_⟩
 obtain ⟨rfl,hi,p⟩:=z
 have q:=hl i σ H hi p
 by_cases b:i<xs.length
 ·refine .inr ⟨⟨xs,xs[i],q,by simp [b]⟩,Pv (i+1),λY H' c=>⟨xs.length-(i+1),∅,rfl,b,c⟩,λx H' y=>?_⟩
  obtain ⟨e,y⟩:=y
  subst e
  exact hs i x σ _ (y xs q) p
 ·obtain rfl:i=xs.length:=∅
  exact .inl ⟨⟨xs,q,ar _⟩,hd σ H p⟩
theorem Qp :Acc X λ_ _ _=>False:=λ_ _ _ _ _ _ _ z=>z.elim
end L2
end
section
namespace L2
open PySem.W
inductive gN (K:ag) (n:Str) (s:Stmt):Prop
 | mk {f:Addr} {oc kV dc pm cd ct:aj} {od an:Option Addr} {sl:Array (Option aj)} (a:nsIn K mainGlobals n=some (some (.ref f))) (l:K.lookup f=some ⟨oc,od,.func (fnOf n n (qf s) (jT s) (j8 s) .none kV dc pm an cd ct),sl⟩) (c:codeIn K cd n=true) (k:keepIn K (.ref f)=true)
inductive gM (K:ag) (C:Addr) (m q:Str) (s:Stmt):Prop
 | mk {f:Addr} {oc kV dc pm cd ct:aj} {od an:Option Addr} {sl:Array (Option aj)} (a:findIn K (.ref C) m=some (some (.ref f))) (i:isFn K (.ref f)=true) (l:K.lookup f=some ⟨oc,od,.func (fnOf m q (qf s) (jT s) (j8 s) .none kV dc pm an cd ct),sl⟩) (c:codeIn K cd q=true) (k:keepIn K (.ref f)=true)
structure gE (K:ag) (n:Str) (C:Addr):Prop where
 e:nsIn K mainGlobals n=some (some (.ref C))
 x:excIn K C [.type "ValueError",.type "Exception",.type "BaseException",.type "object"] "ValueError.__new__" = true
 m:exmOne K (.ref C) (.ref C)=some true
noncomputable abbrev gB (x q:Str) (st:Stmt) (ps:List Str):Prop:=∀(kV doc pm:aj) (d:Option Addr) (b c:aj) (a:List aj),a.length=ps.length->cG (fnOf x q (qf st) (jT st) (j8 st) .none kV doc pm d b c) ⟨a,[]⟩=pure (ps.zip a)
inductive Zt (P:Program) (w:bo) (K:ag) (mg:Str->Option aj) (base:Heap):Prop
 | mk {h:Heap} (X:K.In h) (G:h.Ns mainGlobals mg)
section
variable {P:Program}{w:bo}{K:ag}{mg:Str->Option aj}{base:Heap}{k:Nat}{x q:Str}{ps:List Str}{sp:Sp}{st:Stmt}{C:Addr}
theorem gN.cal (a:gN K x st) (z:Zt P w K mg base) (j:gB x x st ps)
  (ok:∀{f:Addr} {fd:FuncData},Fun K x x st f fd->FnOk P w K mg base CX0 k f fd ps sp):Cal P w K mg base k x ps sp:=by
 obtain ⟨a,l,c,b⟩:=a
 obtain ⟨X,G⟩:=z
 exact Cal.mk' X G a l c b j ok
theorem gN.calX (a:gN K x st) (z:Zt P w K mg base) (j:gB x x st ps)
  (ok:∀{f:Addr} {fd:FuncData},Fun K x x st f fd->FnOk P w K mg base (CX1 P w) k f fd ps sp):CalX P w K mg base k x ps sp:=by
 obtain ⟨a,l,c,b⟩:=a
 obtain ⟨X,G⟩:=z
 exact CalX.mk' X G a l c b j ok
theorem gM.cal (a:gM K C x q st) (z:Zt P w K mg base) (j:gB x q st ps)
  (ok:∀{f:Addr} {fd:FuncData},Fun K x q st f fd->FnOk P w K mg base CX0 k f fd ps sp):CalM P w K mg base k C x ps sp:=by
 obtain ⟨a,i,l,c,b⟩:=a
 have F:=vz (st:=st) l c b
 exact ⟨_,_,ok F,F.binds j,⟨a,i,b⟩⟩
theorem gM.calX (a:gM K C x q st) (z:Zt P w K mg base) (j:gB x q st ps)
  (ok:∀{f:Addr} {fd:FuncData},Fun K x q st f fd->FnOk P w K mg base (CX1 P w) k f fd ps sp):CalMX P w K mg base k C x ps sp:=by
 obtain ⟨a,i,l,c,b⟩:=a
 have F:=vz (st:=st) l c b
 exact ⟨_,_,ok F,F.binds j,⟨a,i,b⟩⟩
theorem gM.mak (a:gM K C "__init__" q st) (z:Zt P w K mg base) (m:makesIn K C=true) (j:keepIn K (.ref C)=true) (n:nsIn K mainGlobals y=some (some (.ref C))) (I:gB "__init__" q st ps)
  (ok:∀{f:Addr} {fd:FuncData},Fun K "__init__" q st f fd->FnOk P w K mg base (CX1 P w) k f fd ps sp):MakX P w K mg base k C y ps sp:=by
 obtain ⟨a,i,l,c,b⟩:=a
 obtain ⟨X,G⟩:=z
 have F:=vz (st:=st) l c b
 exact ⟨_,_,ok F,F.binds I,⟨m,a,i,j⟩,mg_of X G n⟩
end
theorem bnd1 {ps:List Str}{us:List aj}(j:us.length=1) (h:∀a,cG fd ⟨[a],[]⟩=pure (ps.zip [a])):cG fd ⟨us,[]⟩=pure (ps.zip us):=match us,j with | [a],_=>h a
theorem bnd2 {ps:List Str}{us:List aj}(j:us.length=2) (h:∀a b,cG fd ⟨[a,b],[]⟩=pure (ps.zip [a,b])):cG fd ⟨us,[]⟩=pure (ps.zip us):=match us,j with | [a,b],_=>h a b
theorem bnd3 {ps:List Str}{us:List aj}(j:us.length=3) (h:∀a b c,cG fd ⟨[a,b,c],[]⟩=pure (ps.zip [a,b,c])):cG fd ⟨us,[]⟩=pure (ps.zip us):=match us,j with | [a,b,c],_=>h a b c
theorem bnd4 {ps:List Str}{us:List aj}(j:us.length=4) (h:∀a b c d,cG fd ⟨[a,b,c,d],[]⟩=pure (ps.zip [a,b,c,d])):cG fd ⟨us,[]⟩=pure (ps.zip us):=match us,j with | [a,b,c,d],_=>h a b c d
theorem bnd5 {ps:List Str}{us:List aj}(j:us.length=5) (h:∀a b c d e,cG fd ⟨[a,b,c,d,e],[]⟩=pure (ps.zip [a,b,c,d,e])):cG fd ⟨us,[]⟩=pure (ps.zip us):=match us,j with | [a,b,c,d,e],_=>h a b c d e
theorem bnd6 {ps:List Str}{us:List aj}(j:us.length=6) (h:∀a b c d e f,cG fd ⟨[a,b,c,d,e,f],[]⟩=pure (ps.zip [a,b,c,d,e,f])):cG fd ⟨us,[]⟩=pure (ps.zip us):=match us,j with | [a,b,c,d,e,f],_=>h a b c d e f
end L2
end
section
namespace L2
open PySem.W
theorem J6:entryFor table "proto.unchain" = some eM.«proto.unchain»:=entryFor_of_fast (by kernel_rfl)
noncomputable def Qv (A:bx) (h:Heap):Prop:=∃e oe ws,A.handled=some (.ref e)/\h.get? e=some oe/\oe.data = .fields ws/\ws[2]? = some .none
theorem Qv.keep {A:bx}{h':Heap}(x:Qv A h) (k:∀b o ws,h.get? b=some o->o.data = .fields ws->ws[2]? = some .none->∃o' j,h'.get? b=some o'/\o'.data = .fields j/\j[2]? = some .none):Qv A h':=by
 obtain ⟨e,oe,ws,a,b,c,d⟩:=x
 obtain ⟨o',j,i,g,f⟩:=k e oe ws b c d
 exact ⟨e,o',j,a,i,g,f⟩
section
variable {prog:Program}{w:bo}{A:bx}{E:aj->Shared->Prop}{s:Shared}
theorem XX {α:Type}{e:Addr}{oe:Obj}{vs:Array aj}{Q:α->Shared->Prop}(G:Qv A s.heap) (j:s.heap.get? e=some oe) (gd:oe.data = .fields vs) (z:2<vs.size) (new:∀x,A.handled=some (.ref x)->x≠e)
  (k:∀x,E (.ref e) { s with heap:=s.heap.update e (fg (·.setIfInBounds 2 x)) }):ax (aD prog w) A (raiseNew (.ref e):Sem α) Q E s:=by
 obtain ⟨x,ox,ws,a,b,c,d⟩:=G
 have ne:=new x a
 unfold raiseNew
 refine aa (tU ?_)
 rw [a]
 dsimp only
 rw [if_pos (by simpa using ne)]
 refine aa (bA (wpAny_runValue (dM J6 ?_)))
 show ax _ _ (mV (.ref x) 2 >>= _) _ _ s
 refine aa (bG b c d ?_)
 rw [if_pos (by rfl)]
 refine wpAny_pure ?_
 show ax _ _ (updateField e 2 (.ref x) >>= _) _ _ s
 unfold updateField
 refine aa (aa (wpAny_load j ?_))
 rw [gd]
 dsimp only
 rw [if_pos z]
 exact wpAny_update j (wpAny_throw (k _))
theorem JC {α:Type}{it:Addr}{j:Obj}{u0 U y:aj}{Q:Option aj->Shared->Prop}(G:Qv A s.heap) (I:s.heap.get? it=some j) (gd:j.data = .fields #[u0,U]) (k:∀g,iS it s.heap g->Q none { s with heap:=g }) :
  ax (aD prog w) A (setField (.ref it) 0 y >>= λ_=>Ai (.type "StopIteration") [] >>= λe=>(raiseNew e:Sem α)) (λ_ _=>False) (λe s1=>∃a,e = .ref a/\s1.TypeIs (.ref a) "StopIteration" /\ Q none s1) s:=by
 refine aa (fB I gd (by simp) (aa ?_))
 simp only [Ai,newTuple]
 refine aa (bS ?_ (by size_fits))
 refine aa (m:=lL _ _) (nU (a:=aX) (by first | rfl | (simp only [lL];rfl)) ?_)
 refine bS ?_ (by size_fits)
 generalize l:(s.heap.update it (fg (·.setIfInBounds 0 y))).push _=u
 have kp:∀{b o},b≠it->s.heap.get? b=some o->u.get? b=some o:=λ{b o} n q=>by
  rw [<- l]
  refine ai _ ?_
  rw [bY _ _ n.symm]
  exact q
 have c:∀{b o ws},s.heap.get? b=some o->o.data = .fields ws->ws[2]? = some .none->b≠it:=λ{b o ws} q d f z=>by
  rw [z,I] at q
  cases q
  rw [gd] at d
  cases d
  cases f
 refine XX (oe:=_) ?_ (az _ rfl) rfl (by first | (simp;done) | (simp;omega)) (λx h=>?_) λx=>?_
 ·exact G.keep λb o ws q d f=>⟨o,ws,ai _ (kp (c q d f) q),d,f⟩
 ·obtain ⟨e,oe,ws,p,i,r,t⟩:=G
  rw [p] at h
  cases h
  exact aB (av (kp (c i r t) i))
 ·refine ⟨_,rfl,⟨_,dC _ (az _ rfl) rfl,rfl⟩,k _ λb o n q=>?_⟩
  rw [bY _ _ (cN (av (kp n q)))]
  exact ai _ (kp n q)
theorem Za {i:Nat}{Q:Option aj->Shared->Prop}(U:Qv A s.heap) (j:s.heap.IsListIter it l i) (I:s.heap.IsList l items) (G:items[i]? = none)
  (k:∀g,iS it s.heap g->Q none { s with heap:=g }):ax (aD prog w) A (dY (.ref it)) Q E s:=by
 obtain ⟨n,c,o,d⟩:=id j
 obtain ⟨ol,h,_,nl,dl⟩:=I
 unfold dY
 refine aa (fc ?_)
 refine cj (name:=ak "__next__") j.typeIs pj ?_
 refine cI pj j.typeIs entry_listiter_next ?_ (args_listiter_next _)
 show ax _ A.in1 (mV (.ref it) 0 >>= _) _ _ s
 refine aa (bG c d (x:=.ref l) rfl ?_)
 show ax _ A.in1 (if (aU l == aX)=true then _ else _) _ _ s
 rw [if_neg (by exact au)]
 show ax _ A.in1 (mV (.ref it) 1 >>= _) _ _ s
 refine aa (bG c d (x:=.int i 0) rfl ?_)
 show ax _ A.in1 (rQ (.ref l) >>= _) _ _ s
 refine aa (cp h dl ?_)
 simp only [bE,G]
 refine aa (eN ?_)
 refine aZ (JC (A:=A.in1) (Q:=Q) U c d k) (λ_ _ z=>z.elim) λe s1 ⟨a,m,f,q⟩=>?_
 subst m
 exact aa (mr (T:="StopIteration") (b:=true) f nX (wpAny_pure q))
theorem Ys {i:Nat}{Q:Option aj->Shared->Prop}(U:Qv A s.heap) (j:IsTupIter s.heap it l i) (I:tW s.heap l items) (G:items[i]? = none)
  (k:∀g,iS it s.heap g->Q none { s with heap:=g }):ax (aD prog w) A (dY (.ref it)) Q E s:=by
 obtain ⟨n,c,o,d⟩:=id j
 obtain ⟨ol,h,_,nl,dl⟩:=I
 unfold dY
 refine aa (fc ?_)
 refine cj (name:=ak "__next__") j.typeIs oG ?_
 refine cI oG j.typeIs entry_tupleiter_next ?_ (args_tupleiter_next _)
 show ax _ A.in1 (mV (.ref it) 0 >>= _) _ _ s
 refine aa (bG c d (x:=.ref l) rfl ?_)
 show ax _ A.in1 (if (aU l == aX)=true then _ else _) _ _ s
 rw [if_neg (by exact au)]
 show ax _ A.in1 (mV (.ref it) 1 >>= _) _ _ s
 refine aa (bG c d (x:=.int i 0) rfl ?_)
 show ax _ A.in1 (rQ (.ref l) >>= _) _ _ s
 refine aa (cp h dl ?_)
 simp only [bE,G]
 refine aa (eN ?_)
 refine aZ (JC (A:=A.in1) (Q:=Q) U c d k) (λ_ _ z=>z.elim) λe s1 ⟨a,m,f,q⟩=>?_
 subst m
 exact aa (mr (T:="StopIteration") (b:=true) f nX (wpAny_pure q))
theorem YG {I}{pos:Pos}{t:Addr}(Y:Qv A s.heap) (z:tW s.heap t items) (U:(d9 j env).length=items.size) (G:(d9 j env).findIdx? (·.1)=none)
  (k:∀g,iS s.heap.objs.size s.heap g->ax (aD prog w) A (tO ((d9 j env).map (·.2)) items.toList) Q E { s with heap:=g }):ax (aD prog w) A (iI (.Tuple j I pos) env (.ref t)) Q E s:=by
 have lt:t≠s.heap.objs.size:=by
  obtain ⟨o,e,_⟩:=z
  exact aB (av e)
 rw [assign_Tuple]
 refine aa (cY ?_)
 unfold unpack
 rw [U,G]
 refine aa (bA ?_)
 unfold unpackItems
 refine aa ?_
 unfold notIterableAtAll
 refine aa (sM z.typeIs slot_tuple_iter.lookup ↥47)
 simp only [ck,if_false]
 refine aa (bA (iter_tuple z ?_))
 refine aa (bA (draw_tuple lt items.size 0 _ _ ⟨_,az _ rfl,rfl,rfl⟩ (z.push _) ∅ λh c a=>?_))
 rw [show List.take items.size (List.drop 0 items.toList)=items.toList by rw [o9];exact bT (by simp)]
 rw [if_neg (by simp)]
 have kp:∀{b o},b≠s.heap.objs.size->s.heap.get? b=some o->h.get? b=some o:=λ{b o} n q=>a.extBut b o n (ai _ q)
 refine aa (bA (Ys (Y.keep λb o ws q d l=>⟨o,ws,kp (aB (av q)) q,d,l⟩) c ((z.push _).extBut a.extBut lt) (by simp) λf i=>?_))
 simp only [Option.isSome_none,ck,if_false]
 exact wpAny_pure (k f λb o n q=>i b o n (kp n q))
end
structure Hu (X:Cx):Prop where
 ex:∃e oe ws,X.A.handled=some (.ref e)/\X.s₀.heap.get? e=some oe/\X.H₀ e=none/\e∉X.fs/\e∉X.ex/\oe.data = .fields ws/\ws[2]? = some .none
theorem Hu.now {X:Cx}{s:Shared}(h:Hu X) (I:Inv X pins σ H s):Qv X.A s.heap:=by
 obtain ⟨e,oe,ws,a,b,c,d,f,g,k⟩:=h.ex
 exact ⟨e,oe,ws,a,I.base.keep e oe b c d f,g,k⟩
theorem Hu.block {X:Cx}{s:Shared}{Y:List (Str×Addr)}{N:List Str}{G:List Addr}(h:Hu X) (I:Inv X pins σ H s) (U:∀b∈G,yy X pins H b):Hu (X.block scope Y C N s H G):=by
 obtain ⟨e,oe,ws,a,b,c,d,f,g,k⟩:=h.ex
 have now:=I.base.keep e oe b c d f
 refine ⟨e,oe,ws,a,now,I.base.free e oe b c f,λz=>?_,λz=>?_,g,k⟩
 ·rcases List.mem_cons.mp (I.stkSub e z) with y | y
  ·obtain ⟨m,⟨o,es,l,i,j,_⟩,_⟩:=I.loc
   rw [<- y,now] at i
   cases i
   rw [g] at j
   cases j
  ·exact d y
 ·rcases (U e z).2.2.2.1 with y | y
  ·exact f y
  ·exact absurd (av b) (Nat.not_lt.mpr y)
structure TurnH (P:Program) (w:bo) (K:ag) (tg:Expr) (J:It) (fp:List Addr) (it:Addr) (tn:Nat->Heap->Prop):Prop where
 mem:it∈fp
 obj:∀i h,tn i h->∀b∈fp,∃o,h.get? b=some o/\∀v,o.data≠.cell v
 keep:∀i h h',tn i h->(∀b∈fp,∀o,h.get? b=some o->h'.get? b=some o)->tn i h'
 item:∀(X:Cx),X.prog=P->X.w=w->X.K=K->Hu X->∀(i:Nat) (pins:List (Addr×Obj)) (s:Shared) (σ:St) (H:Hp) (E:aj->Shared->Prop),Inv X pins σ H s->(∀b∈fp,yy X pins H b)->tn i s.heap->J.go i H ->
  ax (aD P w) X.A (dY (.ref it)) (λr s1=>∃u,r=some u /\
   ax (aD P w) X.A (cT tg (.ref it) u) (λ_ s2=>∃x H',Inv X pins σ H' s2/\jJ x u/\J.yld i H x H'/\tn (i+1) s2.heap/\∀b∈fp,H' b=none) E s1) E s
 done:∀(X:Cx),X.prog=P->X.w=w->X.K=K->Hu X->∀(i:Nat) (pins:List (Addr×Obj)) (s:Shared) (σ:St) (H:Hp) (E:aj->Shared->Prop),Inv X pins σ H s->(∀b∈fp,yy X pins H b)->tn i s.heap->J.stop i H ->
  ax (aD P w) X.A (dY (.ref it)) (λr s1=>r=none/\Inv X pins σ H s1) E s
 self:∀(A:bx) (i:Nat) (s:Shared) (Q:aj->Shared->Prop) (E:aj->Shared->Prop),tn i s.heap->Q (.ref it) s->ax (aD P w) A (lX (.ref it)) Q E s
noncomputable def PIEH (X:Cx) (pins:List (Addr×Obj)) (σ:St) (tg:Expr) (R:It->Hp->Prop) (z:aj) (j:Shared):Prop :=
 ∃(it:Addr) (c:List Addr) (a:Nat->Heap->Prop) (J:It) (H':Hp),z = .ref it/\Inv X pins σ H' j/\TurnH X.prog X.w X.K tg J c it a/\a 0 j.heap/\(∀b∈c,yy X pins H' b)/\R J H'
noncomputable def PIH (X:Cx) (tg iter:Expr) (j:TI):Prop :=
 ∀(pins:List (Addr×Obj)) (s:Shared) (σ:St) (H:Hp) (R:It->Hp->Prop),Inv X pins σ H s->j σ H R ->
  ax ↥3 X.A (eval iter X.env) (λv s1=>ax ↥3 X.A (lX v) (PIEH X pins σ tg R) X.xe s1) X.xe s
theorem XU {K:ag}(a it:Addr):TurnH P w K tg (Itl K a) [it] it (λi h=>h.IsListIter it a i) where
 mem:=by simp
 obj:=λi h st b hb=>by
  have e:b=it:=by simpa using hb
  subst e
  obtain ⟨o,e,c,d⟩:=st
  exact ⟨o,e,λv z=>by rw [d] at z;cases z⟩
 keep:=λi h h' st k=>st.at λo e=>k it (by simp) o e
 item:=by
  intro X hP hw hK hc i pins s σ H E I hf st hg
  subst hP hw hK
  obtain ⟨xs,x,hq,hx⟩:=hg
  obtain ⟨its,rv,p,hz⟩:=I.list hq
  obtain ⟨u,hu,ru⟩:=rv.get hx
  obtain ⟨f0,f1,f2,f3,f4,f5⟩:=hf it (by simp)
  refine eJ st p.isList (x:=u) (by simpa using hu) λh' st' sb=>?_
  have I1:Inv X pins σ H { s with heap:=h' }:=I.turned (t':=s.toks) (λb o hb e=>(sb.2 b hb).trans e) f0 f1 f3 f4 f5
  obtain ⟨o,e,c,d⟩:=id st'
  exact ⟨u,rfl,Jn (s:={ s with heap:=h' }) e c d ⋯ ⟨x,H,I1,ru,⟨rfl,λys hy=>by rw [I.list_inj hy hq];exact hx⟩,st',λb hb=>(hf b hb).1⟩⟩
 done:=by
  intro X hP hw hK hc i pins s σ H E I hf st hg
  subst hP hw hK
  obtain ⟨xs,hq,hx⟩:=hg
  obtain ⟨its,rv,p,hz⟩:=I.list hq
  obtain ⟨f0,f1,f2,f3,f4,f5⟩:=hf it (by simp)
  have hl:=rv.length
  exact Za (hc.now I) st p.isList ↥69 λh' eb=>⟨rfl,I.turned (t':=s.toks) ↥100 f0 f1 f3 f4 f5⟩
 self:=λ_ _ _ _ _ st h=>nh st h
section
variable {X:Cx}{tg:Expr}{pos:Pos}
theorem U6 (j:PE X l tl):PIH X tg l (ZO X.K tl):=by
 intro pins s σ H R I h
 refine thn ↥75 λv s1 ⟨x,H1,c,d,f⟩=>?_
 obtain ⟨a,e,⟨xs,g⟩,q⟩:=f
 subst e
 cases d
 obtain ⟨k,m,p,n⟩:=c.list g
 refine d6 p.isList ?_
 refine ⟨s1.heap.objs.size,[s1.heap.objs.size],_,_,H1,rfl,c.kept (t':=s1.toks) λb o e=>ai _ e,XU a _,⟨_,az _ rfl,rfl,rfl⟩,λb i=>?_,q⟩
 have e:b=s1.heap.objs.size:=by simpa using i
 subst e
 exact c.fpOk (ar _) (c.hok.fresh (ar _))
theorem Wd {k:Nat}{t:TGs}{n:Nat}(K:ag) (z:Hu X) (h:PGs X es t)
  (G:(d9 es X.env).length=n:=by rfl) (j:(d9 es X.env).findIdx? (·.1)=none:=by rfl) (U:X.K=K:=by rfl):PG X (.Tuple es k pos) (gTup K n t):=by
 subst U
 intro pins s σ H v u Q I r c
 obtain ⟨a,xs,m,i,l,c⟩:=c
 subst m
 cases r
 obtain ⟨q,d,g,w⟩:=I.tuple i
 refine YG (z.now I) g (by simp [G,<- l,d.length]) j λh' f=>?_
 have p:Inv X pins σ H { s with heap:=h' }:=I.kept (t':=s.toks) λb o e=>f b o (aB (av e)) e
 exact h pins _ σ H xs _ Q p (by simpa using d) c
theorem Yl {scope:Scope}{own:Nat}{j:List (Str×Addr)}{tg elt iter:Expr}{ti:TT}{te:TE}{H:Hp}{s:Shared}{G:List Addr}
    {Q:VK} {RR:aj->Addr->nH->Shared->Prop} 
  (hu:Hu X) (S:CompSc osc ON scope own N caps) (a1:X.env.scope=osc) (hN:X.N=ON) (a3:∀x,j.lookup x=if (x,bc)∈scope.names then X.env.cells.lookup x else none)
  (hg:∀j C s H ex,Hu ↥14->PG ↥14 tg g) (a2:∀j C s H ex,Hu ↥14->gL ↥14 ifs ti) (he:∀j C s H ex,Hu ↥14->PE ↥14 elt te)
  (I:Inv X pins σ H s) (T:TurnH X.prog X.w X.K tg J G it tn) (st:tn 0 s.heap) (hf:∀b∈G,yy X pins H b)
  (hw:∀acc,H acc=none->∃W:Nat->Nat->St->Hp->Prop,↥132/\∀i m U H',W i m U H' ->
   (J.stop i H'/\Q (.ref acc) H')\/(J.go i H'/\∃NX:St->Hp->Prop,↥82 /\
    ∀x H2,J.yld i H' x H2->g x U H2 λY H3=>ti Y H3 λok H4=>if ok=true then te Y H4 λv H5=>∃ys,H5 acc=some (.lst ys)/\ys.length<sizeLine/\NX Y (upd H5 acc ↥68) else NX Y H4))
  (a7:∀(D C:Addr) (H':Hp) (s':Shared),Inv X pins σ H' s'->BlockAt X pins H' C->(∃m,s'.heap.Ns C m)->Q (.ref D) H'->RR (.ref D) C (.ok .next) s') :
  ax ↥3 X.A (pV []) (λacc s₃=>ax ↥3 X.A (nK scope X.env.globals j [] X.env.qual none .none (some X.env)) (λab s₄ =>
   cO ↥3 X.A (.compStart ↥19 0 (.ref it) acc { ab with scope:=A2 scope X.env }) (RR acc ab.locals) s₄) E s₃) E s:=by
 have am:∀b∈G,b<s.heap.objs.size:=λb a=>by
  obtain ⟨o,e,_⟩:=T.obj _ _ st b a
  exact av e
 refine bS (iR S.nocell (by intro y hy;simp at hy) (λh₁ k f=>?_) S.kind)
 dsimp only at k f ⊢
 generalize P:s.heap.push { cls:=.type "list",dict:=none,data:=.seq ([]:List aj).toArray }=H2 at k f ⊢
 have R:H2.objs.size=s.heap.objs.size+1:=by rw [<- P,cB]
 have al:∀b o,s.heap.get? b=some o->h₁.get? b=some o:=λb o e=>f.extBut b o (aB (by rw [R];exact cf (av e))) (ai _ (P ▸ ai _ e))
 have eD:h₁.get? s.heap.objs.size=some { cls:=.type "list",data:=.seq #[] }:=f.extBut _ _ (aB ∅) (ai _ (P ▸ az _ rfl))
 have a5:H s.heap.objs.size=none:=I.hok.fresh (ar _)
 obtain ⟨W,⟨m0,w0⟩,ap⟩:=hw s.heap.objs.size a5
 have a0:h₁.Ns H2.objs.size λ_=>none:=k
 have I1:Inv ↥32 [] (ve own caps σ) ↥145 { s with heap:=h₁,toks:=s.toks+([]:List (Str×aj)).length } :=
  vn S a1 hN a3 I hf am rfl R al eD a0 _
 have h:Hu ↥32:=hu.block I hf
 have ae:tn 0 h₁:=T.keep 0 _ _ st λb _ o e=>al b o e
 have V:∀{H':Hp},(∀b∈G,H' b=none)->∀b∈G,yy ↥32 [] H' b:=λ{H'} hn b a=>by
  have ok:=I1.ok
  exact ⟨hn b a,(ok.exf b a).1,ok.exfs b a,.inl a,(ok.exf b a).2,λp hp=>absurd (show p∈([]:List (Addr×Obj)) from hp) (by simp)⟩
 have aL:∀{U:St} {H':Hp} {s':Shared},Inv ↥32 [] U H' s'->Q ↥11 H'->RR ↥11 H2.objs.size (.ok .next) s':=λ{U H' s'} B q=>by
  have J2:Inv X pins σ H' s':=I.call' (ch:=G) B.os B.base B.hok B.bare λb a=>⟨(hf b a).2.2.2.1,(hf b a).2.1,(hf b a).2.2.2.2.1,(hf b a).2.2.2.2.2⟩
  obtain ⟨m,hm,_⟩:=B.loc
  refine a7 _ _ H' s' J2 ⟨B.free,cN (aQ I.lt ∅),aI I.sz ∅,λx c e z=>?_,λp hp z=>?_⟩ ⟨m,hm⟩ q
  ·obtain ⟨v,y⟩:=I.cell x c e
   have h1:H2.objs.size<s.heap.objs.size:=z ▸ y.lt
   exact absurd h1 ∅
  ·have h1:H2.objs.size<s.heap.objs.size:=z ▸ av (I.pin p hp).1
   exact absurd h1 ∅
 have O:∀s₃:Shared,s₃={ s with heap:=h₁,toks:=s.toks+([]:List (Str×aj)).length } ->
   cO ↥3 X.A (.compLoop ↥19 0 (.ref it) ↥11 (pS scope j H2.objs.size X.env)) (RR ↥11 H2.objs.size) s₃:=by
  rintro s₃ rfl
  refine wE (λn s'=>∃i U H',Inv ↥32 [] U H' s'/\tn i s'.heap/\(∀b∈G,H' b=none)/\W i n U H') ?_ m0
   ⟨0,_,_,I1,ae,λb a=>by rw [j7 (aB (am b a))];exact (hf b a).1,w0⟩
  rintro n s3 ⟨i,Y,H3,I3,ac,an,w3⟩
  rcases ap i n Y H3 w3 with ⟨as,qn⟩ | ⟨go,NX,a4,step⟩
  ·refine thn (T.done ↥32 rfl rfl rfl h i [] s3 Y H3 _ I3 (V an) ac as) λr s4 ⟨hr,I4⟩=>?_
   subst hr
   exact aL I4 qn
  ·refine thn (T.item ↥32 rfl rfl rfl h i [] s3 Y H3 _ I3 (V an) ac go) λr s4 ⟨u,hr,h4⟩=>?_
   subst hr
   refine thn h4 λ_ s5 ⟨x,H5,I5,r5,y5,M,a6⟩=>?_
   have a8:=I5.pinned (V a6) (T.obj _ _ M)
   refine thn (hg j H2.objs.size s H G h _ s5 Y H5 x u _ a8 r5 (step x H5 y5)) λ_ s6 ⟨σ6,H6,I6,q6⟩=>?_
   refine thn (a2 j H2.objs.size s H G h _ s6 σ6 H6 _ I6 q6) λok s7 ⟨H7,I7,q7⟩=>?_
   have again:∀{t:Shared} {L:St} {l:Hp},Inv ↥32 ([]++zd G s5.heap) L l t->NX L l->∃m,m<n/\∃i U H',Inv ↥32 [] U H' t/\tn i t.heap/\(∀b∈G,H' b=none)/\W i m U H':=λ{t L l} Z n8=>by
    obtain ⟨m',hm,w8⟩:=a4 L l n8
    refine ⟨m',hm,i+1,L,l,Z.unpinned,T.keep _ _ _ M λb a o e=>(Z.pin (b,o) ↥101).1,λb a=>?_,w8⟩
    obtain ⟨o,e,d⟩:=T.obj _ _ M b a
    exact (Z.pin (b,o) ↥101).2.1
   cases ok with
   | false =>
    rw [if_neg au] at q7 ⊢
    exact again I7 q7
   | true =>
    rw [if_pos rfl] at q7 ⊢
    refine thn (he j H2.objs.size s H G h _ s7 σ6 H7 _ I7 q7) λv t ⟨y,l,Z,r8,ys,e8,z8,q8⟩=>?_
    refine thn (jY _ t σ6 l ↥11 [y] _ [v] (λ_ H9=>NX σ6 H9) Z rfl (.cons r8 .nil) ⟨_,ys,y,rfl,rfl,e8,z8,q8⟩) λ_ s9 ⟨_,H9,I9,_,q9⟩=>?_
    exact again I9 q9
 exact ic (O _ rfl) (T.self _ 0 _ _ _ ae (O _ rfl))
theorem Vb {own:Nat}{tg:Expr}(S:CompSc osc ON scope own N caps)
  (hu:Hu X) (z:X.env.scope=osc) (hN:X.N=ON) (hi:PIH X tg iter U)
  (hg:∀j C s H ex,Hu ↥14->PG ↥14 tg g) (G:∀j C s H ex,Hu ↥14->gL ↥14 ifs Y) (he:∀j C s H ex,Hu ↥14->PE ↥14 elt te)
  (hs:∀x,cc iter X.env x=pure x:=by intro _;rfl):PE X ↥19 (VX own caps U g Y te):=by
 intro pins s σ H Q I h
 obtain ⟨j,a,d⟩:=yT (Qi S z I)
 rw [oK]
 refine dR (use:=none) rfl hs a S.kind S.loc ↥111
 obtain ⟨it,t,p,J,H2,e,n,T,b,k,f⟩:=h2
 subst e
 refine Yl (RR:=λacc C=>t7 ↥3 X.A X.xe none ↥61 acc C) hu S z hN d hg G he n T b k f λD C H' s' l B ⟨m,i⟩ q=>?_
 exact ⟨m,i,λh' c=>⟨.ref D,H',B.gone l c,rfl,q⟩⟩
end
end L2
end
section
namespace L2
open PySem PySem.Spec PySem.W PyProof.Rows PySem.Calls
section
variable {prog:Program}{w:bo}{A:bx}{E:aj->Shared->Prop}{s:Shared}{K:ag}{x D:Addr}{ox:Obj}{odo:Option Obj}
theorem Wb {Q:Option aj->Shared->Prop}(X:K.In s.heap) (I:sW s.heap x ox D odo) (z:findIn K (.ref D) "__getattribute__" = some (some (.builtin "BaseException.__getattribute__"))) (j:findIn K (.ref D) "__getattr__" = some none)
  (U:findObj K D odo "__class__" = some (.bind ↥120 ↥77)) (G:mroIn K D (.type "object")=some true) (Y:subIn K (.ref D) (.type "BaseException")=some true)
  (k:Q (some (.ref D)) { s with toks:=s.toks+1 }):ax (aD prog w) A (tG (.ref x) "__class__") Q E s:=by
 obtain ⟨c,g,d,t,os⟩:=s
 have a:=I.type (M:=aD prog w)
 have n:=looks_findIn (M:=aD prog w) X z
 have L2:=looks_findIn (M:=aD prog w) X j
 have m:=looks_find (M:=aD prog w) X I U
 have l:=looks_subIn (M:=aD prog w) X Y
 have i:Looks (aD prog w) c (isInstance (.ref x) (.type "BaseException")) true:=a.andThen l
 unfold tG getAttrBy? getAttrBy
 refine aa (wpAny_mkText (aa (fc (bA (aa (a.at (aa (n.at ?_))))))))
 have e:(onTheHeap (aU D) && iO "BaseException.__getattribute__" == iO "object.__getattribute__")=false:=by
  rw [show (iO "BaseException.__getattribute__" == iO "object.__getattribute__")=false by decide +kernel,sZ]
 dsimp only
 rw [if_neg (by rw [e];exact au)]
 unfold getAttrByItsOwn
 refine aa ?_
 show ax _ _ (oV (.ref D) "__getattr__") _ _ _
 refine L2.at ?_
 refine aa (fc (bA ?_))
 show ax _ _ (tH _ _ _) _ _ _
 unfold tH
 refine aa ?_
 rw [F.excAttr_ValueError.ga.bind (.ref x)]
 refine wpAny_pure ?_
 refine fV (codeAny_call_builtin F.excAttr_ValueError.ga.plain F.entry_bexc_ga ?_)
 have f:builtinKind "BaseException.__getattribute__" = some .slot:=by decide +kernel
 have b:splitId "BaseException.__getattribute__" = some ("BaseException","__getattribute__"):=by decide +kernel
 have h:=F.args_bexc_ga (.ref x) (.str "__class__" t)
 show ax (aD prog w) A.in1 (rV "BaseException.__getattribute__" ⟨[.ref x,.str "__class__" t],[]⟩) _ _ _
 simp only [rV,f,b]
 refine aa (i.at ?_)
 rw [if_neg ⋯]
 refine nU h ?_
 unfold eM.«object.__getattribute__»
 refine aa ↥47
 refine aa ↥47
 refine aa (a.at ?_)
 refine aa (m.at ?_)
 show ax _ _ (dN [.builtin "object.__class__"] (call ↥120 [.builtin "object.__class__",.ref x,.ref D]) >>= ret) _ _ _
 refine aa (bA (fV (class_get (s:=⟨c,g,d,t+1,os⟩) (ox:=ox) (od:=odo) X I G ?_)))
 refine wpAny_pure ?_
 exact handed_on rfl (wpAny_pure k)
structure ExK (K:ag) (D:Addr):Prop where
 cl:(clsIn K D).isSome=true
 ga:findIn K (.ref D) "__getattribute__" = some (some (.builtin "BaseException.__getattribute__"))
 gt:findIn K (.ref D) "__getattr__" = some none
 ha:findIn K (.ref D) "__class__" = some (some ↥77)
 hn:specialIn K ↥77 "__get__" = some (some ↥120)
 tk:takesIn K ↥77=some true
 mo:mroIn K D (.type "object")=some true
 be:subIn K (.ref D) (.type "BaseException")=some true
theorem ExK.kit (e:ExK K D):KitX K (.ref x) (.ref D) (λh=>∃o,h.get? x=some o/\o.cls = .ref D/\o.dict=none/\notCls o=true) where
 ty:=λM h _ ⟨o,g,c,_⟩=>c ▸ (Ae g).andThen .now
 it:=λM h X _=>by
  have cl:=e.cl
  unfold clsIn at cl
  split at cl
  ·rename_i c' d' cd' sl' ho
   intro A' Q' E' s' k q
   unfold isType loadHead
   exact aa (sX (k _ _ (X _ _ ho)) (wpAny_pure q))
  ·cases cl
 ne:=λh tp dd its n sl X htp=>by
  have cl:=e.cl
  refine Bool.eq_false_iff.mpr λq=>?_
  obtain rfl:D=tp:=Value.ref.inj (beq_iff_eq.mp q)
  unfold clsIn at cl
  split at cl
  ·rename_i c' d' cd' sl' ho
   cases (X _ _ ho).symm.trans htp
  ·cases cl
 ca:=λX ⟨o,g,c,dn,no⟩ k=>by
  refine Wb (ox:=o) (odo:=none) X ⟨g,c,no,by rw [dn];trivial⟩ e.ga e.gt ?_ e.mo e.be k
  obtain ⟨cd,hc⟩:=Option.isSome_iff_exists.mp e.cl
  unfold findObj
  rw [hc,rW,e.ha,rW]
  simp [e.hn,e.tk]
end
end L2
end
section
namespace L2
open PySem PySem.Spec PySem.W PyProof.Rows PySem.Calls
noncomputable def Qn (oe:Obj) (cls:aj):Prop:=oe.cls=cls/\oe.dict=none/\∃ws,oe.data = .fields ws/\ws[2]? = some .none
theorem Qn.noCell (h:Qn oe cls):∀v,oe.data≠.cell v:=λv z=>by
 obtain ⟨_,_,ws,d,_⟩:=h
 rw [d] at z
 cases z
theorem Qn.noCls (h:Qn oe cls):notCls oe=true:=by
 obtain ⟨_,_,ws,d,_⟩:=h
 unfold notCls
 rw [d]
noncomputable abbrev Cx.handE (X:Cx) (a:Addr) (oe:Obj) (pn:List (Addr×Obj)):Cx:={ X with A:=X.A.mark (some (.ref a)),calm:=false,pn:=pn++[(a,oe)],xe:=λ_ _=>False }
section
variable {X:Cx}{pins:List (Addr×Obj)}{σ:St}{H:Hp}{s:Shared}{a:Addr}{oe:Obj}{cls:aj}
theorem Inv.toHandE (I:Inv X pins σ H s) (ga:s.heap.get? a=some oe) (Y:H a=none) (j:a≠X.env.locals) (G:a∉X.fs) (U:∀v,oe.data≠.cell v):Inv (X.handE a oe (X.pn++pins)) [] σ H s :=
 ⟨⟨I.ok.mod,I.ok.kind,I.ok.glob,I.ok.blt,I.ok.above,I.ok.inj,I.ok.has,I.ok.cab,(λz=>(by cases z)),I.ok.frames,I.ok.stk,I.ok.exf,I.ok.bs,I.ok.bsz,I.ok.noex,I.ok.exfs,I.ok.funs,I.ok.frf⟩,I.os,I.bare,I.base,I.loc,I.cell,I.free,I.freeC,λp b=>by
  rw [aF] at b
  rcases List.mem_append.mp b with z | z
  ·exact I.pin p z
  ·obtain rfl:p=(a,oe):=by simpa using z
   exact ⟨ga,Y,j,G,U⟩,I.hok,I.len⟩
theorem Inv.ofHandE (j:X.calm=true->X.A.handled=none) (I:Inv (X.handE a oe (X.pn++pins)) [] σ H s):Inv X pins σ H s :=
 ⟨⟨I.ok.mod,I.ok.kind,I.ok.glob,I.ok.blt,I.ok.above,I.ok.inj,I.ok.has,I.ok.cab,j,I.ok.frames,I.ok.stk,I.ok.exf,I.ok.bs,I.ok.bsz,I.ok.noex,I.ok.exfs,I.ok.funs,I.ok.frf⟩,I.os,I.bare,I.base,I.loc,I.cell,I.free,I.freeC,
  λp b=>I.pin p (cF _ (cF _ b)),I.hok,I.len⟩
theorem k8 {i:Nat}{pos:Pos}{Q:Unit->Shared->Prop}(I:Inv X pins σ H s) (Y:X.N.Nodup) (hi:X.N[i]? = some n) (U:X.env.scope.names.lookup n=some .local)
  (h:∀s',Inv X pins (σ.set i none) H s'->Q () s'):ax M A (do bindName X.env n .none;unbindBehindTheSuite X.env n pos) Q E s:=by
 obtain ⟨m,B,S⟩:=id I.loc
 have P:(X.env.scope.kind == .class || (X.env.scope.kind == .module && X.env.locals != X.env.globals))=false:=by rw [I.ok.kind];rfl
 have C:i<σ.length:=by rw [I.len];exact (↥84).1
 refine wpAny_nameGoes_keeps U B P λg v x l=>?_
 obtain ⟨oL,_,_,Z,_⟩:=id B
 have lo:∀{b o},X.s₀.heap.get? b=some o->g.get? b=s.heap.get? b:=λ{b o} e=>l.2 b (aB (aQ (av e) I.ok.above))
 refine h _ ⟨I.ok,I.os,I.bare,⟨λb o e n u f=>(lo e).trans (I.base.keep b o e n u f),λb o e n u f=>?_,I.base.free,λb o e f=>?_,I.base.tups,I.base.frzs,I.base.tbls⟩,⟨_,x,λj y D a r V=>?_⟩,λy c e=>?_,I.free,I.freeC,λp R=>?_,λb L e=>?_,by simpa using I.len⟩
 ·obtain ⟨J,a⟩:=I.base.slot b o e n u f
  exact ⟨J,(lo e).trans a⟩
 ·obtain ⟨o',a⟩:=I.base.there b o e f
  exact ⟨o',(lo e).trans a⟩
 ·by_cases t:j=i
  ·subst t
   rw [i6 C] at r
   cases r
  ·rw [iP (cx t)] at r
   obtain ⟨G,K,q⟩:=S j y D a r V
   refine ⟨G,K,?_⟩
   rcases q with ⟨k,e⟩ | ⟨k,c,e,z⟩
   ·have ny:y≠n:=λz=>t (gK Y a (z ▸ hi))
    exact .inl ⟨k,by show (if y=n then v else m y)=_;rw [if_neg ny];exact e⟩
   ·exact .inr ⟨k,c,e,z.sameBut l (I.cne y c e)⟩
 ·obtain ⟨w,z⟩:=I.cell y c e
  exact ⟨w,z.sameBut l (I.cne y c e)⟩
 ·obtain ⟨e,n,ne,O,d⟩:=I.pin p R
  exact ⟨(l.2 p.1 ne).trans e,n,ne,O,d⟩
 ·refine (I.hok b L e).stay (λc w T q=>(l.2 c ?_).trans q) (λ_ q=>q) λ_ _ q=>q
  rintro rfl
  rcases T with z | z
  ·rw [<- z,I.free] at e;cases e
  ·rw [I.free] at z;cases z
end
noncomputable def Ends.un (D:Ends) (i:Nat):Ends:={ nx:=λσ H=>D.nx (σ.set i none) H,rt:=D.rt,bk:=λσ H=>D.bk (σ.set i none) H,ct:=λσ H=>D.ct (σ.set i none) H }
noncomputable def WK (K:ag) (C:Addr) (i:Nat) (tb:(aj->St->Hp->Prop)->TS) (th:Addr->Obj->TS):TS:=λD σ H =>
 tb (λcls b H'=>exmOne K cls (.ref C)=some true/\∀a oe,Qn oe cls->H' a=none->th a oe (D.un i) (b.set i (some (.ref a))) H') D σ H
theorem U8 {X:Cx}{G:List Stmt}{b₀:Stmt}{pos:Pos}{i:Nat}{tb:(aj->St->Hp->Prop)->TS}{th:Addr->Obj->TS}(K:ag) (st:X.stack=X.env::X.outer) (hf:X.env.frame=some X.env.locals) (hm:X.mg x=some (.ref C)) (hg:Gl X x)
  (Y:X.N.Nodup) (hi:X.N[i]? = some n) (U:X.env.scope.names.lookup n=some .local)
  (hb:∀(pn:List (Addr×Obj)) (J:aj->St->Hp->Prop),PSs (X.tryX pn J) body (tb J)) (hs:∀(a:Addr) (oe:Obj) (pn:List (Addr×Obj)),PSs (X.handE a oe pn) (b₀::G) (th a oe)) (ae: ↥22=false:=by decide) (hK:X.K=K:=by rfl) :
  PS X (.Try body [.ExceptHandler (some (.Name x np)) (some n) (b₀::G) al] [] [] pos) (WK K C i tb th):=by
 subst hK
 intro pins s σ H D I h
 refine wpAny_Try_except (aZ (hb (X.pn++pins) _ [] s σ H D I.toTry h) (λf s1 q=>?_) λe s1 q=>?_)
 ·have y:SP X pins D f s1:=EA (λI=>Inv.ofTryP I) q
  cases f with
  | next=>exact eR y
  | brk=>exact y
  | cont=>exact y
  | ret u=>exact y
 ·obtain ⟨a,cls,t,H',rfl,fl,hx,ht⟩:=q
  have f:zu X pins t H' s1 a cls .none:=by
   obtain ⟨s,H,I,os,b,u,ok,fy⟩:=fl
   exact ⟨s,H,Inv.ofP I,os,b,u,ok,fy⟩
  obtain ⟨B,a0,r,up⟩:=f.under
  have fr:X.A.frames=some (X.env::X.outer):=by rw [<- st];exact I.ok.frames
  rw [st] at r
  refine Y0 fr r.2.2.1 hf r.2.2.2 r.1 r.2.1 λh2 n1 n2 n3 ab=>?_
  refine yV (s:={ s1 with heap:=h2 }) n1 n2 n3 λh3 m1 m2 P m4=>?_
  have E:s1.heap.UpToSlots h3:=ab.trans λb o e n=>⟨o.slots,m4 b o e n⟩
  have f3:zu X pins t H' { s1 with heap:=h3 } a cls .none:=up h3 .none m1 E P
  have I3:=f3.inv.toHand a
  refine wpAny_handleBy_cons (codeAny_handlers_test ?_) ↥44
  refine yM (X:=X.hand a) I3 hg hm ?_ ae
  obtain ⟨oe,_,_,_,_,he,hc,_⟩:=id P
  have lt:Looks ↥3 h3 (oX (.ref a)) cls:=hc.1 ▸ (Ae he).andThen .now
  refine exm_one (M:=aD X.prog X.w) I3.kIn lt hx _ _ _ _ (λ_ _ e=>e) ?_
  refine codeAny_handlers_suite_as ?_
  refine yV (s:={ s1 with heap:=h3 }) m1 m2 P λQ k1 k2 k3 k4=>?_
  have f4:zu X pins t H' { s1 with heap:=Q } a cls .none:=up Q .none k1 (E.trans λb o e n=>⟨o.slots,k4 b o e n⟩) k3
  have I4:=f4.inv
  obtain ⟨c,vs,T,oT,ts,Z,S,R,_⟩:=id k3
  have eo:Qn c cls:=⟨S.1,S.2.2,vs,R,S.2.1.2⟩
  have ha:H' a=none:=by
   obtain ⟨_,_,_,_,_,_,_,fy⟩:=f4
   exact fy.ha
  have hl:a≠X.env.locals:=λz=>by
   obtain ⟨m,⟨o,es,ep,p,hd,_⟩,_⟩:=I4.loc
   rw [<- z,Z] at p
   cases p
   rw [R] at hd
   cases hd
  have ac:a∉X.fs:=λz=>by
   have z':a∈frs X.stack:=by
    rw [st]
    unfold frs
    rw [fM,hf]
    exact aH _ z
   obtain ⟨_,o,p,hn⟩:=I4.stack.mem z'
   rw [Z] at p
   cases p
   exact hn _ R
  have I5:Inv (X.handE a c (X.pn++pins)) [] t H' { s1 with heap:=Q }:=I4.toHandE Z ha hl ac eo.noCell
  refine uO (X:=X.handE a c (X.pn++pins)) (v:=V.ref a) I5 Y hi (.inl U) rfl (λs6 I6=>?_) (.inr U)
  refine aZ (hs a c (X.pn++pins) [] s6 _ H' (D.un i) I6 (ht a c eo ha)) (λg s7 q=>?_) λ_ _ z=>bw z
  cases g with
  | next=>obtain ⟨L,l,k,d⟩:=q;exact k8 (Inv.ofHandE I.ok.hd k) Y hi U λO j=>⟨_,l,j,d⟩
  | brk=>obtain ⟨L,l,k,d⟩:=q;exact k8 (Inv.ofHandE I.ok.hd k) Y hi U λO j=>⟨_,l,j,d⟩
  | cont=>obtain ⟨L,l,k,d⟩:=q;exact k8 (Inv.ofHandE I.ok.hd k) Y hi U λO j=>⟨_,l,j,d⟩
  | ret u=>obtain ⟨v,L,l,k,r7,d⟩:=q;exact k8 (Inv.ofHandE I.ok.hd k) Y hi U λO j=>⟨v,_,l,j,r7,d⟩
noncomputable def cxH (P:Program) (w:bo) (K:ag) (mg:Str->Option aj) (base:Heap) (N:List Str) (j:Str) (scope:Scope) (f:Addr) (z:aj) (A:bx) (outer:List Env) (s:Shared) (H:Hp):Cx :=
 { vN (λ_ _ _ _ _ _=>False) P w K mg base N j scope f z A outer s H (λ_ _ _=>False) with calm:=false }
structure AtE (A:bx) (outer:List Env) (s:Shared) (H:Hp) (a:Addr) (oe:Obj) (cls:aj):Prop where
 hd:A.handled=some (.ref a)
 at_:s.heap.get? a=some oe
 ex:Qn oe cls
 free:H a=none
 out:a∉frs outer
noncomputable def FnH (P:Program) (w:bo) (K:ag) (mg:Str->Option aj) (base:Heap) (k:Nat) (f:Addr) (fd:FuncData) (ps:List Str) (sp:Addr->aj->List V->Hp->VK->Prop):Prop :=
 ∀(A:bx) (outer:List Env) (s:Shared) (H:Hp) (b:Args) (d:List aj) (c:List V) (Q:VK) (a:Addr) (oe:Obj) (cls:aj),A.depth+3*k+5<recursionLimit->A.units+16*k+200<cLine->AtE A outer s H a oe cls ->
  Env0 P w K mg base A outer s H->pN s fd b (ps.zip d)->jH c d->c.length=ps.length->sp a cls c H Q->cO (aD P w) A (.call (.ref f) b) (CR (λ_ _ _ _ _ _=>False) outer P w H s Q (λ_ _ _=>False)) s
theorem Z6 {P:Program}{w:bo}{K:ag}{mg:Str->Option aj}{base:Heap}{N ps:List Str}{G:Str}{scope:Scope}{f:Addr}{U:aj}{A:bx}{outer:List Env}{s s1:Shared}{H:Hp}{us:List aj}{vs:List V}(S:FnScope N ps scope) (j:Env0 P w K mg base A outer s H) (Y:vs.length=ps.length) (r:jH vs us)
  (x:InCallC s s.heap.objs.size (sx (iU G scope s.heap.objs.size f U).kindOf (ps.zip us) λ_=>none) (mj ↥16 scope.names []) (sy (iU G scope s.heap.objs.size f U).kindOf (ps.zip us) λ_=>none) s1) :
  Inv (cxH P w K mg base N G scope f U A outer s H) [] (start N vs) H s1:=by
 have I:=we (CX:=λ_ _ _ _ _ _=>False) (A:={ A with handled:=none }) (E:=λ_ _ _=>False) (P:=P) (w:=w) S rfl ⟨j.frames,j.mod,j.bs,j.bsz,j.funs,j.frf,j.hok,j.bare⟩ Y r x
 exact ⟨⟨I.ok.mod,I.ok.kind,I.ok.glob,I.ok.blt,I.ok.above,I.ok.inj,I.ok.has,I.ok.cab,(λz=>(by cases z)),nI j.frames,I.ok.stk,I.ok.exf,I.ok.bs,I.ok.bsz,I.ok.noex,I.ok.exfs,I.ok.funs,I.ok.frf⟩,I.os,I.bare,I.base,I.loc,I.cell,I.free,I.freeC,I.pin,I.hok,I.len⟩
theorem WW {K:ag}(e:AtE A outer s H a oe cls):Hu (cxH P w K mg base N j scope f G A outer s H):=by
 obtain ⟨_,_,ws,d,b⟩:=e.ex
 exact ⟨a,oe,ws,e.hd,e.at_,e.free,e.out,(λz=>by cases z),d,b⟩
theorem Fun.okH {w:bo}{K:ag}{mg:Str->Option aj}{base:Heap}{x:Str}{st:Stmt}{N:List Str}{k:Nat}{sp:Addr->aj->List V->Hp->VK->Prop}(F:Fun K x z st f fd) (S:FnScope N ps (j8 st))
  (G:∀(j:aj) (A:bx) (outer:List Env) (s:Shared) (H:Hp) (vs:List V) (Q:VK) (a:Addr) (oe:Obj) (cls:aj),AtE A outer s H a oe cls->sp a cls vs H Q ->
   ∃t,PSs ↥153 (jT st) t/\t { nx:=λ_ H'=>Q .non H',rt:=Q } (start N vs) H):FnH P w K mg base (k+1) f fd ps sp:=by
 obtain ⟨oc,od,kV,doc,pm,an,j,ct,Z,rfl,E,B⟩:=F.ex
 intro A outer s H X D vs Q a oe cls dp un Y d U r R p
 have C:K.In s.heap:=d.mod.kin.keeps λb o e=>(d.bs b o e).1
 have m:s.heap.NoLimit:=d.mod.nolimit.keeps λb o e=>(d.bs b o e).1
 have h:∀y∈ps.zip D,(j8 st).names.lookup y.1=some .local\/((j8 st).names.lookup y.1=some .cell/\((mj ↥16 (j8 st).names []).lookup y.1).isSome=true):=λ⟨n,v⟩ L=>by
  rcases S.par n (fU L).1 with q | q
  ·exact .inl q
  ·exact .inr ⟨q,eK _ _ _ (.inl q)⟩
 refine ni ∅ (C _ _ E) rfl S.co S.gen rfl (oU C B) (U _ _ _ _ ?_)
 refine fq S.kind h λenv T s1 x=>?_
 subst T
 refine ⟨m.keeps x.toInCall.keep,codeAny_func ?_⟩
 obtain ⟨t,M,O⟩:=G j A outer s H vs Q a oe cls Y p
 have I:Inv ↥153 [] (start N vs) H s1:=Z6 S d R r x
 refine aZ (M [] s1 (start N vs) H _ I O) (λfl s' c=>?_) λe s' c=>c
 have i:∀{g:St} {H':Hp} {v:V} {u:aj},Inv ↥153 [] g H' s'->jJ v u->Q v H'->CE outer P w H s Q u s':=λ{g H' v u} J l q =>
  ⟨v,H',J.os,J.bare,J.base,J.hok,l,q⟩
 cases fl with
 | ret u=>obtain ⟨v,g,H',J,l,q⟩:=c;exact i J l q
 | next=>obtain ⟨g,H',J,q⟩:=c;exact i (v:=V.non) (u:=aX) J rfl q
 | brk=>obtain ⟨_,_,_,q⟩:=c;exact bw q
 | cont=>obtain ⟨_,_,_,q⟩:=c;exact bw q
structure CalH (P:Program) (w:bo) (K:ag) (mg:Str->Option aj) (base:Heap) (k:Nat) (x:Str) (ps:List Str) (sp:Addr->aj->List V->Hp->VK->Prop):Prop where
 ex:∃f fd,FnH P w K mg base k f fd ps sp/\yB K fd ps []/\mg x=some (.ref f)/\bR K (.ref f)=true
theorem CalH.mk' {w:bo}{K:ag}{mg:Str->Option aj}{base:Heap}{k:Nat}{x:Str}{ps:List Str}{st:Stmt}{f:Addr}{oc:aj}{od I:Option Addr}{U:Array (Option aj)}{kV doc pm j z:aj}
  (X:K.In h) (G:h.Ns mainGlobals mg) (a:aW K mainGlobals x=some (some (.ref f)))
  (l:K.lookup f=some ⟨oc,od,.func ↥39,U⟩) (c:cC K j x=true) (Y:bR K (.ref f)=true)
  (hb:∀(kV doc pm:aj) (I:Option Addr) (j z:aj) (us:List aj),us.length=ps.length->cG ↥39 ⟨us,[]⟩=pure (ps.zip us))
  (ok:∀{f:Addr} {fd:FuncData},Fun K x x st f fd->FnH P w K mg base k f fd ps sp):CalH P w K mg base k x ps sp:=by
 have F:=vz (st:=st) l c Y
 exact ⟨f,_,ok F,F.binds hb,bh X G a,Y⟩
noncomputable def G9 (a:Addr) (oe:Obj) (n:Nat) (sp:Addr->aj->List V->Hp->VK->Prop) (t:TA):TE:=λσ H Q=>t σ H λb H1=>b.length=n/\∃cls,Qn oe cls/\sp a cls b H1 Q
theorem Wf {X:Cx}{k:Nat}{e:Expr}{es:List Expr}{t:TA}{pos:Pos}{oe:Obj}(c:CalH X.prog X.w X.K X.mg X.base k x ps sp) (dp:X.A.depth+3*k+5<recursionLimit) (un:X.A.units+16*k+200<cLine)
  (hd:X.A.handled=some (.ref a)) (U:(a,oe)∈X.pn) (Y:Gl X x) (ha:PA X (e::es) t)
  (G: ↥22=false:=by decide) (he:aR (e::es) X.env=↥40::aR es X.env:=by rfl) (j: (↥66).any (·.1)=false:=by rfl) :
  PE X ↥65 (G9 a oe ps.length sp t):=by
 obtain ⟨f,fd,F,y,m,v⟩:=c.ex
 intro pins s σ H Q I h
 refine cW (yM I Y m ?_ G)
 refine dr (h₀:=X.base) I.ok.mod.kin v (thn ↥98 λg s1 ⟨l,H1,b,r,n,cls,J,q⟩=>⟨b.kIn,?_⟩) he j
 have o:g.length=ps.length:=by rw [<- r.length];exact n
 have i:=y s1 g b.kIn (by rw [aF];exact o)
 rw [aF] at i
 obtain ⟨E,D,C,B,M⟩:=b.pin (a,oe) (cF _ U)
 have L:AtE X.A X.stack s1 H1 a oe cls:=⟨hd,E,J,D,λz=>(List.mem_cons.mp (b.stkSub a z)).elim C B⟩
 refine fV (dh (F X.A X.stack s1 H1 ⟨g,[]⟩ g l Q a oe cls dp un L b.env0 i r n q) λr s' d=>?_)
 cases r with
 | error e=>exact bw d
 | ok fl =>
  cases fl with
  | ret u=>exact b.after d
  | next=>exact bw d
  | brk=>exact bw d
  | cont=>exact bw d
theorem Vi {X:Cx}{a D:Addr}(K:ag) (ek:ExK K D) (ga:X.s₀.heap.get? a=some oe) (ha:X.H₀ a=none) (Y:a∉X.fs) (U:a∉X.ex) (j:Qn oe (.ref D)) (hK:X.K=K:=by rfl) :
  xl X (.builtin "isinstance") (λxs H Q=>∃c G b,xs=[.ref a,c]/\(∀u,jJ c u->u=G)/\bb K (.ref D) G=some b/\Q (.bl b) H):=by
 subst hK
 intro pins s σ H l m Q I r h
 obtain ⟨c,G,b,rfl,i,k,q⟩:=h
 cases r with
 | cons g f =>
  cases f with
  | cons e d =>
   cases d
   cases (show _=aU a from g)
   cases i _ e
   exact c3 (ExK.kit (x:=a) ek) I.kIn ⟨oe,I.base.keep a oe ga ha Y U,j.1,j.2.1,j.noCls⟩ k ↥92 λtk=>⟨.bl b,H,I.tok _,rfl,q⟩
end L2
end
section
namespace L2
open PySem.W
theorem gN.calH {w:bo}{K:ag}{mg:Str->Option aj}{base:Heap}{k:Nat}{x:Str}{st:Stmt}(a:gN K x st) (z:Zt P w K mg base) (j:gB x x st ps)
  (ok:∀{f:Addr} {fd:FuncData},Fun K x x st f fd->FnH P w K mg base k f fd ps sp):CalH P w K mg base k x ps sp:=by
 obtain ⟨a,l,c,b⟩:=a
 obtain ⟨X,G⟩:=z
 exact CalH.mk' X G a l c b j ok
end L2
end
section
namespace L2
open PySem.W
theorem Yt {ta:TE}(K:ag) (G:PE X a ta) (z:∀j,isTrue a X.env j=(do let v <- j;fG a.pos;dN [v] (Ah v)):=by intro _;rfl) (I:X.K=K:=by rfl) :
  PT X a (λσ H Q=>ta σ H λx H'=>∃k,Gu K x H' k/\Q k H'):=by subst I;exact Vz G z
end L2
end
section
namespace L2
end L2
namespace L2
section
variable (P:Program) (w:bo)
end
section
variable {P:Program}{w:bo}{H H':Hp}{h h':Heap}{a:Addr}{o:HO}
end
section
variable {P:Program}{w:bo}{H:Hp}{h h':Heap}{x e:Addr}{o':HO}
end
section
variable {fs fs' ex ex':List Addr}{H H1 H2:Hp}{h h1 h2 h':Heap}{a x e:Addr}{o:HO}
end
end L2
namespace L2
section
variable {X:Cx}{pins:List (Addr×Obj)}{σ:List (Option V)}{H H':Hp}{s:Shared}{h':Heap}
end
end L2
namespace L2
section
variable {X:Cx}
variable {a b:Expr}{ta tb:TE}{pos:Pos}
variable {tA tB':TT}{xI:List Expr}
end
end L2
namespace L2
section
variable {X:Cx}{pins:List (Addr×Obj)}{σ:St}{H:Hp}{s:Shared}{a:Addr}{xs ys:List V}
end
section
variable {X:Cx}{pins:List (Addr×Obj)}{σ:St}{H:Hp}{s:Shared}{E:aj->Shared->Prop}
end
section
variable {X:Cx}{st:Stmt}{xI:List Stmt}{t u:TS}{e:Expr}{te:TE}{pos:Pos}
end
section
variable {X:Cx}{pos:Pos}
end
section
variable {X:Cx}{pos:Pos}
end
end L2
namespace L2
section
variable {X:Cx}{tg:Expr}
end
end L2
namespace L2
section
variable {X:Cx}{a b c:Expr}{ta tb tc:TE}{pos:Pos}
end
section
variable {X:Cx}{a b c:Expr}{ta tb tc:TE}{pos:Pos}
end
end L2
namespace L2
section
variable {prog:Program}{w:bo}{A:bx}{E:aj->Shared->Prop}{s:Shared}{K:ag}{x dx C f:Addr}{mA:Str->Option aj}{name:Str}{v:aj}
end
section
variable {P:Program}{w:bo}{H H':Hp}{h h':Heap}{a C dx:Addr}{fs fs':List (Str×V)}
end
section
variable {X:Cx}{pins:List (Addr×Obj)}{σ:St}{H:Hp}{s:Shared}{a C dx:Addr}{fs:List (Str×V)}{f:Str}{v:V}{A:bx}{E:aj->Shared->Prop}
end
section
variable {X:Cx}{o e value:Expr}{f:Str}{pos pos' tpos:Pos}{ta tv:TE}
end
section
variable {X:Cx}{pins:List (Addr×Obj)}{σ:St}{H:Hp}{s:Shared}{A:bx}{E:aj->Shared->Prop}{Q:aj->Shared->Prop}{c:aj}{b:Bool}
end
end L2
namespace L2
section
variable {X:Cx}{e:Expr}{es:List Expr}{te:TE}{t:TA}{pos:Pos}
end
section
variable {X:Cx}{pins:List (Addr×Obj)}{σ:St}{H:Hp}{s s':Shared}
end
section
variable {X:Cx}{CX:CXT}{k:Nat}{f C:Addr}{fd:FuncData}{ps:List Str}{sp:Sp}{dvs:List V}{ds:List aj}{E:XK}{x m:Str}{p pos apos:Pos}{e o:Expr}{es:List Expr}{ta:TE}{t:TA}
end
section
variable {X:Cx}{CX:CXT}{k:Nat}{f C:Addr}{fd:FuncData}{ps ks:List Str}{sp:Sp}{E:XK}{x m:Str}{p pos apos kpos:Pos}{e o:Expr}{es:List Expr}{kws:List mC}{te ta:TE}{t tk:TA}{nm:Option Str}
variable {g:List aj->List aj->List aj}{gV:List V->List V->List V}
end
end L2
namespace L2
section
variable {X:Cx}{x:Str}{p pos:Pos}{e:Expr}{es:List Expr}{t:TA}{id T:String}{r:List V->Hp->VK->Prop}
end
end L2
namespace L2
section
variable {κ:Type} [DecidableEq κ]
noncomputable def qh (kvs:List (κ×V)) (k:κ):Option V:=(kvs.find? λa=>decide (a.1=k)).map (·.2)
noncomputable def qQ (kvs:List (κ×V)) (k:κ) (v:V):List (κ×V) :=
 if (kvs.any λa=>decide (a.1=k))=true then kvs.map (λa=>if a.1=k then (a.1,v) else a) else kvs++[(k,v)]
theorem vD {k:κ}:qh ([]:List (κ×V)) k=none:=rfl
theorem xg {p:κ×V}{r:List (κ×V)}{k:κ}(e:p.1=k):qh (p::r) k=some p.2:=by simp [qh,eV,e]
theorem xm {p:κ×V}{r:List (κ×V)}{k:κ}(e:¬p.1=k):qh (p::r) k=qh r k:=by simp [qh,eV,e]
theorem yv (k:κ):∀kvs:List (κ×V),(kvs.any λj=>decide (j.1=k))=(qh kvs k).isSome
 | []=>rfl
 | p::r=>by
  rw [fP]
  by_cases e:p.1=k
  ·simp only [xg e,decide_eq_true e,Bool.true_or,Option.isSome_some]
  ·rw [xm e,decide_eq_false e,Bool.false_or];exact yv k r
theorem Xy (k j:κ) (y:V):∀kvs:List (κ×V),qh (kvs.map λG=>if G.1=k then (G.1,y) else G) j=(qh kvs j).map λx=>if j=k then y else x
 | []=>rfl
 | p::r=>by
  have a:=Xy k j y r
  rw [aS]
  by_cases h:p.1=k
  ·rw [if_pos h]
   by_cases e:p.1=j
   ·rw [xg (p:=(p.1,y)) e,xg e,l9,if_pos (e.symm.trans h)]
   ·rw [xm (p:=(p.1,y)) e,xm e,a]
  ·rw [if_neg h]
   by_cases e:p.1=j
   ·rw [xg (p:=p) e,xg e,l9,if_neg (λz=>h (e.trans z))]
   ·rw [xm (p:=p) e,xm e,a]
theorem Js (k j:κ) (y:V):∀kvs:List (κ×V),qh kvs k=none->qh (kvs++[(k,y)]) j=if j=k then some y else qh kvs j
 | [],_=>by
  by_cases e:k=j
  ·rw [if_pos e.symm];exact xg (p:=(k,y)) e
  ·rw [if_neg (λz=>e z.symm)];exact xm (p:=(k,y)) e
 | p::r,a=>by
  rw [List.cons_append]
  have b:¬p.1=k:=λz=>by rw [xg z] at a;cases a
  rw [xm b] at a
  have c:=Js k j y r a
  by_cases e:p.1=j
  ·rw [xg e,xg e,if_neg (λz=>b (e.trans z))]
  ·rw [xm e,xm e,c]
theorem VZ (kvs:List (κ×V)) (k j:κ) (y:V):qh (qQ kvs k y) j=if j=k then some y else qh kvs j:=by
 unfold qQ
 by_cases a:(kvs.any λb=>decide (b.1=k))=true
 ·rw [if_pos a,Xy]
  rw [yv] at a
  by_cases e:j=k
  ·obtain ⟨x,c⟩:=Option.isSome_iff_exists.mp a
   rw [if_pos e,e,c,l9,if_pos rfl]
  ·rw [if_neg e]
   cases qh kvs j with
   | none=>rfl
   | some x=>rw [l9,if_neg e]
 ·rw [if_neg a]
  refine Js k j y kvs ?_
  rw [yv] at a
  cases q:qh kvs k with
  | none=>rfl
  | some x=>rw [q] at a;exact (a rfl).elim
theorem y3 (kvs:List (κ×V)) (k:κ) (v:V):(qQ kvs k v).length<=kvs.length+1:=by
 unfold qQ
 split
 ·rw [ah];omega
 ·rw [ao,bf,lg];omega
theorem yD {k:κ}(v:V) (h:qh kvs k=none):qQ kvs k v=kvs++[(k,v)]:=by
 unfold qQ
 rw [yv,h]
 exact if_neg ⋯
theorem vh.isSome_eq (r:vh o u):o.isSome=u.isSome:=by
 cases o with
 | none=>cases u with
  | none=>rfl
  | some _=>exact (show False from r).elim
 | some _=>cases u with
  | none=>exact (show False from r).elim
  | some _=>rfl
theorem vh.getD (r:vh o u) (rd:jJ d d'):jJ (o.getD d) (u.getD d'):=by
 cases o with
 | none=>cases u with
  | none=>exact rd
  | some _=>exact (show False from r).elim
 | some _=>cases u with
  | none=>exact (show False from r).elim
  | some _=>exact r
theorem KV.val {kvs:List (κ×V)}(r:KV kvs vs) (k:κ):vh (qh kvs k) (oz vs k):=by
 unfold KV at r
 induction r with
 | nil=>exact de
 | @cons p q ps qs h t c =>
  obtain ⟨h1,h2⟩:=h
  by_cases e:p.1=k
  ·have a:q.1=k:=h1.symm.trans e
   have b:oz (q::qs) k=some q.2:=by simp [oz,eV,a]
   rw [xg e,b];exact h2
  ·have a:¬q.1=k:=λz=>e (h1.trans z)
   have b:oz (q::qs) k=oz qs k:=by simp [oz,eV,a]
   rw [xm e,b];exact c
theorem KV.any {kvs:List (κ×V)}{vs:List (κ×aj)}(r:KV kvs vs) (k:κ):(kvs.any λj=>decide (j.1=k))=vs.any λj=>decide (j.1=k):=by
 unfold KV at r
 induction r with
 | nil=>rfl
 | cons h t a=>rw [fP,fP,a,h.1]
theorem KV.repl {kvs:List (κ×V)}(r:KV kvs vs) (k:κ) (G:jJ y u) :
  KV (kvs.map λj=>if j.1=k then (j.1,y) else j) (vs.map λj=>if j.1=k then (j.1,u) else j):=by
 unfold KV at r ⊢
 induction r with
 | nil=>exact .nil
 | @cons p q ps qs h t a =>
  rw [aS,aS]
  refine .cons ?_ a
  obtain ⟨h1,h2⟩:=h
  by_cases e:p.1=k
  ·rw [if_pos e,if_pos (h1.symm.trans e)];exact ⟨h1,G⟩
  ·rw [if_neg e,if_neg (λz=>e (h1.trans z))];exact ⟨h1,h2⟩
theorem KV.put {kvs:List (κ×V)}(r:KV kvs vs) (k:κ) (j:jJ y u):KV (qQ kvs k y) (A3 vs k u):=by
 unfold qQ A3
 rw [r.any k]
 by_cases e:(vs.any λa=>decide (a.1=k))=true
 ·rw [if_pos e,if_pos e];exact r.repl k j
 ·rw [if_neg e,if_neg e];exact bV r ⟨rfl,j⟩
theorem KV.length {kvs:List (κ×V)}(r:KV kvs vs):kvs.length=vs.length:=aM r
end
theorem gf {k:Key}(r:jJ (kV k) u):(jz P w).is k u=true:=by
 cases k with
 | inl i=>obtain ⟨t,e⟩:=(show ∃t,u=ma i t from r);subst e;exact QY P w i t
 | inr x=>obtain ⟨t,e⟩:=(show ∃t,u=oq x t from r);subst e;exact XJ P w x t
theorem JI :∀{ks:List Key}{us:List aj},jH (ks.map kV) us->ItemsAre (jz P w) ks us
 | [],_,r=>by rw [fJ] at r;cases r;exact .nil
 | k::ks,_,r=>by
  rw [aS] at r
  cases r with
  | cons h t=>exact .cons (gf h) (JI t)
noncomputable abbrev KT (H:Hp):List (List Key×V)->List ↥88->Prop:=cU λp q=>p.1=q.1/\H q.2.1=some (.tup (p.1.map kV))/\jJ p.2 q.2.2
theorem KT.val {kvs:List (List Key×V)}{xs:List ↥88}(r:KT H kvs xs) (k:List Key):vh (qh kvs k) ((rg xs k).map (·.2)):=by
 induction r with
 | nil=>exact de
 | @cons p q ps qs h t c =>
  obtain ⟨h1,_,h2⟩:=h
  by_cases e:p.1=k
  ·have a:q.1=k:=h1.symm.trans e
   have b:rg (q::qs) k=some q.2:=by simp [rg,eV,a]
   rw [xg e,b];exact h2
  ·have a:¬q.1=k:=λz=>e (h1.trans z)
   have b:rg (q::qs) k=rg qs k:=by simp [rg,eV,a]
   rw [xm e,b];exact c
theorem KT.repl {kvs:List (List Key×V)}{xs:List ↥88}(r:KT H kvs xs) (k:List Key) (G:jJ y u) :
  KT H (kvs.map λj=>if j.1=k then (j.1,y) else j) (xs.map (putAt k u)):=by
 induction r with
 | nil=>exact .nil
 | @cons p q ps qs h t a =>
  rw [aS,aS]
  refine .cons ?_ a
  obtain ⟨h1,h2,b⟩:=h
  unfold putAt
  by_cases e:p.1=k
  ·rw [if_pos e,if_pos (h1.symm.trans e)];exact ⟨h1,h2,G⟩
  ·rw [if_neg e,if_neg (λz=>e (h1.trans z))];exact ⟨h1,h2,b⟩
theorem KT.put {kvs:List (List Key×V)}{xs:List ↥88}(r:KT H kvs xs) (k:List Key) {b:Addr}(z:H b=some (.tup (k.map kV))) (j:jJ y u) :
  KT H (qQ kvs k y) (A4 xs k b u):=by
 have e:(kvs.any λa=>decide (a.1=k))=(rg xs k).isSome:=by
  rw [yv,(r.val k).isSome_eq,rj]
 unfold qQ A4
 rw [e]
 by_cases q:(rg xs k).isSome=true
 ·rw [if_pos q,if_pos q];exact r.repl k j
 ·rw [if_neg q,if_neg q];exact bV r ⟨rfl,z,j⟩
theorem KT.keeps {H':Hp}{kvs:List (List Key×V)}{xs:List ↥88}(r:KT H kvs xs) (j:∀b ys,H b=some (.tup ys)->H' b=some (.tup ys)):KT H' kvs xs :=
 Paired.mapP r λ_ _ z=>⟨z.1,j _ _ z.2.1,z.2.2⟩
section
variable {P:Program}{w:bo}{H:Hp}{h:Heap}{a:Addr}
theorem Wt (ok:HOk P w H h) (e:Rd H a u):qu P w H h a u:=e.ok ok
theorem wB (ok:HOk P w H h) (e:Rd H a (.dK kvs)):kvs.length<=sizeLine/\(a == dq)=false/\∃vs,KV kvs vs/\h.DictOf (jz P w) a vs :=
 show qu P w H h a (.dK kvs) from Wt ok e
theorem U0 (ok:HOk P w H h) (e:H a=some (.dK kvs)):kvs.length<=sizeLine/\(a == dq)=false/\∃vs,KV kvs vs/\h.DictOf (jz P w) a vs:=wB ok (.inl e)
theorem uV {ks:List Key}(ok:HOk P w H h) (e:H a=some (.tup (ks.map kV))):(dm (jz P w)).is h ks a:=by
 obtain ⟨_,b,r,o,h1,h2,n,c⟩:=(show qu P w H h a (.tup (ks.map kV)) from ok a _ e)
 exact ⟨o,b.toArray,n,h1,h2,c,by simpa using JI r⟩
theorem JM (ok:HOk P w H h) (e:Rd H a (.dT kvs)):kvs.length<=sizeLine/\(a == dq)=false /\
  ∃xs,KT H kvs xs/\h.DictOfH (dm (jz P w)) a xs:=by
 obtain ⟨z,y,xs,r,o,es,i,h1,h2,g,f,d⟩:=(show qu P w H h a (.dT kvs) from Wt ok e)
 refine ⟨z,y,xs,r,o,es,i,h1,h2,g,f,λx hx=>?_,d⟩
 have all:∀{l:List (List Key×V)} {m:List ↥88},KT H l m->∀x∈m,(dm (jz P w)).is h x.1 x.2.1:=by
  intro l m q
  induction q with
  | nil=>intro x hx;exact nomatch hx
  | @cons p q ps qs b t c =>
   intro x hx
   rcases List.mem_cons.mp hx with e | hx
   ·subst e
    exact uV ok (by rw [<- b.1];exact b.2.1)
   ·exact c x hx
 exact all r x hx
theorem Ei (ok:HOk P w H h) (e:H a=some (.dT kvs)):kvs.length<=sizeLine/\(a == dq)=false /\
  ∃xs,KT H kvs xs/\h.DictOfH (dm (jz P w)) a xs:=JM ok (.inl e)
end
noncomputable def qU (H:Hp) (a:Addr) (y:V) (r:Option V):Prop :=
 (∃kvs k,Rd H a (.dK kvs)/\y=kV k/\r=qh kvs k)\/∃kvs k b,Rd H a (.dT kvs)/\y = .ref b/\H b=some (.tup (k.map kV))/\r=qh kvs k
noncomputable def ul (H:Hp) (a:Addr) (y v:V) (H':Hp):Prop :=
 (∃kvs k,H a=some (.dK kvs)/\y=kV k/\kvs.length<sizeLine/\H'=upd H a (.dK (qQ kvs k v))) \/
 ∃kvs k b,H a=some (.dT kvs)/\y = .ref b/\H b=some (.tup (k.map kV))/\kvs.length<sizeLine/\H'=upd H a (.dT (qQ kvs k v))
theorem qU.k {H:Hp}{kvs:List (Key×V)}{k:Key}(e:H a=some (.dK kvs)):qU H a (kV k) (qh kvs k):=.inl ⟨kvs,k,.inl e,rfl,rfl⟩
theorem qU.t {H:Hp}{b:Addr}{kvs:List (List Key×V)}{k:List Key}(e:H a=some (.dT kvs)) (j:H b=some (.tup (k.map kV))):qU H a (.ref b) (qh kvs k):=.inr ⟨kvs,k,b,.inl e,rfl,j,rfl⟩
theorem ul.k {H:Hp}{kvs:List (Key×V)}{k:Key}(e:H a=some (.dK kvs)) (j:kvs.length<sizeLine):ul H a (kV k) v (upd H a (.dK (qQ kvs k v))):=.inl ⟨kvs,k,e,rfl,j,rfl⟩
theorem ul.t {H:Hp}{b:Addr}{kvs:List (List Key×V)}{k:List Key}(e:H a=some (.dT kvs)) (z:H b=some (.tup (k.map kV))) (j:kvs.length<sizeLine) :
  ul H a (.ref b) v (upd H a (.dT (qQ kvs k v))):=.inr ⟨kvs,k,b,e,rfl,z,j,rfl⟩
section
variable {X:Cx}{pins:List (Addr×Obj)}{σ:St}{H:Hp}{s:Shared}{a:Addr}{y v:V}{u r:aj}{o:Option V}{A:bx}{E:aj->Shared->Prop}
theorem Inv.big (I:Inv X pins σ H s):dq<s.heap.objs.size:=by
 have h:mainGlobals<s.heap.objs.size:=(I.mod.glob.keeps I.bk).lt
 exact Nat.lt_trans ⋯ h
theorem YL {Q:aj->Shared->Prop}(U:A.units+1<cLine) (I:Inv X pins σ H s) (g:qU H a y (some v)) (G:jJ y u) (h:∀j s',Inv X pins σ H s'->jJ v j->Q j s') :
  ax ↥3 A (mD (.ref a) u) Q E s:=by
 rcases g with ⟨kvs,k,e,i,l⟩ | ⟨kvs,k,b,e,i,x,l⟩
 ·subst i
  obtain ⟨z,t,q,d,m⟩:=wB I.hok e
  obtain ⟨j,f,c⟩:=vh.some_of (v:=v) (o:=oz q k) (by rw [l];exact d.val k)
  exact wpAny_getItem_of (gf G) m.mapOf f (h j _ (I.tok _) c)
 ·subst i
  cases (show u=aU b from G)
  obtain ⟨z,t,xs,d,m⟩:=JM I.hok e
  obtain ⟨j,f,c⟩:=vh.some_of (v:=v) (o:=(rg xs k).map (·.2)) (by rw [l];exact d.val k)
  obtain ⟨p,r,n⟩:=Option.map_eq_some_iff.mp f
  refine wpAny_getItem_heap (eP U) (uV I.hok x) m r ?_
  rw [n]
  exact h j _ (I.tok _) c
theorem d_in {Q:aj->Shared->Prop}(G:A.units+1<cLine) (I:Inv X pins σ H s) (g:qU H a y o) (j:jJ y u) (h:∀s',Inv X pins σ H s'->Q (.bool o.isSome) s') :
  ax ↥3 A (cg .In u (.ref a)) Q E s:=by
 rcases g with ⟨kvs,k,e,f,l⟩ | ⟨kvs,k,b,e,f,m,l⟩
 ·subst f
  obtain ⟨z,d,n,c,i⟩:=wB I.hok e
  refine wpAny_in_of (gf j) d i.mapOf ?_
  rw [<- (c.val k).isSome_eq,<- l]
  exact h _ (I.tok _)
 ·subst f
  cases (show u=aU b from j)
  obtain ⟨z,d,xs,c,i⟩:=JM I.hok e
  refine wpAny_in_heap (eP G) (uV I.hok m) d i ?_
  have q:=(c.val k).isSome_eq
  rw [rj] at q
  rw [<- q,<- l]
  exact h _ (I.tok _)
theorem Qw {t':Nat}(I:Inv X pins σ H s) (G:Mut (H a)) (hs:eI a s.heap h') (U:∃q,h'.get? a=some q) (new:qu X.prog X.w (upd H a j) h' a j) :
  Inv X pins σ (upd H a j) { s with heap:=h',toks:=t' } :=
 I.write (x:=a) (e:=a) G (.inl rfl) (λb q c z=>(hs.2 b c).trans z) U new
theorem Ze {h':Heap}{kvs:List (Key×V)}(z:kvs.length<=sizeLine) (G:(a == dq)=false) (j:KV kvs vs) (dd:h'.DictOf (jz P w) a vs) :
  qu P w H' h' a (.dK kvs):=⟨z,G,vs,j,dd⟩
theorem Y4 {Q:Unit->Shared->Prop}(Y:A.units+1<cLine) (I:Inv X pins σ H s) (g:ul H a y v H') (G:jJ y u) (U:jJ v r) (h:∀s',Inv X pins σ H' s'->Q () s') :
  ax ↥3 A (setItem (.ref a) u r) Q E s:=by
 rcases g with ⟨kvs,k,e,p,l,t⟩ | ⟨kvs,k,b,e,p,C,l,t⟩
 ·subst p t
  obtain ⟨z,o,D,d,x⟩:=U0 I.hok e
  have j:D.length<=sizeLine:=by rw [<- d.length];exact z
  have n:(qQ kvs k v).length<=sizeLine:=by have:=y3 kvs k v;omega
  refine wpAny_setItem_pairs (hsz:=j) (gf G) x λh' f m=>h _ ?_
  have J:∃q,h'.get? a=some q:=let ⟨q,_,_,i,_⟩:=f;⟨q,i⟩
  exact Qw I (by rw [e];exact de) m J (Ze n o (d.put k U) f)
 ·subst p t
  cases (show u=aU b from G)
  obtain ⟨z,o,xs,d,x⟩:=Ei I.hok e
  have j:xs.length<=sizeLine:=by rw [<- aM d];exact z
  have n:(qQ kvs k v).length<=sizeLine:=by have:=y3 kvs k v;omega
  refine wpAny_setItem_heap (hsz:=j) (eP Y) (uV I.hok C) x λh' f m=>h _ ?_
  obtain ⟨q,es,N,i,h2,M,L,_,K⟩:=f
  refine Qw I (by rw [e];exact de) m ⟨q,i⟩ ⟨n,o,_,(d.put k C U).keeps λc ys B=>?_,q,es,N,i,h2,M,L,K⟩
  rw [j7 (jo B e ↥92)]
  exact B
end
section
variable {X:Cx}{pins:List (Addr×Obj)}{σ:St}{H:Hp}{s:Shared}{a:Addr}{kvs:List (Key×V)}{k:Key}{u:aj}{A:bx}{E:aj->Shared->Prop}
end
noncomputable def Ex (i:Expr):Prop:=∀a b,nJ i false a b=operate [a,b] (mD a b)
theorem Ux {prog:Program}{w:bo}{A:bx}{E:aj->Shared->Prop}{s:Shared}{env:Env}{value j:Expr}{pos:Pos}{T id:String}{Q:aj->Shared->Prop}
  (G:oV (.type T) "__getitem__" = pure (some (.builtin id))) (hs:Ex j)
  (h:ax (aD prog w) A (eval value env) (λo z=>ax (aD prog w) A (eval j env) (λi s₂=>s₂.TypeIs o T/\ax (aD prog w) A (mD o i) Q E s₂) E z) E s) :
  ax (aD prog w) A (eval (.Subscript value j pos) env) Q E s:=by
 refine mE (aZ h (λo z f=>aZ f (λi s₂ b=>?_) λ_ _ x=>x) λ_ _ x=>x)
 obtain ⟨d,b⟩:=b
 unfold iM
 refine aa ?_
 rw [getitemInPython_of_ne d.not_modules]
 refine aa (sM d G ?_)
 have a:ax (aD prog w) A (nJ j false o i) (λr c=>ax (aD prog w) A (letTemporaryGo value o r >>= λ_=>pure r) Q E c) E s₂:=by
  rw [hs o i]
  exact wpAny_operating (aZ b (λr c e=>aa (wpAny_letTemporaryGo (wpAny_pure e))) λ_ _ x=>x)
 first
  | exact wpAny_pure (aa a)
  | exact aa (wpAny_pure (aa a))
  | exact aa a
theorem QW (I:Inv X pins σ H s) (g:qU H a y o):s.TypeIs (.ref a) "dict":=by
 rcases g with ⟨kvs,k,e,_,_⟩ | ⟨kvs,k,b,e,_,_,_⟩
 ·obtain ⟨_,_,d,_,c⟩:=wB I.hok e
  exact c.typeIs
 ·obtain ⟨_,_,xs,_,c⟩:=JM I.hok e
  exact c.typeIs
inductive tDGetI (Q:VK) (x:V) (y:V) (H2:Hp):Prop
 | mk (a:_) (v:_) (_:x = .ref a) (_:qU H2 a y (some v)) (_:Q v H2)
noncomputable def Wu (td ty:TE):TE:=λσ H Q=>td σ H λx H1=>ty σ H1 λy H2=>tDGetI Q x y H2
inductive tDInI (Q:VK) (y:V) (x:V) (H2:Hp):Prop
 | mk (a:_) (o:_) (_:x = .ref a) (_:qU H2 a y o) (_:Q (.bl o.isSome) H2)
noncomputable def tDIn (ty td:TE):TE:=λσ H Q=>ty σ H λy H1=>td σ H1 λx H2=>tDInI Q y x H2
inductive sDPutI (D:Ends) (σ:St) (v:V) (x:V) (y:V) (H3:Hp):Prop
 | mk (a:_) (H4:_) (_:x = .ref a) (_:ul H3 a y v H4) (_:D.nx σ H4)
noncomputable def GQ (td ty tv:TE):TS:=λD σ H=>tv σ H λv H1=>td σ H1 λx H2=>ty σ H2 λy a=>sDPutI D σ v x y a
section
variable {X:Cx}{o i e value:Expr}{pos pos' tpos:Pos}{td ty tv:TE}
theorem jF (z:X.A.units+1<cLine) (G:PE X o td) (hi:PE X i ty) (hs:Ex i):PE X (.Subscript o i pos) (Wu td ty):=by
 intro pins s σ H Q I h
 refine Ux PySem.F.slot_dict_getitem.lookup hs (thn (G pins s σ H _ I h) λu s1 ⟨x,H1,l,e,j⟩=>thn (hi pins s1 σ H1 _ l j) λq p ⟨y,H2,c,d,a,v,ex,g,f⟩=>?_)
 subst ex
 obtain rfl:u=aU a:=e
 exact ⟨QW c g,YL z c g d λm n k b=>⟨v,H2,k,b,f⟩⟩
theorem Vp (j:X.A.units+1<cLine) (hi:PE X i ty) (z:PE X o td):PC X .In i o (tDIn ty td):=by
 intro pins s σ H Q I h
 refine thn (hi pins s σ H _ I h) λq s1 ⟨y,H1,m,b,e⟩=>thn (z pins s1 σ H1 _ m e) λu p ⟨x,H2,l,c,a,f,ex,g,d⟩=>?_
 subst ex
 obtain rfl:u=aU a:=c
 exact d_in j l g b λn k=>⟨.bl f.isSome,H2,k,rfl,d⟩
theorem zN (G:X.A.units+1<cLine) (U:PE X o td) (hi:PE X i ty) (z:PE X value tv) (hs:lA value (some (.Subscript o i pos')) pos.line X.env=pure false) :
  PS X (.Assign [.Subscript o i pos'] value pos) (GQ td ty tv):=by
 intro pins s σ H D I h
 refine wpAny_Assign_Subscript (thn ↥112 λr s1 ⟨v,H1,p,e,k⟩=>thn (U pins s1 σ H1 _ p k) λu b ⟨x,H2,n,d,j⟩=>thn (hi pins b σ H2 _ n j) λB w ⟨y,C,m,c,a,q,ex,g,f⟩=>?_) hs
 subst ex
 obtain rfl:u=aU a:=d
 exact Y4 G m g c e λt l=>⟨σ,q,l,f⟩
end
theorem XI (h:Heap) (j:dq<h.objs.size):qu P w H (h.push { cls:=.type "dict",data:=.dict #[] }) h.objs.size (.dK []) :=
 ⟨aG _,beq_eq_false_iff_ne.mpr (cx (aB j)),[],.nil,mW h⟩
theorem VN (h:Heap) (j:dq<h.objs.size):qu P w H (h.push { cls:=.type "dict",data:=.dict #[] }) h.objs.size (.dT []) :=
 ⟨aG _,beq_eq_false_iff_ne.mpr (cx (aB j)),[],.nil,_,#[],0,az _ rfl,⟨rfl,rfl,rfl⟩,rfl,rfl,fC⟩
noncomputable def GD:TE:=λ_ H Q=>∀p,H p=none->Q (.ref p) (upd H p (.dK []))
noncomputable def Gq:TE:=λ_ H Q=>∀p,H p=none->Q (.ref p) (upd H p (.dT []))
section
variable {X:Cx}{pos:Pos}
theorem yC:PE X (.Dict [] [] pos) GD:=λpins s σ H Q I h =>
 rX ⟨.ref s.heap.objs.size,_,I.laid (a:=s.heap.objs.size) (o:=.dK []) (t':=s.toks) (λ_ _ q=>ai _ q) (ar _) (XI s.heap I.big),rfl,h _ (I.hok.fresh (ar _))⟩
theorem Vc:PE X (.Dict [] [] pos) Gq:=λpins s σ H Q I h =>
 rX ⟨.ref s.heap.objs.size,_,I.laid (a:=s.heap.objs.size) (o:=.dT []) (t':=s.toks) (λ_ _ q=>ai _ q) (ar _) (VN s.heap I.big),rfl,h _ (I.hok.fresh (ar _))⟩
end
noncomputable def Zs:List (TE×TE)->St->Hp->(List (V×V)->Hp->Prop)->Prop
 | [],_,H,Q=>Q [] H
 | (tk,tv)::r,σ,H,Q=>tk σ H λx H1=>tv σ H1 λy H2=>Zs r σ H2 λps a=>Q ((x,y)::ps) a
noncomputable abbrev VV:List (V×V)->List (aj×aj)->Prop:=cU λp q=>jJ p.1 q.1/\jJ p.2 q.2
noncomputable def PPs (X:Cx) (pos:Pos) (keys:List (Option Expr)) (j:List Expr) (z:List (TE×TE)):Prop :=
 ∀(pins:List (Addr×Obj)) (s:Shared) (σ:St) (H:Hp) (Q:List (V×V)->Hp->Prop),Inv X pins σ H s->Zs z σ H Q ->
  ax ↥3 X.A (evalPairs (pairTrees keys j X.env pos)) (λa s'=>∃ps H',Inv X pins σ H' s'/\VV ps a/\Q ps H') X.xe s
theorem Ur {pos:Pos}:PPs X pos [] [] []:=λpins s σ H Q I h=>pairTrees_nil_walk ⟨[],H,I,.nil,h⟩
theorem kL {pos:Pos}{k:Expr}(U:PE X k tk) (z:PE X v tv) (G:PPs X pos ks vs j) :
  PPs X pos (some k::ks) (v::vs) ((tk,tv)::j):=λpins s σ H Q I h =>
 pairTrees_cons_walk (thn (U pins s σ H _ I h) λu s1 ⟨x,H1,m,d,g⟩=>thn (z pins s1 σ H1 _ m g) λo b ⟨y,H2,l,c,f⟩ =>
  thn (G pins b σ H2 _ l f) λws p ⟨ps,n,i,a,e⟩=>⟨(x,y)::ps,n,i,.cons ⟨d,c⟩ a,e⟩)
noncomputable def xy (kvs j:List (Key×V)):List (Key×V):=j.foldl (λacc a=>qQ acc a.1 a.2) kvs
theorem KV.merge:∀{j:List (Key×V)}{rs:List (Key×aj)}{kvs:List (Key×V)}{vs:List (Key×aj)},KV j rs->KV kvs vs->KV (xy kvs j) (merged vs rs):=by
 intro j rs kvs vs r
 unfold KV at r
 induction r generalizing kvs vs with
 | nil=>intro q;exact q
 | @cons p q ps qs h t b =>
  intro a
  have e:KV (qQ kvs p.1 p.2) (A3 vs q.1 q.2):=by
   have:=a.put p.1 h.2
   rw [<- h.1];exact this
  exact b e
theorem yk:∀(j kvs:List (Key×V)),(xy kvs j).length<=kvs.length+j.length
 | [],kvs=>by show kvs.length<=kvs.length+0;omega
 | p::r,kvs=>by
  have h1:=yk r (qQ kvs p.1 p.2)
  have h2:=y3 kvs p.1 p.2
  show (xy (qQ kvs p.1 p.2) r).length<=_
  rw [bf];omega
theorem kK :∀{kvs:List (Key×V)}{ws:List (aj×aj)},VV (kvs.map λj=>(kV j.1,j.2)) ws->∃rs,Carries (jz P w) ws rs/\KV kvs rs
 | [],_,r=>by rw [fJ] at r;cases r;exact ⟨[],de,.nil⟩
 | p::kvs,_,r=>by
  rw [aS] at r
  cases r with
  | @cons a b f bs h t =>
   obtain ⟨rs,c,q⟩:=kK (P:=P) (w:=w) t
   obtain ⟨e,d⟩:=b
   exact ⟨(p.1,d)::rs,⟨gf h.1,rfl,c⟩,.cons ⟨rfl,h.2⟩ q⟩
noncomputable def EF (j:List (TE×TE)):TE:=λσ H Q=>∀p,H p=none->Zs j σ (upd H p (.dK [])) λps H2=>H2 p=some (.dK [])/\∃kvs:List (Key×V),ps=kvs.map (λa=>(kV a.1,a.2))/\kvs.length<=15/\Q (.ref p) (upd H2 p (.dK (xy [] kvs)))
theorem UF {pos:Pos}{keys:List (Option Expr)}(h:PPs X pos keys j U) (G:keys.all (·.isSome)=true) (hl:keys.length=j.length) (h0:keys≠[])
  (Y:keys.length<=15):PE X (.Dict keys j pos) (EF U):=by
 intro pins s σ H Q I q
 have p:=I.hok.fresh (ar s.heap.objs.size)
 have x:=I.laid (a:=s.heap.objs.size) (o:=.dK []) (h':=s.heap.push { cls:=.type "dict",data:=.dict #[] }) (t':=s.toks) (λ_ _ q=>ai _ q) (ar _) (XI s.heap I.big)
 refine wpAny_Dict_walk (knd:=jz X.prog X.w) G hl h0 Y (thn (h pins _ σ _ _ x (q _ p)) λws A ⟨ps,H2,f,d,e,kvs,u,B,k⟩=>?_)
 subst u
 obtain ⟨rs,c,g⟩:=kK (P:=X.prog) (w:=X.w) d
 obtain ⟨z,t,y,i,v⟩:=U0 f.hok e
 cases i
 refine ⟨rs,c,v,λh' b m=>⟨.ref s.heap.objs.size,_,?_,rfl,k⟩⟩
 have l:(xy [] kvs).length<=sizeLine:=by
  have h1:=yk kvs []
  rw [lg] at h1
  rw [bD];omega
 have r:∃q,h'.get? s.heap.objs.size=some q:=let ⟨q,_,_,n,_⟩:=b;⟨q,n⟩
 exact Qw f (by rw [e];exact de) m r (Ze l t (g.merge .nil) b)
structure M2 (X:Cx) (o:Expr) (m:Str) (apos:Pos) (e f:Expr) (cpos:Pos):Prop where
 base:dP o m X.env (eval o X.env)=eval o X.env
 few:((cM cpos (aR [e,f] X.env)).all (λx=>!x.1) && (lF cpos (fk [] X.env)).all (λx=>x.1.isSome)
  && decide (([e,f]:List Expr).length+([]:List mC).length+(if ([]:List mC).isEmpty then 0 else 1)<30))=true
 line: ↥144=true
 trees:cM cpos (aR [e,f] X.env)=[↥40,(false,eval f X.env)]
noncomputable def IsD (H:Hp) (a:Addr):Prop:=(∃kvs,Rd H a (.dK kvs))\/∃kvs,Rd H a (.dT kvs)
theorem WG (I:Inv X pins σ H s) (d:IsD H a) :
  s.TypeIs (.ref a) "dict" /\ (∀b,aU a = .ref b->∃j,s.heap.get? b=some j/\j.dict=none)/\(a == dq)=false:=by
 rcases d with ⟨kvs,e⟩ | ⟨kvs,e⟩
 ·obtain ⟨_,f,g,_,c⟩:=wB I.hok e
  refine ⟨c.typeIs,λb q=>?_,f⟩
  cases q
  obtain ⟨j,_,_,h1,h2,_⟩:=c
  exact ⟨j,h1,h2.2.1⟩
 ·obtain ⟨_,f,xs,_,c⟩:=JM I.hok e
  refine ⟨c.typeIs,λb q=>?_,f⟩
  cases q
  obtain ⟨j,_,_,h1,h2,_⟩:=c
  exact ⟨j,h1,h2.2.1⟩
section
variable {X:Cx}{pins:List (Addr×Obj)}{σ:St}{H:Hp}{s:Shared}{a:Addr}{y d:V}{u r:aj}{o:Option V}{A:bx}{E:aj->Shared->Prop}
theorem Gn {Q:aj->Shared->Prop}(Y:A.units+1<cLine) (I:Inv X pins σ H s) (g:qU H a y o) (U:jJ y u) (rd:jJ d r) (h:∀G s',Inv X pins σ H s'->jJ (o.getD d) G->Q G s') :
  ax ↥3 A (call (.builtin "dict.get") [.ref a,u,r]) Q E s:=by
 rcases g with ⟨kvs,k,e,j,l⟩ | ⟨kvs,k,b,e,j,m,l⟩
 ·subst j
  obtain ⟨z,i,n,c,f⟩:=wB I.hok e
  refine call_meetsIn iE f.typeIs mL (mw _ _ _) (meets_dict_get_default (jz X.prog X.w) a (gf U) i r) ⟨_,f.mapOf,h _ _ (I.tok _) ?_⟩
  rw [l]
  exact (c.val k).getD rd
 ·subst j
  cases (show u=aU b from U)
  obtain ⟨z,i,xs,c,f⟩:=JM I.hok e
  refine call_meetsIn iE f.typeIs mL (mw _ _ _) (meetsH_dict_get_default (dm (jz X.prog X.w)) a b i r) ⟨eP Y,k,xs,uV I.hok m,f,h _ _ (I.tok _) ?_⟩
  rw [l]
  exact (c.val k).getD rd
end
noncomputable def Wx (td ty tx:TE):TE:=λσ H Q=>td σ H λx H1=>∃a,x = .ref a/\IsD H1 a/\ty σ H1 λy H2=>tx σ H2 λz b=>∃o,qU b a y o/\Q (o.getD z) b
section
variable {X:Cx}{o e f:Expr}{apos cpos:Pos}{td ty tx:TE}
theorem kQ (G:X.A.units+1<cLine) (U:PE X o td) (he:PE X e ty) (Y:PE X f tx) (m:M2 X o "get" apos e f cpos):PE X (.Call (.Attribute o "get" apos) [e,f] [] cpos) (Wx td ty tx):=by
 intro pins s σ H Q I h
 refine wpAny_Call_method m.base m.few m.line PySem.F.plainAttrs_dict iE PySem.F.type_dict_get (thn (U pins s σ H _ I h) λu s1 ⟨x,H1,c,p,a,ex,d,t⟩=>?_)
 subst ex
 obtain rfl:u=aU a:=p
 obtain ⟨j,i,_⟩:=WG c d
 refine ⟨j,i,?_⟩
 rw [m.trees]
 refine ia rfl (iQ (lH (thn (he pins s1 σ H1 _ c t) λL k ⟨y,H2,B,n,r⟩ =>
  lH (thn (Y pins k σ H2 _ B r) λM J ⟨z,C,w,l,K,g,q⟩=>pM ?_))))
 exact Gn G w g n l λD E v b=>⟨_,C,v,b,q⟩
end
section
variable {X:Cx}{pins:List (Addr×Obj)}{σ:St}{H:Hp}{s:Shared}{a:Addr}{kvs:List (Key×V)}{A:bx}{E:aj->Shared->Prop}
end
section
variable {X:Cx}{pins:List (Addr×Obj)}{σ:St}{H:Hp}{s:Shared}{a:Addr}{y:V}{u:aj}{A:bx}{E:aj->Shared->Prop}
end
end L2
namespace Att
open PySem PySem.W PySem.Calls PyProof.Rows
section
variable {prog:Program}{w:bo}{A:bx}{E:aj->Shared->Prop}{s:Shared}{K:Frag}
end
end Att
namespace L2
end L2
namespace L2
end L2
namespace L2
section
variable {P:Program}{w:bo}{K:ag}{mg:Str->Option aj}{base:Heap}
end
section
variable {X:Cx}
end
section
variable {κ:Type} [DecidableEq κ]
theorem k9:∀{l:List κ}{k:κ},l.Nodup->¬k∈l->(l++[k]).Nodup
 | [],k,_,_=>by simp
 | a::r,k,h,b=>by
  obtain ⟨h1,h2⟩:=List.nodup_cons.mp h
  show (a::(r++[k])).Nodup
  refine List.nodup_cons.mpr ⟨λm=>?_,k9 h2 λm=>b (List.mem_cons.mpr (dQ m))⟩
  rcases List.mem_append.mp m with q | q
  ·exact h1 q
  ·exact b (List.mem_cons.mpr (aO (List.mem_singleton.mp q).symm))
end
end L2
end
section
namespace L2
open PySem.W
section
variable {prog:Program}{w:bo}{A:bx}{E:aj->Shared->Prop}{s:Shared}
theorem QL {its:List aj}{κ:t8}{lt:Nat->Nat->Bool}{G:List Nat->Prop}{Q:aj->Shared->Prop}(ab:its.length<64)
  (hk:2<=its.length->∀h',↥20->∀Y:t8->Shared->Prop,Y κ { s with heap:=h' }->ax (aD prog w) A.in1.in1 (keyKind' its.toArray) Y (λ_ _=>False) { s with heap:=h' })
  (hc:∀h',↥20->∀i j,i<its.length->j<its.length->∀Y:Bool->Shared->Prop,Y (lt i j) { s with heap:=h' } ->
   ax (aD prog w) A.in1.in1 (keyLt' κ (its.getD i aX) (its.getD j aX)) Y (λ_ _=>False) { s with heap:=h' })
  (hs:2<=its.length->xu lt its.length (Ab its.length) λp=>qE its.length p/\G p.toList) (h1:its.length<2->G (aJ its.length))
  (h:∀(U:List Nat) (h':Heap) (n:Nat),U.Perm (aJ its.length)->G U->↥20 ->
   h'.get? (s.heap.objs.size)=some (bB "list" (U.map λi=>its.getD i aX).toArray n)->Q (.ref (s.heap.objs.size)) { s with heap:=h' }) :
  ax (aD prog w) A.in1 (pV its >>= λl=>dN [l] (call (.builtin "list.sort") [l] []) >>= λ_=>ret l) (λz s'=>∃v,z = .done (.ret v)/\Q v s') E s:=by
 refine aa (fS ?_ (by rw [bD];omega))
 have f:(s.heap.push ↥25).get? (s.heap.objs.size)=some ↥25:=az _ rfl
 have keep:∀b o,s.heap.get? b=some o->(s.heap.push ↥25).get? b=some o:=λb o q=>by
  exact ai _ q
 show ax _ _ _ _ _ { s with heap:=s.heap.push ↥25 }
 refine aa (bA (cI nN ⟨_,f,rfl⟩ mT ?body (tj _)))
 case body =>
  generalize ac:s.heap.push ↥25=k at f keep
  generalize T:s.heap.objs.size=a at f h
  have t:∀b o,s.heap.get? b=some o->b≠a:=λb o q=>by have:=av q;rw [<- T];exact aB this
  show ax (aD prog w) A.in1.in1 (eM.«list.sort» ⟨[.ref a],[]⟩) _ _ { s with heap:=k }
  rw [sI]
  have y:a<k.objs.size:=av f
  refine aa (mJ f rfl ?_)
  refine aa (cZ f rfl ?_ (by rw [aw,bD];omega) (aG _))
  obtain ⟨K,u⟩:∃K,(k.update a ↥50).get? a=some (bB "list" #[] K):=⟨_,eS f (λ_=>#[])⟩
  refine aa (ft u rfl ?_)
  refine aa (lJ ?_ (by show its.length<=_;rw [bD];omega))
  refine aa (fS ?_ (aG _))
  refine bA ?_
  have d:((↥12).push ↥116).get? a=some (bB "list" #[] K):=by
   rw [cP _ _ _ (by rw [pe,dZ];exact aB (cf y)),cP _ _ _ (by rw [dZ];exact aB y)]
   exact u
  have c:∀b o,s.heap.get? b=some o->((↥12).push ↥116).get? b=some o:=λb o q =>
   ai _ (ai _ ((c8 _ _ _ _ (t b o q)).trans (keep b o q)))
  show ax (aD prog w) A.in1.in1 _ _ _ { s with heap:=(↥12).push ↥116 }
  generalize (↥12).push ↥116=g at d c
  dsimp only
  have z:∀(U:List Nat),U.Perm (aJ its.length)->G U->∀r:Array aj,r=(U.map λi=>its.getD i aX).toArray ->
    ∃v,tm (Flow.ret aX) = .done (.ret v)/\ax (aD prog w) A.in1 (do let _ <- pure v;ret (aU a)) (λz s'=>∃v,z = .done (.ret v)/\Q v s') E { s with heap:=g.update a (b8 λ_=>r) }:=λU D R r L=>by
   refine ⟨_,rfl,aa (wpAny_pure (wpAny_pure ⟨_,rfl,?_⟩))⟩
   subst L
   exact h U _ _ D R (λb o q=>(c8 _ _ _ _ (t b o q)).trans (c b o q)) (eS d λ_=>_)
  by_cases h2:its.toArray.size<2
  ·rw [if_pos h2,if_pos h2]
   refine aa ↥47
   rw [mU]
   refine aa ↥47
   dsimp only
   refine aa (ft d rfl ?_)
   rw [uo]
   refine aa (cZ d rfl ?_ (aG _) (by rw [aw,bD];omega))
   simp only [bne_self_eq_false,ck,if_false]
   rw [aw] at h2
   exact wpAny_pure (z _ (nO _) (h1 h2) _ (by rw [ui]))
  ·rw [if_neg h2,if_neg h2]
   rw [aw] at h2
   refine aa (aZ (hk ∅ g c (λB s'=>B=κ/\s'={ s with heap:=g }) ⟨rfl,rfl⟩) (λB s' q=>?_) λ_ _ x=>x.elim)
   obtain ⟨rfl,rfl⟩:=q
   refine aa (aZ (kat_run (ks:=its) (vs:=its) (κ:=B) (G:=λp s'=>(qE its.length p/\G p.toList)/\s'={ s with heap:=g }) (Q:=λm s'=>∃p:Array Nat,arrOf m=p.map (Ac (its.toArray.zip its.toArray))/\tu m=none/\(qE its.length p/\G p.toList)/\s'={ s with heap:=g })
    rfl ∅ ab (λp m s' a1 a2 a3 Z=>⟨p,a2,a3,Z⟩) (xu.wp (I:=λs'=>s'={ s with heap:=g }) (λi j C s' hi P J X=>?_) (λp s' D J=>⟨D,J⟩) (hs ∅) rfl)) ?_ λ_ _ e=>e)
   ·subst J
    exact hc g c i j hi P C (X _ rfl)
   ·rintro ⟨⟨⟩,m⟩ s' ⟨p,M,S,⟨N,V⟩,rfl⟩
    dsimp only
    have H:=Ad (ks:=its) (vs:=its) rfl M
    have O:(pY (p.toList.map λi=>its.getD i aX)).size=its.length:=by rw [aw,ah,cS,N.size]
    rw [H]
    refine aa (ft d rfl ?_)
    refine aa (cZ d rfl ?_ (aG _) (by rw [O,bD];omega))
    rw [S]
    simp only [bne_self_eq_false,ck,if_false]
    exact wpAny_pure (z p.toList (by have:=Array.perm_iff_toList_perm.mp N;simpa using this) V _ rfl)
theorem ZG {v:aj}{Q:aj->Shared->Prop}(j:ax (aD prog w) A.in1 (collect v) (λits s1=>ax (aD prog w) A.in1 (pV its >>= λl=>dN [l] (call (.builtin "list.sort") [l] []) >>= λ_=>ret l) (λz s'=>∃v,z = .done (.ret v)/\Q v s') E s1) E s) :
  ax (aD prog w) A (call (.builtin "sorted") [v]) Q E s:=by
 refine lN sG pW pX (args_sorted1 _) ?_
 unfold eM.«sorted»
 refine aa (m:=t9 "sorted" 1 1 _) ↥47
 exact aa j
end
section
variable {X:Cx}
theorem Inv.laidN {s:Shared}{h':Heap}{a:Addr}{t':Nat}(I:Inv X pins σ H s) (k:∀b u,s.heap.get? b=some u->h'.get? b=some u) (j:s.heap.get? a=none) (new:H a=none->qu X.prog X.w (upd H a o) h' a o):H a=none/\Inv X pins σ (upd H a o) { s with heap:=h',toks:=t' }:=by
 have d:H a=none:=by
  cases q:H a with
  | none=>rfl
  | some u =>
   obtain ⟨g,e⟩:=gg (I.hok a u q)
   rw [j] at e
   cases e
 have ne:∀{b u},s.heap.get? b=some u->b≠a:=λe z=>by rw [z,j] at e;cases e
 refine ⟨d,I.un ⟨λb u q _ _ _=>k b u q,λb u q _ _ _=>⟨u.slots,k b u q⟩,λb u q n _=>by rw [j7 (ne q)];exact n,λb u q _=>⟨u,k b u q⟩,λb xs q=>by rw [j7 (j1 q d)];exact q,λb u xs q=>by rw [j7 (j1 q d)];exact q,λb ps q=>⟨#[],by rw [j7 (j1 q d),q];simp⟩⟩ λb u e=>?_⟩
 by_cases f:b=a
 ·subst f;rw [j6] at e;cases e;exact new d
 ·rw [j7 f] at e
  exact (I.hok b u e).stay (λc v _ q=>k c v q) (λc q=>by rw [j7 (j1 q d)];exact q) λc xs q=>by rw [j7 (j1 q d)];exact q
theorem JU (K:ag) (an:X.calm=true) (hK:X.K=K:=by rfl):xl X (.builtin "sorted") (λxs H Q=>∃(p:Addr) (kvs:List (Key×V)) (ns:List Int),xs=[.ref p]/\H p=some (.dK kvs)/\kvs.map (·.1)=ns.map eG/\ns.length<64 /\
  ∀(l:Addr) H' (U:List Int),H l=none->H' l=some (.lst (U.map V.int))->jm H H'->U.Perm ns->U.Pairwise (· <= ·)->Q (.ref l) H'):=by
 subst hK
 intro pins s σ H xs us Q I r h
 obtain ⟨p,kvs,ns,rfl,ac,D,as,k⟩:=h
 obtain ⟨u,rfl,ru⟩:=vv r
 cases ru
 obtain ⟨hz,lo,A,P,dd⟩:=U0 I.hok ac
 obtain ⟨ep,ap⟩:=dd.dictAt
 have Z:A.length=ns.length:=by
  have f:kvs.length=A.length:=aM P
  have g:=congrArg fm D
  rw [ah,ah] at g
  omega
 refine ZG (kdu_collect (kdl_dict (knd:=jz X.prog X.w) (kvs:=A) (ep:=ep) lo) (I.ok.hd an) ap (fF (jj ∅)) λh1 tk acc E y=>?_)
 have O:acc.toList.length=ns.length:=by rw [cS,y.1,Z]
 have item:∀i,i<acc.toList.length->∃t,acc.toList.getD i aX = .int (ns.getD i 0) t:=λi hi=>by
  have N:i<acc.size:=by rw [cS] at hi;exact hi
  obtain ⟨key,x,hx,am⟩:=y.2 i acc[i] (lO N)
  have M:i<kvs.length:=by
   have f:kvs.length=A.length:=aM P
   omega
  obtain ⟨q,hq,f,_⟩:=Paired.get P (af M)
  rw [hx] at hq
  cases hq
  have g:(kvs.map (·.1))[i]? = some key:=by rw [ay,af M];exact congrArg some f
  have L:i<ns.length:=∅
  rw [D,ay,af L] at g
  cases g
  obtain ⟨t,et⟩:=lQ am
  refine ⟨t,?_⟩
  rw [aq,nj,lO N,et,aq,af L]
  rfl
 generalize acc.toList=c at O item
 refine QL (s:={ s with heap:=h1,toks:=tk }) (κ:=oneType') (lt:=ltK Um λi=>ns.getD i 0) (G:=λd=>(d.map λi=>ns.getD i 0).Pairwise Um.kle) ∅ (λh2 h' m Q' q=>?_) (λh' m i j hi Y Q' q=>?_) (λh2=>?_) (λh1=>?_) λd h' n B hg m hn=>?_
 ·refine kas_kind (T:=.type "int") h2 (λv S=>?_) rfl rfl q
  obtain ⟨i,hi,rfl⟩:=List.mem_iff_getElem.mp S
  obtain ⟨t,f⟩:=item i hi
  have e3:c[i] = .int (ns.getD i 0) t:=by rw [<- f];simp [hi]
  rw [e3]
  exact tT rfl
 ·obtain ⟨t,f⟩:=item i hi
  obtain ⟨u,g⟩:=item j Y
  rw [f,g]
  exact kat_lt_int q
 ·exact km ∅ λp' hP hS=>⟨hP,hS.pairwise hP.size⟩
 ·have C:c.length=0\/c.length=1:=∅
  rcases C with z | z
  ·rw [z];exact ib
  ·rw [z];exact i0 _ _
 ·have al:s.heap.get? h1.objs.size=none:=by
   cases q:s.heap.get? h1.objs.size with
   | none=>rfl
   | some u=>exact absurd (av (E _ _ q)) (cK _)
  have S:jH ↥133 (d.map λi=>c.getD i aX):=by
   have hb:∀i∈d,i<c.length:=λi hi=>by have:=B.mem_iff.mp hi;simpa using this
   clear B hg hn
   induction d with
   | nil=>exact .nil
   | cons i d ih =>
    obtain ⟨t,e⟩:=item i (hb i aK)
    exact .cons ⟨t,e⟩ (ih λj Y=>hb j (aH _ Y))
  have ae:((aJ c.length).map λi=>ns.getD i 0)=ns:=by
   apply mn
   ·simp [O]
   ·intro i h1 h2
    simp [h2]
  have ab: (↥133).length<=sizeLine:=by
   rw [ah,ah,B.length_eq,bz]
   exact aI (by omega:c.length<=1000) ⋯
  obtain ⟨hf,J⟩:=Inv.laidN (o:=.lst ↥133) (t':=tk) I (λb o e=>m b o (E b o e)) al λ_=>⟨ab,_,n,S,hn⟩
  refine ⟨.ref _,upd H h1.objs.size (.lst ↥133),J,rfl,k _ _ _ hf j6 (jm.new hf) ?_ ?_⟩
  ·have:=B.map λi=>ns.getD i 0
   rw [ae] at this
   exact this
  ·exact List.Pairwise.imp (R:=Um.kle) (λ{a b} z=>VQ z) hg
end
end L2
end
section
namespace L2
open PySem.W
theorem Inv.freeze {X:Cx}{s:Shared}{kvs:List (Key×V)}(I:Inv X pins σ H s) (e:H a=some (.dK kvs)) (j:s.heap.get? a=some o):Inv X pins σ (upd H a ↥95) s:=by
 refine I.un (t':=s.toks) ⟨λb u q _ _ _=>q,λb u q _ _ _=>⟨u.slots,q⟩,λb u q n _=>?_,λb u q _=>⟨u,q⟩,λb xs q=>?_,λb u xs q=>?_,λb ps q=>⟨#[],?_⟩⟩ λb u q=>?_
 ·rw [j7 (λz=>by rw [z,e] at n;cases n)];exact n
 ·rw [j7 (jo q e ↥44)];exact q
 ·rw [j7 (jo q e ↥44)];exact q
 ·rw [j7 (jo q e ↥44),q];simp
 ·by_cases d:b=a
  ·subst d
   rw [j6] at q
   cases q
   exact ⟨j,I.hok _ _ e⟩
  ·rw [j7 d] at q
   exact (I.hok b u q).stay (λc v _ q=>q) (λc q=>by rw [j7 (jo q e ↥44)];exact q) λc xs q=>by rw [j7 (jo q e ↥44)];exact q
noncomputable def Itd (a:Addr) (o:Obj) (kvs:List (Key×V)):It :=
 ⟨λi H=>H a=some ↥95/\i<kvs.length,λi H x H'=>H'=H/\∃q,kvs[i]? = some q/\x=kV q.1,λi H=>H a=some ↥95/\kvs.length<=i⟩
theorem relK {k:Key}(h:(jz P w).is k v=true):jJ (kV k) v:=by
 cases k with
 | inl i=>exact lQ h
 | inr x=>exact oA h
theorem YY {K:ag}{a it:Addr}{vs:List (Key×aj)}{ep:Nat}(kv:KV kvs vs) (HD:∀h:Heap,h.get? a=some o->h.DictAt (jz P w) a vs ep):Turn P w K tg (Itd a o kvs) [it] it (λi h=>h.IsKeyIter it a i vs.length ep) where
 mem:=by simp
 obj:=λi h st b hb=>by
  have e:b=it:=by simpa using hb
  subst e
  obtain ⟨o,e,c,d⟩:=st
  exact ⟨o,e,λv z=>by rw [d] at z;cases z⟩
 keep:=λi h h' st k=>st.at λo e=>k it (by simp) o e
 item:=by
  intro X hP hw hK hc i pins s σ H E I hf st hg
  subst hP hw hK
  obtain ⟨hq,hi⟩:=hg
  have hat:=HD s.heap (I.hok _ _ hq).1
  have hl:kvs.length=vs.length:=aM kv
  obtain ⟨f0,f1,f2,f3,f4,f5⟩:=hf it (by simp)
  obtain ⟨⟨k,x⟩,hx,ek,_⟩:=Paired.get kv (af hi)
  refine wpAny_pyNext_dict_item st hat hx λkey h' hkey st' sb=>?_
  have I1:Inv X pins σ H { s with heap:=h' }:=I.turned (t':=s.toks) (λb o hb e=>(sb.2 b hb).trans e) f0 f1 f3 f4 f5
  obtain ⟨ob,e,c,d⟩:=id st'
  exact ⟨key,rfl,Jn (s:={ s with heap:=h' }) e c d ⋯ ⟨kV k,H,I1,relK hkey,⟨rfl,_,af hi,by rw [show (kvs[i]'hi).1=k from ek]⟩,st',λb hb=>(hf b hb).1⟩⟩
 done:=by
  intro X hP hw hK hc i pins s σ H E I hf st hg
  subst hP hw hK
  obtain ⟨hq,hi⟩:=hg
  have hat:=HD s.heap (I.hok _ _ hq).1
  have hl:kvs.length=vs.length:=aM kv
  obtain ⟨f0,f1,f2,f3,f4,f5⟩:=hf it (by simp)
  exact wpAny_pyNext_dict_end (I.ok.hd hc) st hat ↥69 λh' eb=>⟨rfl,I.turned (t':=s.toks) ↥100 f0 f1 f3 f4 f5⟩
 self:=λ_ _ _ _ _ st h=>wpAny_pyIter_keyiter st h
noncomputable def iDic (td:TE):TI:=λσ H R=>td σ H λx H1=>∃a kvs,x = .ref a/\((H1 a=some (.dK kvs)/\∀o,R (Itd a o kvs) (upd H1 a ↥95))\/∃o,H1 a=some ↥95/\R (Itd a o kvs) H1)
theorem wT (G:PE X l td):PI X tg l (iDic td):=by
 intro pins s σ H R I h
 refine thn (G pins s σ H _ I h) λv s1 ⟨x,H1,k,y,a,kvs,e,q⟩=>?_
 subst e
 cases y
 have d:∀{H2:Hp} {o:Obj},Inv X pins σ H2 s1->H2 a=some ↥95->R (Itd a o kvs) H2->ax ↥3 X.A (lX (.ref a)) (PIE X pins σ tg R) X.xe s1:=λ{H2 o} f t z=>by
  have r:=(f.hok _ _ t).1
  obtain ⟨B,lo,m,p,j⟩:=wB f.hok (.inr ⟨o,t⟩)
  obtain ⟨ep,n,es,h1,c⟩:=j.dictAt
  rw [r] at h1
  cases h1
  have u:∀h:Heap,h.get? a=some o->h.DictAt (jz X.prog X.w) a m ep:=λh e=>⟨o,es,e,c⟩
  refine wpAny_pyIter_dict lo (u _ r) ?_
  refine ⟨s1.heap.objs.size,[s1.heap.objs.size],_,_,H2,rfl,f.kept (t':=s1.toks) λb o e=>ai _ e,YY p u,⟨_,az _ rfl,rfl,rfl⟩,λb C=>?_,z⟩
  have e:b=s1.heap.objs.size:=by simpa using C
  subst e
  exact f.fpOk (ar _) (f.hok.fresh (ar _))
 rcases q with ⟨g,i⟩ | ⟨o,g,i⟩
 ·obtain ⟨B,lo,m,p,j⟩:=wB k.hok (.inl g)
  obtain ⟨ep,n,es,h1,c⟩:=j.dictAt
  exact d (k.freeze g h1) j6 (i n)
 ·exact d k g i
theorem QG {kvs:List (Key×V)}{g:TG}{tb:TS}{D:Ends}{σ:St}{H:Hp}(Pv:Nat->St->Hp->Prop) (h0:Pv 0 σ H) (U:∀i σ H,i<=kvs.length->Pv i σ H->H a=some ↥95)
  (hs:∀i q σ H,kvs[i]? = some q->Pv i σ H->g (kV q.1) σ H λj H2=>tb { D with nx:=Pv (i+1),ct:=Pv (i+1),bk:=D.nx } j H2) (Y:∀σ H,Pv kvs.length σ H->D.nx σ H) :
  ∃W:Nat->Nat->St->Hp->Prop,↥76/\∀i m σ H,W i m σ H ->
   ((Itd a o kvs).stop i H/\D.nx σ H)\/((Itd a o kvs).go i H/\∃N:St->Hp->Prop,(∀G H',N G H'->∃I,I<m/\W (i+1) I G H')/\∀x H',(Itd a o kvs).yld i H x H'->g x σ H' λj H2=>tb { D with nx:=N,ct:=N,bk:=D.nx } j H2):=by
 refine ⟨λi m σ H=>m=kvs.length-i/\i<=kvs.length/\Pv i σ H,⟨kvs.length,by simp,aG _,h0⟩,?_⟩
 rintro i m σ H ⟨rfl,hi,p⟩
 have q:=U i σ H hi p
 by_cases b:i<kvs.length
 ·refine .inr ⟨⟨q,b⟩,Pv (i+1),λG H' c=>⟨kvs.length-(i+1),∅,rfl,b,c⟩,λx H' y=>?_⟩
  obtain ⟨e,z,d,ex⟩:=y
  subst e ex
  exact hs i z σ _ d p
 ·obtain rfl:i=kvs.length:=∅
  exact .inl ⟨⟨q,ar _⟩,Y σ H p⟩
theorem YO {kvs:List (Key×V)}{g:TG}{ti:TT}{te:TE}{R:Hp->Prop}{σ:St}{H:Hp}(Pv:Nat->St->Hp->Prop) (h0:Pv 0 σ H) (hl:∀i σ H,i<=kvs.length->Pv i σ H->H a=some ↥95)
  (hs:∀i q σ H,kvs[i]? = some q->Pv i σ H->g (kV q.1) σ H λj H3=>ti j H3 λok I=>if ok=true then te j I λv G=>∃ys,G acc=some (.lst ys)/\ys.length<sizeLine/\Pv (i+1) j (upd G acc ↥68) else Pv (i+1) j I)
  (hd:∀σ H,Pv kvs.length σ H->R H) :
  ∃W:Nat->Nat->St->Hp->Prop,↥76/\∀i m U H',W i m U H' ->
   ((Itd a o kvs).stop i H'/\R H')\/((Itd a o kvs).go i H'/\∃Y:St->Hp->Prop,(∀σ2 H2,Y σ2 H2->∃m',m'<m/\W (i+1) m' σ2 H2) /\
    ∀x H2,(Itd a o kvs).yld i H' x H2->g x U H2 λj H3=>ti j H3 λok I=>if ok=true then te j I λv G=>∃ys,G acc=some (.lst ys)/\ys.length<sizeLine/\Y j (upd G acc ↥68) else Y j I):=by
 refine ⟨λi m σ H=>m=kvs.length-i/\i<=kvs.length/\Pv i σ H,⟨kvs.length,by simp,aG _,h0⟩,?_⟩
 rintro i m σ H ⟨rfl,hi,p⟩
 have q:=hl i σ H hi p
 by_cases b:i<kvs.length
 ·refine .inr ⟨⟨q,b⟩,Pv (i+1),λU H' c=>⟨kvs.length-(i+1),∅,rfl,b,c⟩,λx H' y=>?_⟩
  obtain ⟨e,z,d,ex⟩:=y
  subst e ex
  exact hs i z σ _ d p
 ·obtain rfl:i=kvs.length:=∅
  exact .inl ⟨⟨q,ar _⟩,hd σ H p⟩
end L2
end
section
namespace L2
open PySem.W
theorem YT {K:ag}(it:Addr) (lo:Int) (n:Nat):Turn P w K tg (Itr lo n) [it] it (λi h=>IsLongIter h it (lo+(i:Nat)*1) ((n:Int)-(i:Nat)) 1) where
 mem:=by simp
 obj:=λi h st b hb=>by
  have e:b=it:=by simpa using hb
  subst e
  exact ⟨_,st,λv z=>by
   have z':nE _=mf v:=z
   cases z'⟩
 keep:=λi h h' st k=>k it (by simp) _ st
 item:=by
  intro X hP hw hK hc i pins s σ H E I hf st hg
  subst hP hw hK
  obtain ⟨f0,f1,f2,f3,f4,f5⟩:=hf it (by simp)
  have W:=Walks.longrange (prog:=X.prog) (w:=X.w) (I.ok.hd hc) it lo 1 n
  refine W.item i s _ _ hg st λv h' tk hv st' kk=>?_
  obtain ⟨t,rfl⟩:=hv
  have I1:Inv X pins σ H { s with heap:=h',toks:=tk }:=I.turned (λb o hb e=>kk b o (by simpa using hb) e) f0 f1 f3 f4 f5
  refine ⟨_,rfl,Jn (s:={ s with heap:=h',toks:=tk }) (n:="longrange_iterator") st' rfl rfl ⋯ ⟨.int (lo+i),H,I1,⟨t,?_⟩,⟨rfl,rfl⟩,st',λb hb=>(hf b hb).1⟩⟩
  rw [Int.mul_one]
 done:=by
  intro X hP hw hK hc i pins s σ H E I hf st hg
  subst hP hw hK
  obtain ⟨f0,f1,f2,f3,f4,f5⟩:=hf it (by simp)
  exact wpAny_pyNext_long_end (I.ok.hd hc) st (by have:n<=i:=hg;omega) λh' eb=>⟨rfl,I.turned (t':=s.toks) ↥100 f0 f1 f3 f4 f5⟩
 self:=λ_ _ _ _ _ st h=>wpAny_pyIter_longiter st h
section
variable {X:Cx}{tg:Expr}
theorem Yj {R:It->Hp->Prop}{lo hi:Int}{t:Tok}{tk:Nat}(I:Inv X pins σ H s)
  (q:R (Itr lo (hi-lo).toNat) H):ax ↥3 X.A (lX ↥11) (PIE X pins σ tg R) E { s with heap:=s.heap.push { cls:=.type "range",data:=.fields #[.int lo t,.int hi u,.int 1 v] },toks:=tk }:=by
 have a:Inv X pins σ H { s with heap:=s.heap.push { cls:=.type "range",data:=.fields #[.int lo t,.int hi u,.int 1 v] },toks:=tk }:=I.kept λb o e=>ai _ e
 have g:lo+((0:Nat):Int)*1=lo:=by simp
 have f:(((hi-lo).toNat:Nat):Int)-((0:Nat):Int)=mh lo hi 1:=by rw [tQ];split <;> omega
 have d:∀b∈[(↥10).objs.size],_:=λb h=>by
  have e:b=(↥10).objs.size:=by simpa using h
  subst e
  exact a.fpOk (ar _) (a.hok.fresh (ar _))
 by_cases c:Builtin.Range.small lo hi 1=true
 ·refine oS (su ..) c ?_
  refine ⟨(↥10).objs.size,[(↥10).objs.size],_,_,H,rfl,
   a.kept (t':=tk) λb o e=>ai _ e,kO _ lo (hi-lo).toNat,?_,d,q⟩
  show sr _ _ (lo+((0:Nat):Int)*1) ((((hi-lo).toNat:Nat):Int)-((0:Nat):Int)) 1
  rw [g,f]
  exact az _ rfl
 ·refine wpAny_pyIter_longrange (su ..) (by simpa using c) ?_
  refine ⟨(↥10).objs.size,[(↥10).objs.size],_,_,H,rfl,
   a.kept (t':=tk) λb o e=>ai _ e,YT _ lo (hi-lo).toNat,?_,d,q⟩
  show IsLongIter _ _ (lo+((0:Nat):Int)*1) ((((hi-lo).toNat:Nat):Int)-((0:Nat):Int)) 1
  rw [g,f]
  exact az _ rfl
inductive iRngLI (R:It->Hp->Prop) (vs:List V) (H1:Hp):Prop
 | mk (i j:Int) (_:vs=[.int i,.int j]) (_:R (Itr i (j-i).toNat) H1)
noncomputable def EE (ta:TA):TI:=λσ H R=>ta σ H λa H1=>iRngLI R a H1
theorem Jv {a b:Expr}{p pos:Pos}(U:Gl X "range") (G:X.mg "range" = none) (Y:PA X [a,b] ta) (hs:aR [a,b] X.env=[(false,eval a X.env),(false,eval b X.env)]:=by rfl) (z:aR [b] X.env=[(false,eval b X.env)]:=by rfl) :
  PI X tg (.Call (.Name "range" p) [a,b] [] pos) (EE ta):=by
 intro pins s σ H R I h
 refine Aj (yS I U G sV (c9 (thn (Y pos pins s σ H _ I h) λm s1 ⟨l,H1,k,d,g⟩=>?_) (by rw [hs,z]) (by rw [z];rfl)))
 obtain ⟨i,j,e,q⟩:=g
 subst e
 cases d with
 | cons r c =>
  cases c with
  | cons f c =>
   cases c
   obtain ⟨t,rfl⟩:=r
   obtain ⟨n,rfl⟩:=f
   exact call_range_2 (Yj k q)
end
end L2
end
section
namespace L2
open PySem.W
noncomputable def Fz (a:Addr) (kvs:List (Key×V)) (o:Obj) (H j:Hp):Prop:=j a=some ↥95/\(j=H\/(H a=some (.dK kvs)/\j=upd H a ↥95))
theorem Fz.at {kvs:List (Key×V)}(f:Fz a kvs o H j) (h:H c=some u) (n:c≠a):j c=some u:=by
 rcases f.2 with rfl | ⟨_,rfl⟩
 ·exact h
 ·rw [j7 n];exact h
theorem uY {g:TG}{tb:TS}{D:Ends}{σ:St}{H:Hp}(h:Rd H a (.dK kvs)) (Pv:Obj->Nat->St->Hp->Prop) (h0:∀o H4,Fz a kvs o H H4->Pv o 0 σ H4) (Y:∀o i σ H,i<=kvs.length->Pv o i σ H->H a=some ↥95)
  (hs:∀o i q σ H,kvs[i]? = some q->Pv o i σ H->g (kV q.1) σ H λG H2=>tb { D with nx:=Pv o (i+1),ct:=Pv o (i+1),bk:=D.nx } G H2) (hd:∀o σ H,Pv o kvs.length σ H->D.nx σ H) :
  ∃z j,V.ref a = .ref z/\((H z=some (.dK j)/\∀o,∃W:Nat->Nat->St->Hp->Prop,(∃m,W 0 m σ (upd H z (.frz o (.dK j))))/\∀i m σ H,W i m σ H ->
   ((Itd z o j).stop i H/\D.nx σ H)\/((Itd z o j).go i H/\∃N:St->Hp->Prop,(∀I H',N I H'->∃U,U<m/\W (i+1) U I H')/\∀x H',(Itd z o j).yld i H x H'->g x σ H' λG H2=>tb { D with nx:=N,ct:=N,bk:=D.nx } G H2)) \/
   ∃o,H z=some (.frz o (.dK j))/\∃W:Nat->Nat->St->Hp->Prop,↥76/\∀i m σ H,W i m σ H ->
   ((Itd z o j).stop i H/\D.nx σ H)\/((Itd z o j).go i H/\∃N:St->Hp->Prop,(∀I H',N I H'->∃U,U<m/\W (i+1) U I H')/\∀x H',(Itd z o j).yld i H x H'->g x σ H' λG H2=>tb { D with nx:=N,ct:=N,bk:=D.nx } G H2)):=by
 rcases h with h | ⟨o,h⟩
 ·exact ⟨a,kvs,rfl,.inl ⟨h,λo=>QG (a:=a) (o:=o) (kvs:=kvs) (Pv o) (h0 o _ ⟨j6,.inr ⟨h,rfl⟩⟩) (Y o) (hs o) (hd o)⟩⟩
 ·exact ⟨a,kvs,rfl,.inr ⟨o,h,QG (a:=a) (o:=o) (kvs:=kvs) (Pv o) (h0 o _ ⟨h,.inl rfl⟩) (Y o) (hs o) (hd o)⟩⟩
end L2
end
section
namespace L2
open PySem.W
section
variable {prog:Program}{w:bo}{A:bx}{E:aj->Shared->Prop}{s:Shared}
theorem UR:oV ↥138 "keys" = pure none:=by rw [typeLookup_type,builtinLookup_eq_fast];kernel_rfl
theorem Jl {a:Addr}{o:Obj}{k:Nat}{Q:Option aj->Shared->Prop}(z:s.heap.get? a=some o) (I:o.cls = .type "list") (j:o.data = .seq xs k) (G:o.dict=none) (U:A.handled=none)
  (h:∀h' tk,↥20->Q none { s with heap:=h',toks:=tk }):ax (aD prog w) A (tG (.ref a) "keys") Q E s:=by
 obtain ⟨c,p,dat,m⟩:=o
 simp only at I j G
 subst I j G
 obtain ⟨n,g,d,tk,os⟩:=s
 have l:∀f,(⟨n,g,d,f,os⟩:Shared).TypeIs (.ref a) "list":=λ_=>⟨_,z,rfl⟩
 have y:=sub_AttributeError
 have x:=F.slot_list_getattribute.lookup
 have v:=F.slot_list_getattribute.bind (.ref a)
 have u:=am_list_getattr_none
 unfold tG getAttrBy? getAttrBy
 repeat (any_goals (first | assumption | exact l _ | ((with_reducible show ax _ _ (call (iO "list.__getattribute__") _ _) _ _ _);refine mG F.slot_list_getattribute (l _) am_entry_list_getattribute (F.args_list_getattribute_2 _ _) (meets_getattribute_miss_list a xs k m "keys" _ UR ↥41 ⋯) ⟨z,U,λh' f e i=>?_⟩) | wp_step))
 obtain ⟨r,q,t⟩:=i.there
 show ax _ _ (pq _ _ _ _ _ _ _) _ _ _
 unfold pq
 repeat (any_goals (first | assumption | wp_step))
 exact h h' f i.of.keeps
end
theorem y7:entryFor table "dict.update.loop" = some eM.«dict.update.loop»:=entryFor_of_tree (by kernel_rfl)
theorem qW:plainId "dict.update.loop" = true:=by decide +kernel
section
variable {prog:Program}{w:bo}{A:bx}{R:nH->Shared->Prop}{d it l:Addr}{items:Array aj}{qs:List (Key×aj×aj)}
noncomputable def JW (d it:Addr) (items:Array aj) (qs:List (Key×aj×aj)) (h:Heap):Prop:=∀(i:Nat) (q:Key×aj×aj),qs[i]? = some q->∃b:Addr,items[i]? = some (.ref b)/\b≠d/\b≠it/\h.IsTuple b #[q.2.1,q.2.2]
theorem JW.keep {h':Heap}(x:JW d it items qs h) (k:∀b o,b≠d->b≠it->h.get? b=some o->h'.get? b=some o):JW d it items qs h':=λi q c=>by
 obtain ⟨b,h1,h2,a,o,e,r⟩:=x i q c
 exact ⟨b,h1,h2,a,o,k b o h2 a e,r⟩
theorem Yh (hh:A.handled=none) (Y:l≠d) (U:l≠it) (G:d≠it) (hsz:qs.length<=sizeLine) (hk:∀q∈qs,(jz prog w).is q.1 q.2.1=true) (nd:(qs.map (·.1)).Nodup) (hn:items.size=qs.length) :
  ∀(n i:Nat) (s:Shared),qs.length-i=n->i<=qs.length->s.heap.IsListIter it l i->s.heap.IsList l items->JW d it items qs s.heap->s.heap.DictOf (jz prog w) d ((qs.take i).map λq=>(q.1,q.2.2)) ->
   (∀h' tk,(∀b o,b≠d->b≠it->s.heap.get? b=some o->h'.get? b=some o)->h'.DictOf (jz prog w) d (qs.map λq=>(q.1,q.2.2))->R (.ok (.ret .none)) { s with heap:=h',toks:=tk }) ->
   cO (aD prog w) A (.builtin "dict.update.loop" ⟨[.ref d,.ref it,c0 i,.none],[]⟩) R s:=by
 have L:A.in1.handled=none:=by simp [hh]
 intro n
 induction n with
 | zero =>
  intro i s e hi st p E t I
  obtain rfl:i=qs.length:=∅
  refine dM y7 ?_
  rw [d5 qW _]
  show ax _ A.in1 (dY (.ref it) >>= _) _ _ s
  refine aa (iC L st p ↥69 λh' V=>?_)
  show ax _ A.in1 (m7 d [] >>= _) _ _ _
  rw [aY] at t
  exact aa (wpAny_pure (wpAny_pure (I h' s.toks (λb o _ h2 h=>V b o h2 h) (t.extBut V G))))
 | succ n ih =>
  intro i s e hi st p E t I
  have B:i<qs.length:=∅
  obtain ⟨⟨k,D,v⟩,m⟩:∃q,qs[i]? = some q:=⟨_,af B⟩
  obtain ⟨b,hb,bd,bi,Q⟩:=E i _ m
  refine dM y7 ?_
  rw [d5 qW _]
  show ax _ A.in1 (dY (.ref it) >>= _) _ _ s
  refine aa (eJ st p hb λh1 J C=>?_)
  have H:h1.IsTuple b #[D,v]:=by
   obtain ⟨o,a,r⟩:=Q
   exact ⟨o,(C.2 b bi).trans a,r⟩
  show ax _ A.in1 (dN [aU b] _ >>= _) _ _ _
  obtain ⟨X,y,P,nb,M⟩:=H
  refine aa (bA (aa (tI ?_)))
  unfold mM
  refine aa (lu (T:="tuple") ⟨X,y,P⟩ ?_)
  rw [if_pos ⋯]
  refine aa (cp y M ↥47)
  show ax _ A.in1 (dN [D,v] (dictSet d D v)) _ _ _
  have O:h1.DictOf (jz prog w) d ((qs.take i).map λq=>(q.1,q.2.2)):=t.sameBut C G
  refine bA (wpAny_dictSet_pairs (s:={ s with heap:=h1 }) (hk _ (aA m)) O (λh2 N K=>?_) (by rw [ah,aN];omega))
  refine wpAny_pure ⟨fR qW _,?_⟩
  have keep:∀c o,c≠d->c≠it->s.heap.get? c=some o->h2.get? c=some o:=λc o g f h=>(K.2 c g).trans ((C.2 c f).trans h)
  refine ih (i+1) { s with heap:=h2,toks:=s.toks+1 } ∅ ∅ ?_ ?_ (E.keep keep) ?_ λh3 tk Z d3=>?_
  ·obtain ⟨o,a,r⟩:=J
   exact ⟨o,(K.2 it G.symm).trans a,r⟩
  ·obtain ⟨o,a,r⟩:=p
   exact ⟨o,keep l o Y U a,r⟩
  ·have e:A3 ((qs.take i).map λq=>(q.1,q.2.2)) k v=(qs.take (i+1)).map λq=>(q.1,q.2.2):=by
    rw [A3,if_neg,bI,m]
    ·simp
    ·intro z
     obtain ⟨x,hx,ex⟩:=List.any_eq_true.mp z
     obtain ⟨u,hu,rfl⟩:=List.mem_map.mp hx
     have ex:u.1=k:=of_decide_eq_true ex
     obtain ⟨j,hj,S⟩:=List.mem_iff_getElem.mp hu
     rw [aN] at hj
     rw [lU] at S
     obtain ⟨_,eq⟩:=List.getElem?_eq_some_iff.mp m
     have h1:(qs.map (·.1))[j]'(by rw [ah];omega)=(qs.map (·.1))[i]'(by rw [ah];exact B):=by rw [cX,cX,S,eq,ex]
     exact absurd h1 (List.pairwise_iff_getElem.mp nd j i _ _ ∅)
   rw [<- e]
   exact N
  ·exact I h3 tk (λc o g f h=>Z c o g f (keep c o g f h)) d3
end
section
variable {prog:Program}{w:bo}{A:bx}{E:aj->Shared->Prop}{s:Shared}{l:Addr}{ol:Obj}{nl:Nat}{items:Array aj}{qs:List (Key×aj×aj)}
theorem Zc {Q:aj->Shared->Prop}(I:A.handled=none) (j:s.heap.get? l=some ol) (G:ol.cls = .type "list") (z:ol.data = .seq items nl) (U:ol.dict=none) (hsz:qs.length<=sizeLine) (hk:∀q∈qs,(jz prog w).is q.1 q.2.1=true) (Y:(qs.map (·.1)).Nodup) (hn:items.size=qs.length)
  (ht:∀(i:Nat) (q:Key×aj×aj),qs[i]? = some q->∃b:Addr,items[i]? = some (.ref b)/\s.heap.IsTuple b #[q.2.1,q.2.2])
  (h:∀h' tk,↥20->h'.DictOf (jz prog w) s.heap.objs.size (qs.map λq=>(q.1,q.2.2))->Q ↥11 { s with heap:=h',toks:=tk }) :
  ax (aD prog w) A (call (.type "dict") [.ref l]) Q E s:=by
 refine tJ (Q₁:=λobj n=>obj = .ref s.heap.objs.size/\n={ s with heap:=s.heap.push { cls:=.type "dict",data:=.dict #[] } }) rZ (oa _) rm (se _ ⟨rfl,rfl⟩) ?_
 rintro obj n ⟨rfl,rfl⟩
 have a: (↥85).DictOf (jz prog w) s.heap.objs.size []:=mW s.heap
 have kp:∀b o,s.heap.get? b=some o->(↥85).get? b=some o:=λb o q=>ai _ q
 refine ⟨a.typeIs,pw _ _,?_⟩
 have lt:∀b o,s.heap.get? b=some o->b≠s.heap.objs.size:=λb o q=>aB (av q)
 unfold eM.«dict.__init__»
 refine aa ?_
 unfold m8
 refine aa (nk a.typeIs ?_)
 show ax _ _ (pure (s.heap.objs.size,[aU l])) _ _ _
 refine wpAny_pure ?_
 show ax _ _ (eB "dict.__init__" s.heap.objs.size (.ref l) [] .none) _ _ _
 unfold eB
 refine aa (lu (T:="list") ⟨_,kp _ _ j,G⟩ ?_)
 rw [if_pos ⋯]
 generalize H:s.heap.push { cls:=.type "dict",data:=.dict #[] }=y at *
 refine aa (Jl (s:={ s with heap:=y }) (kp _ _ j) G z U (by simp [I]) λh1 tk c=>?_)
 rw [if_pos (show (none:Option aj).isNone=true from rfl)]
 have k:h1.IsList l items:=⟨ol,c _ _ (kp _ _ j),G,nl,z⟩
 refine aa (eN ?_)
 refine aa (d6 (s:={ s with heap:=h1,toks:=tk }) k (wpAny_pure ⟨fR qW _,?_⟩))
 obtain ⟨D,_,_,p,_⟩:=id a
 have e:∀b o,h1.get? b=some o->b≠h1.objs.size:=λb o q=>aB (av q)
 have g:∀b o,s.heap.get? b=some o->(h1.push { cls:=.type "list_iterator",data:=.fields #[.ref l,.int 0 0] }).get? b=some o:=λb o q=>ai _ (c _ _ (kp _ _ q))
 refine Yh (d:=s.heap.objs.size) (it:=h1.objs.size) (l:=l) (items:=items) (qs:=qs) (by simp [I]) (lt _ _ j) (e _ _ (c _ _ (kp _ _ j))) (e _ _ (c _ _ p)) hsz hk Y hn qs.length 0 _ ∅ (aG _) ⟨_,az _ rfl,rfl,rfl⟩ (k.push _) (λi q v=>?_) ?_ λh' m u C=>?_
 ·obtain ⟨b,x,o,f,r⟩:=ht i q v
  exact ⟨b,x,lt _ _ f,e _ _ (c _ _ (kp _ _ f)),o,g _ _ f,r⟩
 ·obtain ⟨o,es,B,t,r⟩:=a
  exact ⟨o,es,B,ai _ (c _ _ t),r⟩
 ·exact ⟨rfl,h h' m (λb o q=>u b o (lt _ _ q) (e _ _ (c _ _ (kp _ _ q))) (g _ _ q)) C⟩
end
theorem vt {α β:Type}(P:Nat->α->β->Prop):∀(l:List α) (n:Nat),(∀(i:Nat) a,l[i]? = some a->∃b,P (n+i) a b)->∃bs:List β,bs.length=l.length/\∀(i:Nat) a b,l[i]? = some a->bs[i]? = some b->P (n+i) a b
 | [],n,_=>⟨[],rfl,λi a b h=>by simp at h⟩
 | x::r,n,h=>by
  obtain ⟨b,e⟩:=h 0 x rfl
  obtain ⟨bs,d,c⟩:=vt P r (n+1) λi a hi=>by
   have:=h (i+1) a (by simpa using hi)
   rwa [show n+1+i=n+(i+1) by omega]
  refine ⟨b::bs,by simp [d],λi a f h1 h2=>?_⟩
  cases i with
  | zero =>
   simp at h1 h2
   subst h1 h2
   exact e
  | succ i =>
   have:=c i a f (by simpa using h1) (by simpa using h2)
   rwa [show n+(i+1)=n+1+i by omega]
theorem wb {α β:Type}{F:α->β->Prop}:∀{l₁:List α}{j:List β},l₁.length=j.length->(∀(i:Nat) a b,l₁[i]? = some a->j[i]? = some b->F a b)->cU F l₁ j
 | [],[],_,_=>.nil
 | [],_::_,h,_=>by simp at h
 | _::_,[],h,_=>by simp at h
 | x::r,y::t,h,k=>.cons (k 0 x y rfl rfl) (wb (by simpa using h) λi a b h1 h2=>k (i+1) a b (by simpa using h1) (by simpa using h2))
theorem Z0 {X:Cx}(K:ag) (U:X.calm=true) (hK:X.K=K:=by rfl):xl X (.type "dict") (λxs H Q=>∃(p:Addr) (j:List V) (ms:List (Int×Int)),xs=[.ref p]/\SqL K H p j/\cU (λv (m:Int×Int)=>∃b,v=V.ref b/\H b=some (.tup [.int m.1,.int m.2])) j ms/\ (↥45).Nodup/\ms.length<=1000 /\
  ∀(d:Addr) H',H d=none->H' d=some (.dK (ms.map λm=>(.inl m.1,.int m.2)))->jm H H'->Q (.ref d) H'):=by
 subst hK
 intro pins s σ H xs us Q I r h
 obtain ⟨p,j,ms,rfl,hq,L,Z,l,k⟩:=h
 obtain ⟨u,rfl,z⟩:=vv r
 cases z
 obtain ⟨t,E,⟨ol,nl,ho,hc,O,N⟩,hz⟩:=I.list hq
 have C:j.length=ms.length:=aM L
 have ac:j.length=t.length:=E.length
 obtain ⟨qs,x,J⟩:=vt (λi (m:Int×Int) (q:Key×aj×aj)=>∃(b:Addr) (f c:Tok),q=(.inl m.1,.int m.1 f,.int m.2 c)/\t[i]? = some (.ref b)/\s.heap.IsTuple b #[.int m.1 f,.int m.2 c]) ms 0 λi m hi=>by
  rw [ig]
  have A:i<j.length:=by rw [C];exact (↥84).1
  obtain ⟨m',g,b,eb,hb⟩:=Paired.get L (af A)
  rw [hi] at g
  cases g
  obtain ⟨u,hu,z⟩:=E.get (af A)
  rw [eb] at z
  cases (show u=aU b from z)
  obtain ⟨_,ab,R,o,h1,h2,n,D⟩:=(show qu X.prog X.w H s.heap b (.tup [.int m.1,.int m.2]) from I.hok b _ hb)
  cases R with
  | cons Y T =>
   cases T with
   | cons p2 S =>
    cases S
    obtain ⟨f,rfl⟩:=Y
    obtain ⟨c,rfl⟩:=p2
    exact ⟨_,b,f,c,rfl,hu,o,h1,h2,n,D⟩
 have get:∀(i:Nat) (q:Key×aj×aj),qs[i]? = some q->∃(m:Int×Int) (b:Addr) (f c:Tok),ms[i]? = some m/\q=(.inl m.1,.int m.1 f,.int m.2 c)/\t[i]? = some (.ref b)/\s.heap.IsTuple b #[.int m.1 f,.int m.2 c]:=λi q hi=>by
  have B:i<ms.length:=by rw [<- x];exact (↥84).1
  obtain ⟨b,f,c,e,h1,h2⟩:=J i _ q (af B) hi
  rw [ig] at h1
  exact ⟨_,b,f,c,af B,e,h1,h2⟩
 have keys:qs.map (·.1)=ms.map λm=>(eG m.1:Key):=by
  refine il λi=>?_
  rw [ay,ay]
  cases e:qs[i]? with
  | none =>
   rw [lP] at e
   rw [List.getElem?_eq_none_iff.mpr ∅]
   rfl
  | some q =>
   obtain ⟨m,b,f,c,h1,h2,_⟩:=get i q e
   rw [h1,h2]
   rfl
 have G:(qs.map (·.1)).Nodup:=by
  rw [keys,show (ms.map λm=>(eG m.1:Key))=(↥45).map eG by rw [bW];rfl]
  exact ip _ (λa b h e=>h (eC e)) Z
 have P:KV (ms.map λm=>((.inl m.1,.int m.2):Key×V)) (qs.map λq=>(q.1,q.2.2)):=by
  refine wb (by rw [ah,ah,x]) λi a b h1 h2=>?_
  rw [ay] at h1 h2
  obtain ⟨q,y,rfl⟩:=Option.map_eq_some_iff.mp h2
  obtain ⟨m,_,f,c,g,e,_⟩:=get i q y
  rw [g] at h1
  cases h1
  subst e
  exact ⟨rfl,c,rfl⟩
 refine Zc (qs:=qs) (I.ok.hd U) ho hc N O (by rw [x];exact aI l ⋯) (λq y=>?_) G ↥69 (λi q hi=>?_) λh' tk keep dd=>?_
 ·obtain ⟨i,hi,e⟩:=List.mem_iff_getElem.mp y
  obtain ⟨m,b,f,c,h1,h2,_⟩:=get i q (by rw [af hi,e])
  subst h2
  exact gf (k:=.inl m.1) ⟨f,rfl⟩
 ·obtain ⟨m,b,f,c,h1,h2,D,h4⟩:=get i q hi
  subst h2
  exact ⟨b,by simpa using D,h4⟩
 ·have M:=I.hok.fresh (ar s.heap.objs.size)
  exact ⟨.ref _,upd H s.heap.objs.size (.dK (ms.map λm=>((.inl m.1,.int m.2):Key×V))),I.laid (t':=tk) keep (ar _) (Ze (by rw [ah];exact aI l ⋯) (beq_eq_false_iff_ne.mpr (cx (aB I.big))) P dd),rfl,k _ _ M j6 (jm.new M)⟩
end L2
end
section
namespace L2
open PySem.W
section
variable {prog:Program}{w:bo}{A:bx}{R:nH->Shared->Prop}{d it l:Addr}{items:Array aj}{qs:List ↥88}
noncomputable def JG (P:Program) (w:bo) (d it:Addr) (items:Array aj) (qs:List ↥88) (h:Heap):Prop:=∀(i:Nat) (q:List Key×Addr×aj),qs[i]? = some q->∃b:Addr,items[i]? = some (.ref b)/\b≠d/\b≠it/\h.IsTuple b #[.ref q.2.1,q.2.2]/\q.2.1≠d/\q.2.1≠it/\(dm (jz P w)).is h q.1 q.2.1
theorem JG.keep {h':Heap}(x:JG prog w d it items qs h) (k:∀b o,b≠d->b≠it->h.get? b=some o->h'.get? b=some o):JG prog w d it items qs h':=λi q l=>by
 obtain ⟨b,h1,h2,g,⟨o,m,r⟩,f,e,o',a,n,c,j⟩:=x i q l
 exact ⟨b,h1,h2,g,⟨o,k b o h2 g m,r⟩,f,e,o',a,n,k _ _ f e c,j⟩
theorem Zk (hh:A.handled=none) (I:A.units+1<cLine) (ab:l≠d) (Y:l≠it) (G:d≠it) (hsz:qs.length<=sizeLine) (nd:(qs.map (·.1)).Nodup) (hn:items.size=qs.length) :
  ∀(n i:Nat) (s:Shared),qs.length-i=n->i<=qs.length->s.heap.IsListIter it l i->s.heap.IsList l items->JG prog w d it items qs s.heap->s.heap.DictOfH (dm (jz prog w)) d (qs.take i) ->
   (∀h' tk,(∀b o,b≠d->b≠it->s.heap.get? b=some o->h'.get? b=some o)->h'.DictOfH (dm (jz prog w)) d qs->R (.ok (.ret .none)) { s with heap:=h',toks:=tk }) ->
   cO (aD prog w) A (.builtin "dict.update.loop" ⟨[.ref d,.ref it,c0 i,.none],[]⟩) R s:=by
 have Z:A.in1.handled=none:=by simp [hh]
 have f:∀{h h':Heap} {j:Nat},h.DictOfH (dm (jz prog w)) d (qs.take j)->JG prog w d it items qs h'->(∀o,h.get? d=some o->h'.get? d=some o)->h'.DictOfH (dm (jz prog w)) d (qs.take j):=λ{h h' j} t a hg=>by
  obtain ⟨o,es,ep,h1,h2,Q,h4,h5,h6⟩:=t
  refine ⟨o,es,ep,hg _ h1,h2,Q,h4,λx H=>?_,h6⟩
  obtain ⟨m,hm⟩:=List.mem_iff_getElem?.mp (dO H)
  obtain ⟨b,_,_,_,_,_,_,z⟩:=a m x hm
  exact z
 intro n
 induction n with
 | zero =>
  intro i s e hi st K a t P
  obtain rfl:i=qs.length:=∅
  refine dM y7 ?_
  rw [d5 qW _]
  show ax _ A.in1 (dY (.ref it) >>= _) _ _ s
  refine aa (iC Z st K ↥69 λh' S=>?_)
  show ax _ A.in1 (m7 d [] >>= _) _ _ _
  have O:=f t (a.keep λb o _ h2 h=>S b o h2 h) (λo h=>S d o G h)
  rw [aY] at O
  exact aa (wpAny_pure (wpAny_pure (P h' s.toks (λb o _ h2 h=>S b o h2 h) O)))
 | succ n ih =>
  intro i s e hi st K a t P
  have N:i<qs.length:=∅
  obtain ⟨⟨k,E,v⟩,J⟩:∃q,qs[i]? = some q:=⟨_,af N⟩
  obtain ⟨b,hb,bd,bi,an,kd,ki,hk⟩:=a i _ J
  refine dM y7 ?_
  rw [d5 qW _]
  show ax _ A.in1 (dY (.ref it) >>= _) _ _ s
  refine aa (eJ st K hb λh1 U B=>?_)
  have L:JG prog w d it items qs h1:=a.keep λb o _ h2 h=>(B.2 b h2).trans h
  obtain ⟨_,_,_,_,y,_,_,X⟩:=L i _ J
  have y:h1.IsTuple b #[.ref E,v]:=by
   obtain ⟨o,g,r⟩:=an
   exact ⟨o,(B.2 b bi).trans g,r⟩
  show ax _ A.in1 (dN [aU b] _ >>= _) _ _ _
  obtain ⟨ob,M,am,nb,ac⟩:=y
  refine aa (bA (aa (tI ?_)))
  unfold mM
  refine aa (lu (T:="tuple") ⟨ob,M,am⟩ ?_)
  rw [if_pos ⋯]
  refine aa (cp M ac ↥47)
  show ax _ A.in1 (dN [aU E,v] (dictSet d (.ref E) v)) _ _ _
  have al:=f t L λo h=>(B.2 d G).trans h
  refine bA (wpAny_dictSet_heap (s:={ s with heap:=h1 }) (eP I) X al (λh2 ae V=>?_) (by rw [aN];omega))
  refine wpAny_pure ⟨fR qW _,?_⟩
  have keep:∀c o,c≠d->c≠it->s.heap.get? c=some o->h2.get? c=some o:=λc o D C h=>(V.2 c D).trans ((B.2 c C).trans h)
  refine ih (i+1) { s with heap:=h2,toks:=s.toks+(dm (jz prog w)).draws k } ∅ ∅ ?_ ?_ (a.keep keep) ?_ λQ tk k3 d3=>?_
  ·obtain ⟨o,g,r⟩:=U
   exact ⟨o,(V.2 it G.symm).trans g,r⟩
  ·obtain ⟨o,g,r⟩:=K
   exact ⟨o,keep l o ab Y g,r⟩
  ·have e:A4 (qs.take i) k E v=qs.take (i+1):=by
    rw [A4,if_neg,bI,J]
    ·rfl
    ·intro z
     obtain ⟨x,H⟩:=Option.isSome_iff_exists.mp z
     unfold rg at H
     obtain ⟨u,I,rfl⟩:=Option.map_eq_some_iff.mp H
     have ex:u.1=k:=of_decide_eq_true (List.find?_some (p:=λx:List Key×Addr×aj=>decide (x.1=k)) I)
     obtain ⟨j,hj,ej⟩:=List.mem_iff_getElem.mp (dG I)
     rw [aN] at hj
     rw [lU] at ej
     obtain ⟨_,eq⟩:=List.getElem?_eq_some_iff.mp J
     have h1:(qs.map (·.1))[j]'(by rw [ah];omega)=(qs.map (·.1))[i]'(by rw [ah];exact N):=by rw [cX,cX,ej,eq,ex]
     exact absurd h1 (List.pairwise_iff_getElem.mp nd j i _ _ ∅)
   rw [<- e]
   exact ae
  ·exact P Q tk (λc o D C h=>k3 c o D C (keep c o D C h)) d3
end
section
variable {prog:Program}{w:bo}{A:bx}{E:aj->Shared->Prop}{s:Shared}{l:Addr}{ol:Obj}{nl:Nat}{items:Array aj}{qs:List ↥88}
theorem QI {Q:aj->Shared->Prop}(I:A.handled=none) (hu:A.units+64<cLine) (j:s.heap.get? l=some ol) (G:ol.cls = .type "list") (z:ol.data = .seq items nl) (U:ol.dict=none) (hsz:qs.length<=sizeLine) (Y:(qs.map (·.1)).Nodup) (hn:items.size=qs.length)
  (ht:∀(i:Nat) (q:List Key×Addr×aj),qs[i]? = some q->(dm (jz prog w)).is s.heap q.1 q.2.1/\∃b:Addr,items[i]? = some (.ref b)/\s.heap.IsTuple b #[.ref q.2.1,q.2.2])
  (h:∀h' tk,↥20->h'.DictOfH (dm (jz prog w)) s.heap.objs.size qs->Q ↥11 { s with heap:=h',toks:=tk }) :
  ax (aD prog w) A (call (.type "dict") [.ref l]) Q E s:=by
 refine tJ (Q₁:=λobj u=>obj = .ref s.heap.objs.size/\u={ s with heap:=s.heap.push { cls:=.type "dict",data:=.dict #[] } }) rZ (oa _) rm (se _ ⟨rfl,rfl⟩) ?_
 rintro obj u ⟨rfl,rfl⟩
 have f: (↥85).DictOf (jz prog w) s.heap.objs.size []:=mW s.heap
 have kp:∀b o,s.heap.get? b=some o->(↥85).get? b=some o:=λb o q=>ai _ q
 refine ⟨f.typeIs,pw _ _,?_⟩
 have lt:∀b o,s.heap.get? b=some o->b≠s.heap.objs.size:=λb o q=>aB (av q)
 unfold eM.«dict.__init__»
 refine aa ?_
 unfold m8
 refine aa (nk f.typeIs ?_)
 show ax _ _ (pure (s.heap.objs.size,[aU l])) _ _ _
 refine wpAny_pure ?_
 show ax _ _ (eB "dict.__init__" s.heap.objs.size (.ref l) [] .none) _ _ _
 unfold eB
 refine aa (lu (T:="list") ⟨_,kp _ _ j,G⟩ ?_)
 rw [if_pos ⋯]
 generalize H:s.heap.push { cls:=.type "dict",data:=.dict #[] }=y at *
 refine aa (Jl (s:={ s with heap:=y }) (kp _ _ j) G z U (by simp [I]) λh1 tk a=>?_)
 rw [if_pos (show (none:Option aj).isNone=true from rfl)]
 have m:h1.IsList l items:=⟨ol,a _ _ (kp _ _ j),G,nl,z⟩
 refine aa (eN ?_)
 refine aa (d6 (s:={ s with heap:=h1,toks:=tk }) m (wpAny_pure ⟨fR qW _,?_⟩))
 have k:y.get? s.heap.objs.size=some { cls:=.type "dict",data:=.dict #[] }:=by rw [<- H];exact az _ rfl
 have c:∀b o,h1.get? b=some o->b≠h1.objs.size:=λb o q=>aB (av q)
 have e:∀b o,s.heap.get? b=some o->(h1.push { cls:=.type "list_iterator",data:=.fields #[.ref l,.int 0 0] }).get? b=some o:=λb o q=>ai _ (a _ _ (kp _ _ q))
 refine Zk (d:=s.heap.objs.size) (it:=h1.objs.size) (l:=l) (items:=items) (qs:=qs) (by simp [I]) ↥69 (lt _ _ j) (c _ _ (a _ _ (kp _ _ j))) (c _ _ (a _ _ k)) hsz Y hn qs.length 0 _ ∅ (aG _) ⟨_,az _ rfl,rfl,rfl⟩ (m.push _) (λi q K=>?_) ?_ λh' t D M=>?_
 ·obtain ⟨⟨C,v,n,p,B⟩,b,L,o,g,r⟩:=ht i q K
  exact ⟨b,L,lt _ _ g,c _ _ (a _ _ (kp _ _ g)),⟨o,e _ _ g,r⟩,lt _ _ p,c _ _ (a _ _ (kp _ _ p)),C,v,n,e _ _ p,B⟩
 ·exact ⟨_,#[],_,ai _ (a _ _ k),⟨rfl,rfl,rfl⟩,rfl,rfl,(λx J=>nomatch J),fC⟩
 ·exact ⟨rfl,h h' t (λb o q=>D b o (lt _ _ q) (c _ _ (a _ _ (kp _ _ q))) (e _ _ q)) M⟩
end
theorem XT {X:Cx}(K:ag) (G:X.A.units+64<cLine) (U:X.calm=true) (hK:X.K=K:=by rfl):xl X (.type "dict") (λxs H Q=>∃(p:Addr) (j:List V) (ms:List (List Key)),xs=[.ref p]/\SqL K H p j/\cU (λv (m:List Key)=>∃b c,v=V.ref b/\H b=some (.tup [.ref c,.bl true])/\H c=some (.tup (m.map kV))) j ms/\ms.Nodup/\ms.length<=1000 /\
  ∀(d:Addr) H',H d=none->H' d=some (.dT (ms.map λm=>(m,.bl true)))->jm H H'->Q (.ref d) H'):=by
 subst hK
 intro pins s σ H xs us Q I r h
 obtain ⟨p,j,ms,rfl,hq,P,nd,l,k⟩:=h
 obtain ⟨u,rfl,y⟩:=vv r
 cases y
 obtain ⟨t,M,⟨ol,nl,ho,E,S,R⟩,hz⟩:=I.list hq
 have C:j.length=ms.length:=aM P
 have ac:j.length=t.length:=M.length
 obtain ⟨qs,x,N⟩:=vt (λi (m:List Key) (q:List Key×Addr×aj)=>∃(b:Addr),q.1=m/\q.2.2 = .bool true/\H q.2.1=some (.tup (m.map kV))/\t[i]? = some (.ref b)/\s.heap.IsTuple b #[.ref q.2.1,q.2.2]) ms 0 λi m hi=>by
  rw [ig]
  have z:i<j.length:=by rw [C];exact (↥84).1
  obtain ⟨m',g,b,c,eb,hb,E⟩:=Paired.get P (af z)
  rw [hi] at g
  cases g
  obtain ⟨u,G,y⟩:=M.get (af z)
  rw [eb] at y
  cases (show u=aU b from y)
  obtain ⟨_,ab,r',o,h1,h2,n,f⟩:=(show qu X.prog X.w H s.heap b (.tup [.ref c,.bl true]) from I.hok b _ hb)
  cases r' with
  | cons p1 q1 =>
   cases q1 with
   | cons p2 q2 =>
    cases q2
    cases p1
    cases p2
    exact ⟨(m,c,.bool true),b,rfl,rfl,E,G,o,h1,h2,n,f⟩
 have get:∀(i:Nat) (q:List Key×Addr×aj),qs[i]? = some q->∃(b:Addr),ms[i]? = some q.1/\q.2.2 = .bool true/\H q.2.1=some (.tup (q.1.map kV))/\t[i]? = some (.ref b)/\s.heap.IsTuple b #[.ref q.2.1,q.2.2]:=λi q hi=>by
  have B:i<ms.length:=by rw [<- x];exact (↥84).1
  obtain ⟨b,e,h0,h1,h2,f⟩:=N i _ q (af B) hi
  rw [ig] at h2
  rw [e]
  exact ⟨b,af B,h0,h1,h2,f⟩
 have keys:qs.map (·.1)=ms:=by
  refine il λi=>?_
  rw [ay]
  cases e:qs[i]? with
  | none =>
   rw [lP] at e
   rw [List.getElem?_eq_none_iff.mpr ∅]
   rfl
  | some q =>
   obtain ⟨b,h1,_⟩:=get i q e
   rw [h1]
   rfl
 refine QI (qs:=qs) (I.ok.hd U) G ho E R S (by rw [x];exact aI l ⋯) (by rw [keys];exact nd) ↥69 (λi q hi=>?_) λh' tk keep dd=>?_
 ·obtain ⟨b,h1,h2,f,L,J⟩:=get i q hi
  exact ⟨uV I.hok f,b,by simpa using L,J⟩
 ·have D:=I.hok.fresh (ar s.heap.objs.size)
  have Z:KT (upd H s.heap.objs.size (.dT (ms.map λm=>(m,.bl true)))) (ms.map λm=>((m,.bl true):List Key×V)) qs:=by
   refine wb (by rw [ah,x]) λi a b h1 h2=>?_
   rw [ay] at h1
   obtain ⟨m,g,rfl⟩:=Option.map_eq_some_iff.mp h1
   obtain ⟨b',Y,e2,T,_⟩:=get i b h2
   rw [g] at Y
   cases Y
   refine ⟨rfl,?_,?_⟩
   ·rw [j7 (j1 T D)]
    exact T
   ·rw [e2]
    rfl
  obtain ⟨q,es,ep,O,h2,f,L,_,J⟩:=dd
  exact ⟨.ref _,upd H s.heap.objs.size (.dT (ms.map λm=>(m,.bl true))),I.laid (t':=tk) keep (ar _) ⟨by rw [ah];exact aI l ⋯,beq_eq_false_iff_ne.mpr (cx (aB I.big)),qs,Z,q,es,ep,O,h2,f,L,J⟩,rfl,k _ _ D j6 (jm.new D)⟩
end L2
end
section
namespace L2
theorem rdA {α:Type}{f Q:α->Prop}(v:α) (h:f v) (k:Q v):∃x,f x/\Q x:=⟨v,h,k⟩
theorem rdB {α β:Type}{f g Q:α->β->Prop}(v:α) (u:β) (h:f v u) (h':g v u) (k:Q v u):∃x y,f x y/\g x y/\Q x y:=⟨v,u,h,h',k⟩
end L2
end
section
namespace L2
open PySem.W
noncomputable abbrev Cx.noX (X:Cx):Cx:={ X with xe:=λ_ _=>False }
section
variable {X:Cx}{pins:List (Addr×Obj)}{σ:St}{H:Hp}{s:Shared}
theorem Inv.toNoX (I:Inv X pins σ H s):Inv X.noX pins σ H s:=⟨okP I.ok _ rfl,I.os,I.bare,I.base,I.loc,I.cell,I.free,I.freeC,I.pin,I.hok,I.len⟩
theorem Inv.ofNoX (I:Inv X.noX pins σ H s):Inv X pins σ H s:=⟨okP I.ok _ rfl,I.os,I.bare,I.base,I.loc,I.cell,I.free,I.freeC,I.pin,I.hok,I.len⟩
theorem Ud {st:Stmt}{t:TS}(h:PS X.noX st t):PS X st t:=λpins s σ H D I q=>thn (fT (h pins s σ H D I.toNoX q)) λ_ _ z=>EA (λI=>I.ofNoX) z
end
end L2
end
section
namespace L2
open PySem.W
theorem UO {X:Cx}{pos:Pos}(U:X.calm=true) (hi:PI X tg iter wi) (hg:PG X.noX tg g) (j:PSs X.noX body tb)
  (hs:∀x,cc iter X.env x=pure x:=by intro _;rfl):PS X (.For tg iter body [] pos) (GZ wi g tb):=by
 intro pins s σ H D I h
 refine wpAny_For (thn (hi pins s σ H _ I h) λv s1 h1=>thn h1 λab s2 h2=>?_) hs
 obtain ⟨it,z,M,J,H2,e,I2,T,O,S,W,⟨m0,w0⟩,E⟩:=h2
 subst e
 have p:∀{H':Hp},(∀b∈z,H' b=none)->∀b∈z,yy X pins H' b:=λhn b j=>⟨hn b j,(S b j).2⟩
 refine oC (λn s'=>∃i t H',Inv X pins t H' s'/\M i s'.heap/\(∀b∈z,H' b=none)/\W i n t H') ?_ m0 ⟨0,σ,H2,I2,O,λb j=>(S b j).1,w0⟩
 rintro n Q ⟨i,q,A,Y,B,C,w3⟩
 rcases E i n q A w3 with ⟨G,qn⟩ | ⟨go,N,hN,step⟩
 ·refine fT (thn (T.done X rfl rfl rfl U i pins Q q A (λ_ _=>False) Y (p C) B G) λr s4 ⟨L,I4⟩=>?_)
  subst L
  exact eR ⟨q,A,I4,qn⟩
 ·refine fT (thn (T.item X rfl rfl rfl U i pins Q q A (λ_ _=>False) Y (p C) B go) λr s4 ⟨u,L,h4⟩=>?_)
  subst L
  refine fT (thn h4 λ_ P ⟨x,Z,I5,r5,y5,w,R⟩=>?_)
  have V:=I5.pinned (p R) (T.obj _ _ w)
  refine fT (thn (hg _ P q Z x u _ V.toNoX r5 (step x Z y5)) λ_ s6 ⟨σ6,H6,I6,q6⟩=>?_)
  refine fT (thn (j _ s6 σ6 H6 _ I6 q6) λf K l=>?_)
  have again:∀{a:St} {k:Hp},Inv X (pins++zd z P.heap) a k K->N a k->∃m,m<n/\∃i t H',Inv X pins t H' K/\M i K.heap/\(∀b∈z,H' b=none)/\W i m t H':=λ{a k} c y=>by
   obtain ⟨m',hm,w7⟩:=hN a k y
   refine ⟨m',hm,i+1,a,k,c.unpinned,T.keep _ _ _ w λb j o e=>(↥131).1,λb j=>?_,w7⟩
   obtain ⟨o,e,d⟩:=T.obj _ _ w b j
   exact (↥131).2.1
  cases f with
  | next=>obtain ⟨a,k,c,y⟩:=l;exact again c.ofNoX y
  | cont=>obtain ⟨a,k,c,y⟩:=l;exact again c.ofNoX y
  | brk=>obtain ⟨a,k,c,l⟩:=l;exact ⟨a,k,c.ofNoX.unpinned,l⟩
  | ret v=>obtain ⟨x7,a,k,c,r7,l⟩:=l;exact ⟨x7,a,k,c.ofNoX.unpinned,r7,l⟩
end L2
end
section
namespace K25
open L2
local macro_rules | `(tactic| walk_at "hp")=>`(tactic| first | assumption | exact j6 | (rw [j7 (by first | assumption | (apply cx;assumption))];first | assumption | exact j6))
local macro_rules | `(tactic| walk_at "num")=>`(tactic| first | decide | omega)
local macro_rules | `(tactic| walk_at "rd1")=>`(tactic| first | refine rdA _ rfl ?_ | refine rdB _ _ rfl rfl ?_ | refine ⟨_,rfl,?_⟩ | refine ⟨_,_,rfl,rfl,?_⟩ | refine i5 (show Vf _ _ from dQ ⟨by walk_at "num",by walk_at "num"⟩) ?_ | refine i5 (show Vf _ _ from aO ⟨by walk_at "num",by walk_at "num"⟩) ?_ | refine i5 (show Wr _ _ from ⟨by walk_at "num",by walk_at "num"⟩) ?_ | refine i5 (show EB _ _ from ⟨by walk_at "num",by walk_at "num",by walk_at "num"⟩) ?_ | refine i5 (show (0:Int)<_ by walk_at "num") ?_ | refine ⟨_,_,_,_,rfl,rfl,SqL.of (by walk_at "hp"),(by rfl),?_⟩ | refine ⟨_,_,_,_,rfl,rfl,SqT.of (by walk_at "hp"),(by rfl),?_⟩ | refine ⟨_,_,_,_,rfl,rfl,(by assumption),(by rfl),?_⟩ | refine ⟨_,_,_,_,rfl,rfl,(by walk_at "hp"),(by rfl),?_⟩ | refine ⟨rfl,?_⟩)
local macro_rules | `(tactic| walk_at "r")=>`(tactic| repeat walk_at "rd1")
local macro_rules | `(tactic| walk_at "s")=>`(tactic| exact ⟨rfl,rfl,rfl,by decide +kernel,rfl,by decide +kernel,by decide +kernel⟩)
local macro_rules | `(tactic| walk_at "k")=>`(tactic| decide +kernel)
local macro_rules | `(())=>`(by first | lia | omega)
local macro_rules | `(tactic| right)=>`(tactic| first | lia | omega)
local macro_rules | `(∅)=>`(by decide +kernel)
local macro_rules | `(tactic| walk_at "w")=>`(tactic| (intro _ z;cases z))
local macro_rules | `(tactic| walk_at "z")=>`(tactic| (intro z;cases z))
noncomputable def top (i:Nat):Stmt:=PySem.Challenge.pw_firnfall_k25_where_stones_rest.main.body.getD i (.Pass ⟨0,0,0,0⟩)
noncomputable abbrev y6:Stmt:=top 17
noncomputable abbrev yJ:Stmt:=top 18
noncomputable abbrev ue:Stmt:=top 19
noncomputable abbrev Q6:Stmt:=top 20
noncomputable abbrev xr:Stmt:=top 21
noncomputable abbrev vY:Stmt:=top 22
noncomputable abbrev kh:Stmt:=top 23
noncomputable abbrev xY:Stmt:=top 24
noncomputable abbrev vJ:Stmt:=top 25
noncomputable abbrev yR:Stmt:=top 30
noncomputable abbrev yU:Stmt:=top 31
noncomputable abbrev ke:Stmt:=top 32
noncomputable abbrev yY:Stmt:=top 37
noncomputable abbrev yo:Stmt:=top 38
noncomputable abbrev yc:Stmt:=top 39
noncomputable abbrev x3:Stmt:=(zM (top 40) 0)
noncomputable abbrev xV:Stmt:=(zM (top 40) 4)
noncomputable abbrev xH:Stmt:=(zM (top 40) 5)
noncomputable abbrev yi:Stmt:=(zM (top 40) 6)
noncomputable abbrev yj:Stmt:=(zM (top 40) 7)
noncomputable abbrev vj:Stmt:=(zM (top 40) 8)
noncomputable abbrev yZ:Stmt:=(zM (top 40) 10)
noncomputable abbrev zk:Stmt:=(zM (top 40) 14)
noncomputable abbrev ug:Stmt:=(zM (top 40) 16)
noncomputable abbrev vL:Stmt:=top 42
noncomputable abbrev ud:Stmt:=top 43
noncomputable abbrev J0:Stmt:=top 44
noncomputable abbrev XZ:Stmt:=top 45
noncomputable abbrev ZA:Stmt:=top 47
noncomputable abbrev kR:Stmt:=top 48
noncomputable abbrev Vw:Stmt:=top 50
noncomputable abbrev ZJ:Stmt:=top 51
noncomputable abbrev kg:Stmt:=top 52
noncomputable abbrev wd:Stmt:=top 54
noncomputable abbrev vp:Stmt:=top 55
noncomputable abbrev ua:Stmt:=top 56
noncomputable abbrev vm:Stmt:=top 57
noncomputable abbrev zr:Stmt:=top 58
noncomputable abbrev uS:Stmt:=top 59
noncomputable abbrev uX:Stmt:=top 60
noncomputable abbrev ym:Stmt:=top 61
noncomputable abbrev zY:Stmt:=top 62
noncomputable abbrev qG:Stmt:=top 63
noncomputable abbrev xC:Stmt:=top 64
noncomputable abbrev zy:Stmt:=top 65
noncomputable abbrev yQ:Stmt:=top 66
noncomputable abbrev uj:Stmt:=top 67
noncomputable abbrev zw:Stmt:=top 68
noncomputable abbrev uf:Stmt:=top 69
noncomputable abbrev wk:Stmt:=top 70
noncomputable abbrev vX:Stmt:=top 71
noncomputable abbrev yL:Stmt:=top 72
noncomputable abbrev y9:Stmt:=top 73
noncomputable abbrev yg:Stmt:=top 74
noncomputable abbrev uc:Stmt:=top 75
noncomputable abbrev uk:Stmt:=top 76
noncomputable abbrev xa:Stmt:=top 77
noncomputable abbrev zT:Stmt:=top 78
noncomputable abbrev zE:Stmt:=top 79
noncomputable abbrev qZ:Stmt:=top 80
noncomputable abbrev xK:Stmt:=top 81
noncomputable abbrev yd:Stmt:=top 82
noncomputable abbrev xT:Stmt:=top 83
noncomputable abbrev zF:Stmt:=top 84
noncomputable abbrev vT:Stmt:=top 85
section
variable {P:Program}{w:bo}{K:ag}{mg:Str->Option aj}{base:Heap}
noncomputable abbrev WL:Pos:=⟨49,28,49,49⟩
noncomputable abbrev qV (H:Hp) (Pt:Addr):Prop:=Tab H Pt WL (("lanes" : Str) ++ ".<locals>." ++ "<lambda>")
inductive spLeads  (vs:List V) (H:Hp) (Q:VK) (z_3:XK):Prop
 | mk (i:Nat) (t:Int) (_:vs=[.int i,.int t]) (_:Q (.bl (zf i t)) H)
theorem QQ:FnScope ["number","to"] ["number","to"] (j8 ue):=by walk_at "s"
theorem Xn (F:Fun K "leads_on" "leads_on" ue f fd):FnOk P w K mg base CX0 1 f fd ["number","to"] spLeads:=by
 refine F.ok QQ (λd H Q E h=>?_) (λg A outer s H d Q E j h=>?_)
 ·obtain ⟨i,t,rfl,_⟩:=h
  rfl
 ·obtain ⟨i,t,rfl,k⟩:=h
  refine ⟨_,(j4 (jI (ju x4 (pv 0) j5 (jx _)) (j9 (ji (zm x4 (pv 1) (vd zG j5) (jx _)))) js)
   (j9 (ji (yu qB yt j5 (pv 1) (pv 0))))),?_⟩
  have c:∀b:Bool,b=zf i t->Q (.bl b) H:=λb e=>by rw [e];exact k
  walk_at "r"
  refine qk (λh1=>?_) (λh1=>?_)
  ·walk_at "r"
   have a:i=0:=by have:=V.int.inj h1;right
   refine c _ ?_
   unfold zf
   rw [if_pos a]
   exact decide_eq_decide.mpr ⟨λz=>V.int.inj z,λz=>by rw [z]⟩
  ·have a:i≠0:=λz=>h1 (by rw [z];rfl)
   walk_at "r"
   refine qk (λh2=>?_) (λh2=>?_)
   ·walk_at "r"
    refine c _ ?_
    unfold zf
    rw [if_neg a]
    exact decide_eq_decide.mpr ⟨λz=>⟨h2,z⟩,λz=>z.2⟩
   ·refine c _ ?_
    unfold zf
    rw [if_neg a,decide_eq_false (λz=>h2 z.1)]
inductive spReach  (vs:List V) (H:Hp) (Q:VK) (z_3:XK):Prop
 | mk (i:Nat) (v:V) (r:Rch) (_:vs=[.int i,v]) (_:Qb H v r) (_:r.2.length<=100) (_:∀H',jm H H'->Q (.bl (okR i r)) H')
theorem vk:FnScope ["number","reach","to","slope"] ["number","reach"] (j8 yJ):=by walk_at "s"
theorem QU (Y:Nb2 mg) (I:mg "MOST_HEIGHTS" = some (.int 12 u0)) (G:mg "GREATEST_HEIGHT" = some (.int 99 u1)) (U:Cal P w K mg base 1 "leads_on" ["number","to"] spLeads) (F:Fun K "is_reach" "is_reach" yJ f fd):FnOk P w K mg base CX0 2 f fd ["number","reach"] spReach:=by
 refine F.ok vk (λS H Q E h=>?_) (λab A outer s H S Q E X h=>?_)
 ·obtain ⟨i,v,r,rfl,_⟩:=h
  rfl
 ·obtain ⟨i,v,⟨t,d⟩,rfl,⟨p,g,rfl,Z,D⟩,L,k⟩:=h
  have R:d.length<=100:=L
  have l:∀(b:Bool) (H':Hp),jm H H'->b=okR i (t,d)->Q (.bl b) H':=λb H' T e=>by rw [e];exact k H' T
  refine ⟨_,(j4 (xw (pv 1) (qg (n:=2) K rfl (jh (jb (i:=2) vk.nd rfl (aO rfl)) (jh (jb (i:=3) vk.nd rfl (aO rfl)) qa))))
   (j4 (jI (PW.pt (Jt (qX (zD (je U (X.mono ⋯) rfl (j0 (pv 0) ↥59)))) (gS (qX (xk qB qB j5 (jd (jg K) rfl Y.b_len aP (j0 (pv 3) j2)) (qR (v:=V.int 12) rfl I ⟨_,rfl⟩)))))) (j9 (ji wv)) js)
   (j9 (ji (jd (yG K rfl) rfl Y.b_all rn (j0 (qd (osc:=(j8 yJ)) (ON:=["number","reach","to","slope"]) (N:=["height"]) (own:=1) (caps:=[]) ⟨rfl,∅,∅,∅,rfl,∅⟩ rfl rfl rfl (uG K (pv 3)) (λ_ _ _ _ _=>(jb (i:=0) (show bg (["height"]:List Str) by decide +kernel) rfl (aO rfl))) ↥33 (λ_ _ _ _ _=>(yu qB qB j5 (pv 0) (qR (v:=V.int 99) rfl G ⟨_,rfl⟩)))) j2)))))),?_⟩
  walk_at "r"
  refine ⟨p,_,rfl,SqT.of Z,rfl,?_⟩
  refine ⟨_,_,rfl,_,_,rfl,rfl,?_⟩
  walk_at "r"
  refine ⟨i,t,rfl,?_⟩
  walk_at "r"
  cases C:zf i t with
  | false =>
   refine vO ?_
   walk_at "r"
   exact l _ H (jm.refl H) (by unfold okR;rw [C];rfl)
  | true =>
   refine kz ?_
   walk_at "r"
   refine ⟨_,_,rfl,.inr (SqT.of D),?_⟩
   walk_at "r"
   rw [ah]
   refine qk (λh1=>?_) (λh1=>?_)
   ·walk_at "r"
    refine zI (λh2=>?_) (λh2=>?_)
    ·walk_at "r"
     exact l _ H (jm.refl H) (by unfold okR;rw [C,decide_eq_false (λz=>h2 z.2)];rfl)
    ·walk_at "r"
     refine ⟨⟨_,SqT.of D⟩,λacc q=>?_⟩
     refine Xx (K:=K) (a:=g) (xs:=d.map V.int) (acc:=acc) (λj σ H2=>∃x:Option V,σ=[x]/\H2 acc=some (.lst (((d.take j).map λx=>decide (0<=x/\x<=99)).map V.bl))/\Ext acc H H2) ?_ ?_ ?_ ?_
     ·exact ⟨none,rfl,j6,Ext.put⟩
     ·rintro j σ H2 hj ⟨x,rfl,u,B⟩
      exact SqT.of (B _ _ D (j1 D q))
     ·rintro j v σ H2 m ⟨x,rfl,u,B⟩
      obtain ⟨z,rfl⟩:=vw m
      have M:d[j]? = some z:=by
       rw [ay] at m
       cases e:d[j]? with
       | none=>rw [e] at m;cases m
       | some y=>rw [e] at m;cases m;rfl
      have hj:j<d.length:=(List.getElem?_eq_some_iff.mp M).1
      have done:∀b:Bool,b=decide (0<=z/\z<=99)->∃ys,H2 acc=some (.lst ys)/\ys.length<sizeLine/\∃x:Option V,[some (V.int z)]=[x]/\upd H2 acc (.lst (ys++[V.bl b])) acc=some (.lst (((d.take (j+1)).map λx=>decide (0<=x/\x<=99)).map V.bl))/\Ext acc H (upd H2 acc (.lst (ys++[V.bl b]))):=λb e=>by
       refine ⟨_,u,by rw [ah,ah,aN];exact jj (),_,rfl,?_,B.trans Ext.put⟩
       rw [j6,qT (λx=>decide (0<=x/\x<=99)) d j z M,aE,e]
       rfl
      walk_at "r"
      refine qk (λJ=>?_) (λJ=>?_)
      ·walk_at "r"
       exact done _ (decide_eq_decide.mpr ⟨λy=>⟨J,y⟩,λy=>y.2⟩)
      ·exact done _ (decide_eq_false λy=>J y.1).symm
     ·rintro σ H2 ⟨x,rfl,u,B⟩
      rw [ah,aY] at u
      refine ⟨acc,_,rfl,SqL.of u,?_⟩
      refine l _ H2 (λc o O=>B c o O (j1 O q)) ?_
      unfold okR
      rw [C,decide_eq_true (show (1<=↥139/\ ↥139<=12) from ⟨h1,h2⟩),ij]
      rfl
   ·refine ⟨_,rfl,vO ?_⟩
    walk_at "r"
    exact l _ H (jm.refl H) (by unfold okR;rw [C,decide_eq_false (λz=>h1 z.1)];rfl)
inductive spWayDown (K:ag) (vs:List V) (H:Hp) (Q:VK) (z_3:XK):Prop
 | mk (p:Addr) (xs:List V) (rs:List Rch) (h:Nat) (_:vs=[.ref p,.int h]) (_:H p=some (.lst xs)) (_:qo H xs rs) (_:xO rs) (_:h<rs.length) (_:rs.length<=100) (_:∀t H',H t=none->H' t=some (.tup ((qO rs h).map V.int))->jm H H'->Q (.ref t) H')
theorem ya:FnScope ["reaches","head","way","reach"] ["reaches","head"] (j8 vY):=by walk_at "s"
theorem Xr (Y:Nb2 mg) (F:Fun K "way_down" "way_down" vY f fd):FnOk P w K mg base CX0 1 f fd ["reaches","head"] (spWayDown K):=by
 refine F.ok ya (λU H Q E h=>?_) (λae A outer s H U Q E hr h=>?_)
 ·obtain ⟨p,xs,rs,h,rfl,_⟩:=h
  rfl
 ·obtain ⟨p,xs,rs,h,rfl,I,y,L,hh,ac,k⟩:=h
  refine ⟨_,(j4 (jq 2 ya.nd (jD j2))
   (j4 (jq 3 ya.nd (pv 1))
   (j4 (QJ aV (ju JE (pv 3) j5 (jx _)) (j4 (jV (xZ K b7 b9 ba jY (pv 2) (j0 (pv 3) j2)))
   (j9 (jq 3 ya.nd (jr (qM K) (jr (jf K) (pv 0) (pv 3) (λ_ _=>rfl)) j5 (λ_ _=>rfl))))))
   (j9 (ji (qL (xW K) rfl Y.b_tuple cJ ↥59)))))),?_⟩
  walk_at "r"
  refine ⟨aG _,λwy H1 n m s1=>?_⟩
  walk_at "r"
  have ab:=y.length
  refine Xw (λσ H2=>∃(a:List Int) (r:Int),σ=[some (.ref p),some (.int h),some (.ref wy),some (.int r)]/\H2 wy=some (.lst (a.map V.int))/\Ext wy H1 H2 /\ -1<=r/\r<rs.length/\a.length+(r+1).toNat<=100/\a++(if r<0 then [] else qO rs r.toNat)=qO rs h) (λσ H2=>match σ with | [_,_,_,some (.int r)]=>(r+1).toNat | _=>0) ?_ ?_ ?_
  ·refine ⟨[],h,rfl,m,Ext.refl,(),(),by simp;right,?_⟩
   rw [if_neg ()]
   rfl
  ·rintro σ H2 ⟨a,r,rfl,b,d,r0,r1,rl,u⟩
   walk_at "r"
   refine qk (λB=>?_) (λB=>?_)
   ·have R:H2 p=some (.lst xs):=d _ _ (s1 _ _ I) (j1 I n)
    have D:qo H2 xs rs:=y.keep ((jp.same s1).trans (jp.lst d m))
    have hi:r.toNat<rs.length:=()
    obtain ⟨v,hv,q,g,rfl,G,hg⟩:=D.at (af hi)
    have l:=L.lt hi
    have x:=(kM (L _ hi)).2.1
    have J:=Qs (af hi)
    rw [J] at l x
    generalize (rs[r.toNat]'hi).1=C at l x J G
    walk_at "r"
    refine ⟨.inl ⟨rfl,_,SqL.of b⟩,?_⟩
    walk_at "r"
    refine ⟨wy,_,_,rfl,rfl,b,by rw [ah];exact jj (),?_⟩
    have S:q≠wy:=jo G b ↥4
    have O:upd H2 wy (.lst (a.map V.int++[.int r])) p=some (.lst xs):=by rw [j7 (j1 I n)];exact R
    have N:upd H2 wy (.lst (a.map V.int++[.int r])) q=some (.tup [.int C,.ref g]):=by rw [j7 S];exact G
    walk_at "r"
    refine ⟨_,_,_,_,rfl,rfl,SqL.of O,qI B hv,?_⟩
    refine ⟨_,_,_,_,rfl,rfl,SqT.of N,rfl,?_⟩
    refine ⟨⟨a++[r],C,rfl,?_,d.trans Ext.put,(),(),?_,?_⟩,?_⟩
    ·rw [j6,aE];rfl
    ·rw [ao,br];right
    ·rw [<- u,if_neg (show ¬r<0 by right),zZ L hi,J,cA]
     congr 1
     show r::_=_
     congr 1
     right
    ·show (C+1).toNat<(r+1).toNat
     right
   ·rw [if_pos (),aF] at u
    subst u
    walk_at "r"
    refine ⟨wy,_,rfl,SqL.of b,λt H3 l M X=>?_⟩
    exact k t H3 (s1.free (d.free l (λz=>by rw [z,b] at l;cases l))) M (λc o T=>X _ _ (d _ _ (s1 _ _ T) (j1 T n)))
  ·intro σ H2 Q1 Q2 hQ h
   obtain ⟨v,e,r⟩:=h
   obtain ⟨i,j,e1,d,Z,e3,r⟩:=r
   exact ⟨v,e,i,j,e1,d,Z,e3,hQ _ _ r⟩
inductive spCount (K:ag) (vs:List V) (H:Hp) (Q:VK) (z_3:XK):Prop
 | mk (p a:Addr) (xs:List V) (rs:List Rch) (way:List Int) (_:vs=[.ref p,.ref a]) (_:H p=some (.lst xs)) (_:qo H xs rs) (_: ↥114) (_:H a=some (.tup (way.map V.int))) (_:(∀r∈way,0<=r/\r<rs.length)) (_:way.length<=100) (_:∀H',jm H H'->Q (.int (jK rs way)) H')
theorem wM:FnScope ["reaches","way"] ["reaches","way"] (j8 xY):=by walk_at "s"
theorem wJ (I:Nb2 mg) (F:Fun K "count_places" "count_places" xY f fd):FnOk P w K mg base CX0 1 f fd ["reaches","way"] (spCount K):=by
 refine F.ok wM (λO H Q E h=>?_) (λZ A outer s H O Q E t h=>?_)
 ·obtain ⟨p,a,xs,rs,z,rfl,_⟩:=h
  rfl
 ·obtain ⟨p,a,xs,rs,z,rfl,L,u,G,D,B,Y,k⟩:=h
  have T:=u.length
  refine ⟨_,(j9 (ji (jd (kI K rfl) rfl I.b_sum Af (j0 (qd (osc:=(j8 xY)) (ON:=["reaches","way"]) (N:=["reach","reaches"]) (own:=1) (caps:=[0]) ⟨rfl,∅,∅,∅,rfl,∅⟩ rfl rfl rfl (uG K (pv 1)) (λ_ _ _ _ _=>(jb (i:=0) (show bg (["reach","reaches"]:List Str) by decide +kernel) rfl (aO rfl))) ↥33 (λ_ _ _ _ _=>(jd (jg K) rfl I.b_len aP (j0 (jr (qM K) (jr (jf K) (pv 1) (pv 0) (λ_ _=>rfl)) j5 (λ_ _=>rfl)) j2)))) j2)))),?_⟩
  walk_at "r"
  refine ⟨⟨_,SqT.of D⟩,λacc b=>?_⟩
  refine Xx (K:=K) (a:=a) (xs:=z.map V.int) (acc:=acc) (λj σ H2=>∃x:Option V,σ=[x,some (.ref p)]/\H2 acc=some (.lst (((z.take j).map λr=>((yl rs r.toNat).length:Int)).map V.int))/\Ext acc H H2) ?_ ?_ ?_ ?_
  ·exact ⟨none,rfl,j6,Ext.put⟩
  ·rintro j σ H2 U ⟨x,rfl,m,d⟩
   exact SqT.of (d _ _ D (j1 D b))
  ·rintro j v σ H2 l ⟨x,rfl,m,d⟩
   obtain ⟨r,rfl⟩:=vw l
   have C:z[j]? = some r:=by
    rw [ay] at l
    cases e:z[j]? with
    | none=>rw [e] at l;cases l
    | some y=>rw [e] at l;cases l;rfl
   have U:j<z.length:=(List.getElem?_eq_some_iff.mp C).1
   have t:=B r (aA C)
   have hi:r.toNat<rs.length:=()
   obtain ⟨v,J,q,g,rfl,R,X⟩:=(u.keep (jp.new d b)).at (af hi)
   walk_at "r"
   refine ⟨_,_,_,_,rfl,rfl,SqL.of (d _ _ L (j1 L b)),qI t.1 J,?_⟩
   refine ⟨_,_,_,_,rfl,rfl,SqT.of R,rfl,?_⟩
   refine ⟨_,_,rfl,.inr (SqT.of X),?_⟩
   refine ⟨_,m,by rw [ah,ah,aN];exact jj (),_,rfl,?_,d.trans Ext.put⟩
   rw [j6,qT (λr:Int=>((yl rs r.toNat).length:Int)) z j r C,aE,Qd (af hi),ah]
   rfl
  ·rintro σ H2 ⟨x,rfl,m,d⟩
   rw [ah,aY] at m
   refine ⟨acc,_,rfl,SqL.of m,by rw [ah];right,λn S=>?_,?_⟩
   ·obtain ⟨r,t,rfl⟩:=List.mem_map.mp S
    have hb:=B r t
    have hi:r.toNat<rs.length:=()
    have:=G _ (c7 hi)
    rw [Qd (af hi)]
    right
   ·exact k H2 λc o M=>d c o M (j1 M b)
inductive spLanes (K:ag) (Pt:Addr) (vs:List V) (H:Hp) (Q:VK) (z_3:XK):Prop
 | mk (p:Addr) (xs:List V) (rs:List Rch) (_:vs=[.ref p]) (_:H p=some (.lst xs)) (_:qo H xs rs) (_:xO rs) (_:rs.length<=60) (_:qV H Pt) (_:∀l H' out ws,H l=none->H' l=some (.lst out)->yH H' out ws->qt rs ws->Ext Pt H H'->qV H' Pt->Q (.ref l) H')
theorem gp:FnScope ["reaches","entered","ways"] ["reaches"] (j8 xr):=by walk_at "s"
theorem QD {α:Type}(l:List α) (d:α):((aJ l.length).map λi=>l.getD i d)=l:=by
 apply mn
 ·simp
 ·intro i h1 h2
  simp [h2]
theorem Jp {vs:List V}{ws:List (List Int)}(h:yH H vs ws):∀z:List Nat,(∀i∈z,i<vs.length)->yH H (z.map λi=>vs.getD i V.non) (z.map λi=>ws.getD i [])
 | [],_=>.nil
 | i::z,b=>by
  refine .cons ?_ (Jp h z λj c=>b j (aH _ c))
  have hi:=b i aK
  obtain ⟨y,f,a,e,d⟩:=Paired.get h (af hi)
  refine ⟨a,?_,?_⟩
  ·show vs.getD i V.non=V.ref a
   rw [aq,af hi];exact e
  ·show H a=some (.tup ((ws.getD i []).map V.int))
   rw [aq,f];exact d
theorem Qr {j:List (List Int)}{vs z:List V}(I:j=(jw rs).map (qO rs)) (G:yH H vs j) (k:jp H H') (hs:uC wP (λi=>(j.getD i []).reverse) vs z):∃ws,yH H' z ws/\qt rs ws:=by
 obtain ⟨a,c,e,b⟩:=hs
 have d:∀i∈a,i<vs.length:=λi hi=>by have:=c.mem_iff.mp hi;simpa using this
 refine ⟨a.map λi=>j.getD i [],by rw [e];exact (Jp G a d).keep k,?_,?_⟩
 ·have:=c.map λi=>j.getD i []
  rw [G.length,QD] at this
  rw [<- I]
  exact this
 ·rw [bW]
  exact b
theorem Vg {oc:aj}{od:Option Addr}{a2:Array (Option aj)}{kV pm:aj}(nb:Nb2 mg) (G:Cal P w K mg base 1 "way_down" ["reaches","head"] (spWayDown K)) (CH:PySem.W.CodeHd base c Pt) (bd:Bm mg base)
  (l:K.lookup f=some ⟨oc,od,.func (bF "lanes" "lanes" (qf xr) (jT xr) (j8 xr) .none kV doc pm an (.ref c) ct),a2⟩) (cd:cC K (.ref c) "lanes" = true) :
  FnOk P w K mg base CX0 5 f (bF "lanes" "lanes" (qf xr) (jT xr) (j8 xr) .none kV doc pm an (.ref c) ct) ["reaches"] (spLanes K Pt):=by
 refine Fun.okC l cd gp (λb H Q E h=>?_) (λA outer s H b Q E S h=>?_)
 ·obtain ⟨p,xs,rs,rfl,_⟩:=h
  rfl
 ·obtain ⟨p,xs,rs,rfl,U,R,L,bk,hT,k⟩:=h
  have Y:=R.length
  refine ⟨_,(j4 (zS (i:=1) gp.nd rfl (dQ rfl) (qd (osc:=(j8 xr)) (ON:=["reaches","entered","ways"]) (N:=["to","slope"]) (own:=2) (caps:=[]) ⟨rfl,∅,∅,∅,rfl,∅⟩ rfl rfl rfl (jW K (pv 0)) (λ_ _ _ _ _=>(qg (n:=2) K rfl (jh (jb (i:=0) (show bg (["to","slope"]:List Str) by decide +kernel) rfl (aO rfl)) (jh (jb (i:=1) (show bg (["to","slope"]:List Str) by decide +kernel) rfl (aO rfl)) qa)))) ↥33 (λ_ _ _ _ _=>(pv 0))))
   (j4 (JT (j:=2) (osc:=(j8 xr)) (ON:=["reaches","entered","ways"]) (N:=["head","reaches","entered"]) (own:=1) (caps:=[0,1]) ⟨rfl,∅,∅,∅,rfl,∅⟩ gp.nd rfl (aO rfl) rfl rfl rfl (qi rfl nb.b_range (j0 (jd (jg K) rfl nb.b_len aP ↥53) j2)) (λ_ _ _ _ _=>(jb (i:=0) (show bg (["head","reaches","entered"]:List Str) by decide +kernel) rfl (aO rfl))) (λ_ _ _ _ _=>(yq (ju (zn K) (pv 0) (pv 2) ↥52))) (λ_ _ _ _ _=>(je G (S.mono ⋯) rfl (j0 (pv 1) ↥53))))
   (j9 (ji (ZE (N:=["way"]) (x:="way") (k:=0) rfl nb.b_sorted ↥59 rfl CH bd (S.mono ⋯) (by walk_at "s") (λ_ _ _ _=>rfl) (λ_ _ _ _=>(Wa K (pv 0)))))))),?_⟩
  walk_at "r"
  refine ⟨⟨_,SqL.of U⟩,λO d=>?_⟩
  refine qv (K:=K) (a:=p) (xs:=xs) (acc:=O) (λj σ H2=>∃x y:Option V,σ=[x,y]/\H2 O=some (.lst (((rs.take j).map (·.1)).map V.int))/\Ext O H H2) ?_ ?_ ?_ ?_
  ·exact ⟨none,none,rfl,j6,Ext.put⟩
  ·rintro j σ H2 hj ⟨x,y,rfl,B,e⟩
   exact SqL.of (e _ _ U (j1 U d))
  ·rintro j v σ H2 hv ⟨x,y,rfl,B,e⟩
   obtain ⟨r,S,q,g,rfl,hq,hg⟩:=(R.keep (jp.new e d)).get hv
   have hj:j<rs.length:=(List.getElem?_eq_some_iff.mp S).1
   walk_at "r"
   refine ⟨q,_,rfl,SqT.of hq,rfl,?_⟩
   refine ⟨_,_,rfl,_,_,rfl,rfl,?_⟩
   walk_at "r"
   refine ⟨_,B,by rw [ah,ah,aN];exact jj (),_,_,rfl,?_,e.trans Ext.put⟩
   rw [j6,qT (λr:Rch=>r.1) rs j r S,aE]
   rfl
  ·rintro σ H2 ⟨x,y,rfl,B,e⟩
   rw [Y,aY] at B
   have T:=e _ _ U (j1 U d)
   have al:qo H2 xs rs:=R.keep (jp.new e d)
   have a9:qV H2 Pt:=hT.extN d e
   walk_at "r"
   refine ⟨_,_,rfl,.inl (SqL.of T),?_⟩
   refine ⟨_,rfl,(),(),λwy u=>?_⟩
   rw [Y]
   refine xj (lo:=0) (n:=((rs.length:Nat):Int).toNat) (acc:=wy) (λj σ I=>∃(x:Option V) (b:List V),σ=[x,some (.ref p),some (.ref O)]/\I wy=some (.lst b)/\yH I b (((aJ j).filter (jZ rs)).map (qO rs))/\Ext wy H2 I/\b.length<=j) ?_ ?_ ?_
   ·exact ⟨none,[],rfl,j6,.nil,Ext.put,ar _⟩
   ·rintro j σ I hj ⟨x,b,rfl,D,C,m,l4⟩
    have a6:j<rs.length:=()
    have as:=m _ _ B (j1 B u)
    have a5:=m _ _ T (j1 T u)
    have ae:qo I xs rs:=al.keep (jp.new m u)
    have er:(aJ (j+1)).filter (jZ rs)=(aJ j).filter (jZ rs)++(if jZ rs j=true then [j] else []):=by
     rw [cE,bL]
     congr 1
     by_cases z:jZ rs j=true
     ·rw [if_pos z];simp [z]
     ·rw [if_neg z];simp [z]
    walk_at "r"
    refine ⟨O,_,rfl,.inl (SqL.of as),rfl,yA _,?_⟩
    walk_at "r"
    rw [eQ,vy]
    refine zI (λZ=>?_) (λZ=>?_)
    ·have hb:jZ rs j=true:=by unfold jZ;rw [decide_eq_false (show ¬(j:Int)∈tos rs from Z)];rfl
     walk_at "r"
     refine ⟨p,xs,rs,j,rfl,a5,ae,L,a6,(),λt H5 ht a0 s5=>?_⟩
     have nt:t≠wy:=λz=>by rw [z,D] at ht;cases ht
     have h5:=s5 _ _ D
     refine ⟨b,h5,jj (),_,b++[.ref t],rfl,j6,?_,λc o M n=>by rw [j7 n];exact s5 _ _ (m c o M n),by rw [ao,br];right⟩
     rw [er,if_pos hb,aE]
     exact yH.keep (jp.lst Ext.put h5) (bV (C.keep (jp.same s5)) ⟨t,rfl,a0⟩)
    ·have hb:¬jZ rs j=true:=by unfold jZ;rw [decide_eq_true (show (j:Int)∈tos rs from Z)];exact au
     refine ⟨_,b,rfl,D,?_,m,()⟩
     rw [er,if_neg hb,aF]
     exact C
   ·rintro σ I ⟨x,b,rfl,D,C,m,l4⟩
    have ac:qV I Pt:=a9.extN u m
    obtain ⟨ps,J⟩:=ac.ne
    rw [bE] at C l4
    have ab:=C.length
    walk_at "r"
    refine ⟨ac,wy,b,λi=>((((jw rs).map (qO rs)).getD i []).reverse),rfl,SqL.of D,(),λi hi z=>?_,λH5 X5 i v hv=>?_,λlo H5 aL X am X5 T5 hs=>?_⟩
    ·have a7:i<(jw rs).length:=by
      rw [ah] at ab
      exact Nat.lt_of_lt_of_eq hi ab
     have z2:((jw rs).map (qO rs)).getD i []=[]:=List.reverse_eq_nil_iff.mp z
     rw [aq,ay,af a7] at z2
     exact Uz _ z2
    ·obtain ⟨y,e2,a,rfl,ha⟩:=Paired.get C hv
     have a8:=jp.tbl X5 J _ _ ha
     walk_at "r"
     refine ⟨a,_,rfl,SqT.of a8,λq H6 hq a4 s6=>⟨s6,q,rfl,?_⟩⟩
     show H6 q=some (.tup (((((jw rs).map (qO rs)).getD i []).reverse).map V.int))
     rw [a4,aq,show ((jw rs).map (qO rs))[i]? = some y from e2,<- sf]
     rfl
    ·obtain ⟨ws,hw,a3⟩:=Qr (rs:=rs) rfl C (jp.tbl X5 J) hs
     have bi:wy≠Pt:=jo D J ↥4
     have bl:O≠Pt:=jo (m _ _ B (j1 B u)) J ↥4
     have ap:H lo=none:=by
      have a1:H2 lo=none:=m.free X (λz=>by rw [z,D] at X;cases X)
      exact e.free a1 (λz=>by rw [z,B] at a1;cases a1)
     exact k lo H5 aL ws ap am hw a3 (λc o M n=>X5 _ _ (m _ _ (e _ _ M (j1 M d)) (j1 (e _ _ M (j1 M d)) u)) n) T5
inductive spFits (K:ag) (vs:List V) (H:Hp) (Q:VK) (z_3:XK):Prop
 | mk (p wl:Addr) (xs out:List V) (rs:List Rch) (ws:List (List Int)) (_:vs=[.ref p,.ref wl]) (_:H p=some (.lst xs)) (_:qo H xs rs) (_: ↥114) (_:H wl=some (.lst out)) (_:yH H out ws) (_:qt rs ws) (_:xO rs) (_:rs.length<=60) (_:∀H',jm H H'->Q (.bl (decide (↥102<=6) && (jw rs).all λh=>decide (jK rs (qO rs h)<=30))) H')
theorem UH:FnScope ["reaches","ways"] ["reaches","ways"] (j8 Q6):=by walk_at "s"
theorem UY (Y:Nb2 mg) (I:mg "MOST_LANES" = some (.int 6 u0)) (z:mg "LONGEST_LANE" = some (.int 30 u1)) (G:Cal P w K mg base 1 "count_places" ["reaches","way"] (spCount K)) (F:Fun K "fits" "fits" Q6 f fd):FnOk P w K mg base CX0 2 f fd ["reaches","ways"] (spFits K):=by
 refine F.ok UH ↥27 (λal A outer s H vs Q E hr h=>?_)
 ·obtain ⟨p,U,xs,B,rs,ws,rfl,_⟩:=h
  rfl
 ·obtain ⟨p,U,xs,B,rs,ws,rfl,hp,Z,S,u,C,m,L,ac,k⟩:=h
  have l:=C.length
  have D:=m.length
  have ae:(jw rs).length<=60:=by
   unfold jw
   exact aI (bM _ _) (by rw [bz];exact ac)
  have M:∀(b:Bool) (H':Hp),jm H H'->b=(decide (↥102<=6) && (jw rs).all λh=>decide (jK rs (qO rs h)<=30))->Q (.bl b) H':=λb H' sm e=>by rw [e];exact k H' sm
  refine ⟨_,(j9 (ji (vc (zm qB (jd (jg K) rfl Y.b_len aP ↥51) (qR (v:=V.int 6) rfl I ⟨_,rfl⟩) (jx _)) (yX (jd (yG K rfl) rfl Y.b_all rn (j0 (qd (osc:=(j8 Q6)) (ON:=["reaches","ways"]) (N:=["way","reaches"]) (own:=1) (caps:=[0]) ⟨rfl,∅,∅,∅,rfl,∅⟩ rfl rfl rfl (jW K (pv 1)) (λ_ _ _ _ _=>(jb (i:=0) (show bg (["way","reaches"]:List Str) by decide +kernel) rfl (aO rfl))) ↥33 (λ_ _ _ _ _=>(zm qB (je G (hr.mono ⋯) rfl (j0 (pv 1) ↥53)) (qR (v:=V.int 30) rfl z ⟨_,rfl⟩) (jx _)))) j2)))))),?_⟩
  walk_at "r"
  refine ⟨_,_,rfl,.inl (SqL.of u),?_⟩
  walk_at "r"
  refine qk (λh1=>?_) (λh1=>?_)
  ·walk_at "r"
   refine ⟨⟨_,SqL.of u⟩,λacc d=>?_⟩
   refine qv (K:=K) (a:=U) (xs:=B) (acc:=acc) (λj σ H2=>∃x:Option V,σ=[x,some (.ref p)]/\H2 acc=some (.lst (((ws.take j).map λw=>decide (jK rs w<=30)).map V.bl))/\Ext acc H H2) ?_ ?_ ?_ ?_
   ·exact ⟨none,rfl,j6,Ext.put⟩
   ·rintro j σ H2 hj ⟨x,rfl,q,g⟩
    exact SqL.of (g _ _ u (j1 u d))
   ·rintro j v σ H2 hv ⟨x,rfl,q,g⟩
    obtain ⟨R,T,a,rfl,ha⟩:=Paired.get (C.keep (jp.new g d)) hv
    have hj:j<ws.length:=(List.getElem?_eq_some_iff.mp T).1
    obtain ⟨hd,ab,O⟩:=m.mem (aA T)
    have J:=xS ab
    have t:R.length<=100:=by rw [O];have:=ut L hd J;right
    walk_at "r"
    refine ⟨p,a,xs,rs,R,rfl,g _ _ hp (j1 hp d),Z.keep (jp.new g d),S,ha,by rw [O];exact zq L hd J,t,λH4 X=>?_⟩
    walk_at "r"
    refine ⟨_,X _ _ q,by rw [ah,ah,aN];exact jj (),_,rfl,?_,λc o y n=>by rw [j7 n];exact X _ _ (g c o y n)⟩
    rw [j6,qT (λw=>decide (jK rs w<=30)) ws j R T,aE]
    rfl
   ·rintro σ H2 ⟨x,rfl,q,g⟩
    rw [l,aY] at q
    refine ⟨acc,_,rfl,SqL.of q,?_⟩
    refine M _ H2 (λc o y=>g c o y (j1 y d)) ?_
    rw [decide_eq_true (show ↥102<=6 by rw [<- D,<- l];exact h1),fe,m.all]
  ·refine M _ H (jm.refl H) ?_
   rw [decide_eq_false (show ¬ ↥102<=6 by rw [<- D,<- l];exact h1)]
   rfl
inductive spValley (K:ag) (Pt:Addr) (vs:List V) (H:Hp) (Q:VK) (z_3:XK):Prop
 | mk (p:Addr) (xs:List V) (rs:List Rch) (_:vs=[.ref p]) (_:H p=some (.lst xs)) (_:qo H xs rs) (_: ↥114) (_:rs.length<=60) (_:qV H Pt) (_:∀H',Ext Pt H H'->qV H' Pt->Q (.bl (y4 rs)) H')
theorem Qf:FnScope ["reaches"] ["reaches"] (j8 y6):=by walk_at "s"
theorem JV (nb:Nb2 mg) (G:mg "MOST_REACHES" = some (.int 8 u0)) (I:Cal P w K mg base 2 "is_reach" ["number","reach"] spReach) (U:Cal P w K mg base 5 "lanes" ["reaches"] (spLanes K Pt)) (Y:Cal P w K mg base 2 "fits" ["reaches","ways"] (spFits K)) (F:Fun K "is_valley" "is_valley" y6 f fd):FnOk P w K mg base CX0 6 f fd ["reaches"] (spValley K Pt):=by
 refine F.ok Qf ↥27 (λaL A outer s H vs Q E g h=>?_)
 ·obtain ⟨p,xs,rs,rfl,_⟩:=h
  rfl
 ·obtain ⟨p,xs,rs,rfl,m,C,R,ab,X,k⟩:=h
  have q:=C.length
  have S:∀(b:Bool) (H':Hp),Ext Pt H H'->qV H' Pt->b=y4 rs->Q (.bl b) H':=λb H' x t e=>by rw [e];exact k H' x t
  refine ⟨_,(j4 (jI (qX (xk qB qB j5 (jd (jg K) rfl nb.b_len aP ↥53) (qR (v:=V.int 8) rfl G ⟨_,rfl⟩))) (j9 (ji wv)) js)
   (j4 (jI (qX (zD (jd (yG K rfl) rfl nb.b_all rn (j0 (qd (osc:=(j8 y6)) (ON:=["reaches"]) (N:=["number","reach"]) (own:=2) (caps:=[]) ⟨rfl,∅,∅,∅,rfl,∅⟩ rfl rfl rfl (Qa K rfl nb.b_enumerate ↥53) (λ_ _ _ _ _=>(qg (n:=2) K rfl (jh (jb (i:=0) (show bg (["number","reach"]:List Str) by decide +kernel) rfl (aO rfl)) (jh (jb (i:=1) (show bg (["number","reach"]:List Str) by decide +kernel) rfl (aO rfl)) qa)))) ↥33 (λ_ _ _ _ _=>(je I (g.mono ⋯) rfl (j0 (pv 0) ↥51)))) j2)))) (j9 (ji wv)) js)
   (j9 (ji (je Y (g.mono ⋯) rfl (j0 (pv 0) (j0 (je U (g.mono ⋯) rfl ↥53) j2))))))),?_⟩
  walk_at "r"
  refine ⟨_,_,rfl,.inl (SqL.of m),?_⟩
  walk_at "r"
  have no:¬(1<=(xs.length:Int)/\(xs.length:Int)<=8)->Q (.bl false) H:=λz=>S _ H Ext.refl X (by unfold y4;rw [decide_eq_false (by rw [<- q];exact z)];rfl)
  refine qk (λh1=>?_) (λh1=>?_)
  ·walk_at "r"
   refine zI (λh2=>?_) (λh2=>?_)
   ·walk_at "r"
    exact no λz=>h2 z.2
   ·have ac:decide (1<=(rs.length:Int)/\(rs.length:Int)<=8)=true:=decide_eq_true (by rw [<- q];exact ⟨h1,h2⟩)
    walk_at "r"
    refine ⟨⟨_,SqL.of m⟩,λacc u=>?_⟩
    refine Y6 (K:=K) (a:=p) (xs:=xs) (acc:=acc) (λj σ H2=>∃x y:Option V,σ=[x,y]/\H2 acc=some (.lst ((((aJ j)).map λi=>okR i (rs.getD i (-1,[]))).map V.bl))/\Ext acc H H2) ?_ ?_ ?_ ?_
    ·exact ⟨none,none,rfl,j6,Ext.put⟩
    ·rintro j σ H2 hj ⟨x,y,rfl,B,D⟩
     exact SqL.of (D _ _ m (j1 m u))
    ·rintro j v σ H2 t hv ⟨x,y,rfl,B,D⟩ M
     have as:acc≠t:=λz=>by rw [z] at B;rw [B] at M;cases M
     obtain ⟨r,g,ae⟩:=(C.keep (jp.new D u)).get hv
     have hj:j<rs.length:=(List.getElem?_eq_some_iff.mp g).1
     walk_at "r"
     refine ⟨t,_,rfl,SqT.of j6,rfl,?_⟩
     refine ⟨_,_,rfl,_,_,rfl,rfl,?_⟩
     walk_at "r"
     refine ⟨j,v,r,rfl,ae.keep (jp.same (jm.new M)),R r (aA g),λH4 J=>?_⟩
     refine ⟨_,J _ _ ((jm.new M) _ _ B),by rw [ah,ah,bz];exact jj (),_,_,rfl,?_,λc o T n=>by rw [j7 n];exact J _ _ ((jm.new M) _ _ (D c o T n))⟩
     rw [j6,cE,aE,aE]
     simp only [aS,fJ]
     rw [aq,g]
     rfl
    ·rintro σ H2 ⟨x,y,rfl,B,D⟩
     rw [q] at B
     have d:jm H H2:=λc o T=>D c o T (j1 T u)
     refine ⟨acc,_,rfl,SqL.of B,?_⟩
     walk_at "r"
     have ap:(((aJ rs.length).map λi=>okR i (rs.getD i (-1,[]))).all λb=>b)=wu rs:=by rw [ij];rfl
     rw [ap]
     cases O:wu rs with
     | false =>
      refine vO ?_
      walk_at "r"
      exact S _ H2 (Ext.of_same d) (X.same d) (by unfold y4;rw [O,ac];rfl)
     | true =>
      refine kz ?_
      have L:=qx O
      walk_at "r"
      refine ⟨p,xs,rs,rfl,d _ _ m,C.keep (jp.same d),L,ab,X.same d,λl H3 al ws hl an w3 r3 X3 T3=>?_⟩
      obtain ⟨ps,Z⟩:=(X.same d).ne
      have am:=X3 _ _ (d _ _ m) (jo (d _ _ m) Z ↥4)
      refine ⟨p,l,xs,al,rs,ws,rfl,am,C.keep ((jp.same d).trans (jp.tbl X3 Z)),R,an,w3,r3,L,ab,λH4 J=>?_⟩
      exact S _ H4 (((Ext.of_same d).trans X3).trans (Ext.of_same J)) (T3.same J) (by unfold y4;rw [O,ac];rfl)
  ·refine ⟨_,rfl,vO ?_⟩
   walk_at "r"
   exact no λz=>h1 z.1
theorem uK:FnScope ["_law_number","_law_turn","_law_one"] ["_law_number","_law_turn"] (j8 vp):=by walk_at "s"
theorem VU (F:Fun K "_law_mixed" "_law_mixed" vp f fd):FnOk P w K mg base CX0 1 f fd ["_law_number","_law_turn"] spMixed:=by
 refine F.ok uK (λc H Q E h=>?_) (λd A outer s H c Q E e h=>?_)
 ·obtain ⟨a,b,rfl,_⟩:=h
  rfl
 ·obtain ⟨a,b,rfl,k⟩:=h
  refine ⟨_,(j4 (jq 2 uK.nd (jk zC (jk jO (jk jO (jk wq (pv 0) j5) (jk wq (pv 1) j5)) j5) j5))
   (j9 (ji (jk uL (jk zC (jk jO (jk jO (jk wq (pv 2) (jk jO (jk zC (pv 2) j5) j5)) (jk wq (pv 1) j5)) (jk zC (jk uL (pv 0) j5) j5)) j5) j5)))),?_⟩
  walk_at "r"
  exact k _
theorem vo:FnScope ["_law_box_here","_law_size","_law_left","_law_cell"] ["_law_box_here","_law_size"] (j8 ua):=by walk_at "s"
theorem UB (G:Nb mg) (j:Cal P w K mg base 1 "_law_mixed" ["_law_number","_law_turn"] spMixed) (F:Fun K "_law_take" "_law_take" ua f fd):FnOk P w K mg base CX0 2 f fd ["_law_box_here","_law_size"] spTakeL:=by
 refine F.ok vo (λt H Q E h=>?_) (λC A outer s H t Q E q h=>?_)
 ·obtain ⟨L,b,n,rfl,_⟩:=h
  rfl
 ·obtain ⟨L,b,n,rfl,B,⟨l,y⟩,k⟩:=h
  obtain ⟨g,a,r,c,d,D,e,i,p⟩:=B
  refine ⟨_,(j4 (xw (jk jO ↥23 j5) (kJ (pv 0) j5 vx))
   (j4 (jI (ju Wq ↥23 j5 (jx _)) (j4 (jq 2 vo.nd ↥23)
   (j4 (xw (jk uL (pv 2) (pv 1)) (kJ (pv 0) j5 vx))
   (j9 (ji (jk zC (pv 2) (pv 1)))))) js)
   (j4 (jI (ju JE ↥23 (jd (jg K) rfl G.b_len aP (j0 ↥23 j2)) (jx _)) (j9 (ji (jk zC (je j (q.mono ⋯) rfl (j0 ↥23 (j0 ↥23 j2))) (pv 1)))) js)
   (j4 (jq 3 vo.nd (jr (jf K) ↥23 ↥23 (λ_ _=>rfl)))
   (j4 (xw (jk jO ↥23 j5) (kJ (pv 0) j5 vx))
   (j4 (jI (ju yt (pv 3) (jk yf j5 j5) (jx _)) (j9 (ji (jk zC (je j (q.mono ⋯) rfl (j0 (pv 3) (j0 ↥23 j2))) (pv 1)))) js)
   (j4 (xw (jk uL (pv 3) (pv 1)) (kJ (pv 0) j5 vx))
   (j9 (ji (jk zC (pv 3) (pv 1))))))))))),?_⟩
  walk_at "r"
  refine qk (λh1=>?_) (λh1=>?_)
  ·walk_at "r"
   exact k _ _ (eY _ ()) (dA _ l) ⟨g,_,_,_,_,j6,e,↥143 _ _ i e,p⟩ ↥143
  ·have m:∀o,SqL K (upd H b o) L (g.map V.int):=λo=>SqL.of (Ext.put _ _ i e)
   walk_at "r"
   refine ⟨_,_,rfl,.inl (m _),?_⟩
   walk_at "r"
   refine qk (λh2=>?_) (λh2=>?_)
   ·walk_at "r"
    refine ⟨_,_,rfl,λz=>?_⟩
    walk_at "r"
    exact k _ _ (eY _ ()) (dA _ l) ⟨g,_,_,_,_,j6,e,Ext.put _ _ i e,p⟩ Ext.put
   ·have x:a<g.length:=by
     rw [ah] at h2
     right
    obtain ⟨z,u⟩:=uh p x
    walk_at "r"
    refine ⟨_,_,_,_,rfl,rfl,m _,u,?_⟩
    walk_at "r"
    refine qk (λv=>?_) (λv=>?_)
    ·walk_at "r"
     refine ⟨_,_,rfl,λz=>?_⟩
     walk_at "r"
     exact k _ _ (eY _ ()) (dA _ l) ⟨g,_,_,_,_,j6,e,↥143 _ _ i e,()⟩ ↥143
    ·walk_at "r"
     exact k _ _ (eY _ ()) (dA _ l) ⟨g,_,_,_,_,j6,e,((↥143).trans Ext.put) _ _ i e,()⟩ ((↥143).trans Ext.put)
theorem yP:FnScope ["_law_script","_law_seed","_law_cell"] ["_law_script"] (j8 wd):=by walk_at "s"
theorem GB (G:Nb mg) (F:Fun K "_law_box" "_law_box" wd f fd):FnOk P w K mg base CX0 1 f fd ["_law_script"] (spBoxL K):=by
 refine F.ok yP (λp H Q E h=>?_) (λq A outer s H p Q E t h=>?_)
 ·obtain ⟨a,g,rfl,_⟩:=h
  rfl
 ·obtain ⟨a,g,rfl,j,k⟩:=h
  refine ⟨_,(j4 (jq 1 yP.nd j5)
   (j4 (qy aV rfl (jW K (pv 0)) (jb (i:=2) yP.nd rfl (aO rfl)) (j9 (jq 1 yP.nd (jk zC (jk jO (jk jO (jk wq (pv 1) j5) (jk zC (pv 2) j5)) j5) j5))))
   (j9 (ji (jD (j0 (qL (qS K) rfl G.b_list bZ ↥53) (j0 j5 (j0 j5 (j0 j5 ↥51))))))))),?_⟩
  walk_at "r"
  refine ⟨⟨_,j⟩,zx (K:=K) (a:=a) (xs:=g.map V.int) (λi σ H2=>∃(c:Int) (v:Option V),σ=[some (.ref a),some (.int c),v]/\H2=H) ⟨_,_,rfl,rfl⟩ (λi σ H2 _ ⟨_,_,_,e⟩=>by rw [e];exact j) ?_ ?_⟩
  ·rintro i y σ H2 hi ⟨c,v,rfl,rfl⟩
   obtain ⟨z,rfl⟩:=vw hi
   walk_at "r"
   exact ⟨_,_,rfl,rfl⟩
  ·rintro σ H2 ⟨c,v,rfl,rfl⟩
   walk_at "r"
   refine ⟨a,_,rfl,.inl j,λL B u d m=>?_⟩
   walk_at "r"
   refine ⟨by show 5<=sizeLine;decide,λb x o n l=>?_⟩
   exact k L b _ (m.free o) ⟨g,_,_,_,_,n,j1 d o,l _ _ d,og _⟩ (m.trans l)
noncomputable def good (t:T3):Bool:=decide (0<=t.1/\t.1<=100/\0<=t.2.1/\t.2.1<=9/\0<=t.2.2/\t.2.2<=9)
noncomputable def gr (ts:List T3):Bool:=decide (1<=↥107/\ ↥107<=12) && ts.all good
theorem Ww {ts:List T3}(h:¬(1<=↥107/\ ↥107<=12)):gr ts=false:=by unfold gr;rw [decide_eq_false h];rfl
theorem Gp {ts:List T3}(h:1<=↥107/\ ↥107<=12):gr ts=(ts.map good).all λb=>b:=by
 unfold gr
 rw [decide_eq_true h,fe,ij]
 rfl
inductive spGood  (vs:List V) (H:Hp) (Q:VK) (z_3:XK):Prop
 | mk (p:Addr) (t:T3) (_:vs=[.ref p]) (_:H p=some (yW t)) (_:Q (.bl (good t)) H)
local macro_rules | `(tactic| walk_at "forks")=>`(tactic| (walk_at "r";first | (refine qk (fun _=>?_) (fun _=>?_) <;> walk_at "forks") | skip))
theorem zp:FnScope ["row","line","snow","sun"] ["row"] (j8 yR):=by walk_at "s"
theorem Jf (G:mg "HIGHEST_LINE" = some (.int 100 u0)) (j:mg "MOST_HANDS" = some (.int 9 I)) (F:Fun K "is_weather" "is_weather" yR f fd):FnOk P w K mg base CX0 1 f fd ["row"] spGood:=by
 refine F.ok zp (λa H Q E h=>?_) (λc A outer s H a Q E e h=>?_)
 ·obtain ⟨p,t,rfl,_⟩:=h
  rfl
 ·obtain ⟨p,⟨l,d,u⟩,rfl,b,k⟩:=h
  refine ⟨_,(j4 (xw (pv 0) (qg (n:=3) K rfl (jh (jb (i:=1) zp.nd rfl (aO rfl)) (jh (jb (i:=2) zp.nd rfl (aO rfl)) (jh (jb (i:=3) zp.nd rfl (aO rfl)) qa)))))
   (j9 (ji (vc (yu qB qB j5 (pv 1) (qR (v:=V.int 100) rfl G ⟨_,rfl⟩)) (vc (yu qB qB j5 (pv 2) (qR (v:=V.int 9) rfl j ⟨_,rfl⟩)) (yX (yu qB qB j5 (pv 3) (qR (v:=V.int 9) rfl j ⟨_,rfl⟩)))))))),?_⟩
  walk_at "r"
  refine ⟨p,_,rfl,SqT.of b,rfl,?_⟩
  refine ⟨_,_,rfl,_,_,rfl,_,_,rfl,rfl,?_⟩
  walk_at "forks"
  all_goals
   refine Eq.mp (congrArg (λz=>Q (V.bl z) H) ?_) k
   unfold good
   dsimp only at *
   first | (apply decide_eq_false;right) | (apply decide_eq_decide.mpr;right)
theorem XA:FnScope ["rows"] ["rows"] (j8 yU):=by walk_at "s"
inductive spRound (K:ag) (vs:List V) (H:Hp) (Q:VK) (z_3:XK):Prop
 | mk (p:Addr) (xs:List V) (ts:List T3) (_:vs=[.ref p]) (_:H p=some (.lst xs)) (_:jN H xs ts) (_:ts.length<=1000) (_:∀H',jm H H'->Q (.bl (gr ts)) H')
theorem QR (I:Nb mg) (G:mg "MOST_ROWS" = some (.int 12 u0)) (j:Cal P w K mg base 1 "is_weather" ["row"] spGood) (F:Fun K "is_round" "is_round" yU f fd):FnOk P w K mg base CX0 2 f fd ["rows"] (spRound K):=by
 refine F.ok XA (λD H Q E h=>?_) (λM A outer s H D Q E L h=>?_)
 ·obtain ⟨p,xs,ts,rfl,_⟩:=h
  rfl
 ·obtain ⟨p,xs,ts,rfl,m,n,C,k⟩:=h
  have b:=n.length
  refine ⟨_,(j9 (ji (vc (yu qB qB j5 (jd (jg K) rfl I.b_len aP ↥53) (qR (v:=V.int 12) rfl G ⟨_,rfl⟩)) (yX (jd (yG K rfl) rfl I.b_all rn (j0 (qd (osc:=(j8 yU)) (ON:=["rows"]) (N:=["row"]) (own:=1) (caps:=[]) ⟨rfl,∅,∅,∅,rfl,∅⟩ rfl rfl rfl (jW K (pv 0)) (λ_ _ _ _ _=>(jb (i:=0) (show bg (["row"]:List Str) by decide +kernel) rfl (aO rfl))) ↥33 (λ_ _ _ _ _=>(je j (L.mono ⋯) rfl ↥53))) j2)))))),?_⟩
  walk_at "r"
  refine ⟨_,_,rfl,.inl (SqL.of m),?_⟩
  walk_at "r"
  refine qk (λh1=>?_) (λh1=>?_)
  ·walk_at "r"
   refine qk (λh2=>?_) (λh2=>?_)
   ·walk_at "r"
    refine ⟨⟨_,SqL.of m⟩,λacc e=>?_⟩
    refine qv (K:=K) (a:=p) (xs:=xs) (acc:=acc) (λi σ H2=>∃x:Option V,σ=[x]/\H2 acc=some (.lst (((ts.take i).map good).map V.bl))/\Ext acc H H2) ?_ ?_ ?_ ?_
    ·exact ⟨none,rfl,j6,Ext.put⟩
    ·rintro i σ H2 hi ⟨x,rfl,l,g⟩
     exact SqL.of (g _ _ m (j1 m e))
    ·rintro i v σ H2 J ⟨x,rfl,l,g⟩
     obtain ⟨t,u,q,rfl,y⟩:=n.get J
     have hi:i<ts.length:=(List.getElem?_eq_some_iff.mp u).1
     walk_at "r"
     refine ⟨q,t,rfl,g _ _ y (j1 y e),?_⟩
     refine ⟨_,l,by rw [ah,ah,aN];exact jj (),_,rfl,?_,g.trans Ext.put⟩
     rw [j6,qT good ts i t u,aE]
     rfl
    ·rintro σ H2 ⟨x,rfl,l,g⟩
     rw [b,aY] at l
     refine ⟨acc,ts.map good,rfl,SqL.of l,?_⟩
     have d:=k H2 λc o B=>g c o B (j1 B e)
     rw [Gp (by rw [b] at h1 h2;exact ⟨h1,h2⟩)] at d
     exact d
   ·walk_at "r"
    have d:=k H (jm.refl H)
    rw [Ww (by rw [b] at h2;intro z;exact h2 z.2)] at d
    exact d
  ·walk_at "r"
   have d:=k H (jm.refl H)
   rw [Ww (by rw [b] at h1;intro z;exact h1 z.1)] at d
   exact d
inductive spWeather  (vs:List V) (H:Hp) (Q:VK) (z_3:XK):Prop
 | mk (L b:Addr) (_:vs=[.ref b]) (_:qc L H b) (_:∀(p:Addr) (H':Hp) (t:T3),qc L H' b->Ext b H H'->H' p=some (yW t)->good t=true->Q (.ref p) H')
theorem vq:FnScope ["_law_box_here","_law_line"] ["_law_box_here"] (j8 ym):=by walk_at "s"
theorem five {j G z:Int}(a:0<=j) (b:j<5) (c:0<=G) (d:G<20) (e:0<=z) (g:z<101):∃I,atI [V.int (40+G),V.int z,V.int 0,V.int 100,V.int 50] j=some (V.int I)/\0<=I/\I<=100:=by
 have h:j=0\/j=1\/j=2\/j=3\/j=4:=()
 rcases h with rfl | rfl | rfl | rfl | rfl
 ·exact ⟨40+G,rfl,(),()⟩
 ·exact ⟨z,rfl,(),()⟩
 ·exact ⟨0,rfl,(),()⟩
 ·exact ⟨100,rfl,(),()⟩
 ·exact ⟨50,rfl,(),()⟩
theorem ZH (j:Cal P w K mg base 2 "_law_take" ["_law_box_here","_law_size"] spTakeL) (F:Fun K "_law_weather" "_law_weather" ym f fd):FnOk P w K mg base CX0 3 f fd ["_law_box_here"] spWeather:=by
 refine F.ok vq (λt H Q E h=>?_) (λV A outer s H t Q E a h=>?_)
 ·obtain ⟨L,b,rfl,_⟩:=h
  rfl
 ·obtain ⟨L,b,rfl,B,k⟩:=h
  refine ⟨_,(j4 (jq 1 vq.nd (jr (jf K) (jD (j0 (jk jO j5 ↥128) (j0 ↥128 (j0 j5 (j0 j5 (j0 j5 j2)))))) ↥128 (λ_ _=>rfl)))
   (j9 (ji (jB (j0 (pv 1) (j0 ↥128 (j0 ↥128 j2))))))),?_⟩
  walk_at "r"
  refine ⟨L,b,_,rfl,B,⟨⋯,⋯⟩,λZ H1 z x U O=>?_⟩
  walk_at "r"
  refine ⟨L,b,_,rfl,U,⟨⋯,⋯⟩,λY H2 p2 v o N=>?_⟩
  refine ⟨by show 5<=sizeLine;decide,λq Hq I g e=>?_⟩
  walk_at "r"
  refine ⟨L,b,_,rfl,o.same e,⟨⋯,⋯⟩,λX H3 p3 u T n=>?_⟩
  have i:=n _ _ g (o.ne I)
  obtain ⟨C,m,G,D⟩:=five p3 u z x p2 v
  refine ⟨_,_,_,_,rfl,rfl,SqL.of i,m,?_⟩
  walk_at "r"
  refine ⟨L,b,_,rfl,T,⟨⋯,⋯⟩,λd H4 p4 q4 S M=>?_⟩
  walk_at "r"
  refine ⟨L,b,_,rfl,S,⟨⋯,⋯⟩,λc H5 y q5 R J=>?_⟩
  refine ⟨by show 3<=sizeLine;decide,λp Hp hp l sp=>?_⟩
  exact k p _ (C,d,c) (R.same sp) ((((((O.trans N).trans (Ext.of_same e)).trans n).trans M).trans J).trans (Ext.of_same sp)) l (decide_eq_true ⟨G,D,p4,(show d<=9 by right),y,(show c<=9 by right)⟩)
inductive spRoundMade  (vs:List V) (H:Hp) (Q:VK) (z_3:XK):Prop
 | mk (L b:Addr) (_:vs=[.ref b]) (_:qc L H b) (_:∀(p:Addr) (H':Hp) (xs:List V) (ts:List T3),qc L H' b->Ext b H H'->H p=none->H' p=some (.lst xs)->jN H' xs ts->(1<=ts.length/\ts.length<=12)->ts.all good=true->Q (.ref p) H')
theorem JY:FnScope ["_law_box_here"] ["_law_box_here"] (j8 zY):=by walk_at "s"
theorem Xp {v:Int}(a:0<=v) (b:v<3):∃n,atI [V.int 1,V.int 3,V.int 12] v=some (V.int n)/\0<n/\n<=12:=by
 have h:v=0\/v=1\/v=2:=()
 rcases h with rfl | rfl | rfl
 ·exact ⟨1,rfl,(),()⟩
 ·exact ⟨3,rfl,(),()⟩
 ·exact ⟨12,rfl,(),()⟩
theorem VJ (I:Nb mg) (j:Cal P w K mg base 2 "_law_take" ["_law_box_here","_law_size"] spTakeL) (G:Cal P w K mg base 3 "_law_weather" ["_law_box_here"] spWeather) (F:Fun K "_law_round" "_law_round" zY f fd):FnOk P w K mg base CX0 4 f fd ["_law_box_here"] spRoundMade:=by
 refine F.ok JY ↥27 (λac A outer s H vs Q E J h=>?_)
 ·obtain ⟨L,b,rfl,_⟩:=h
  rfl
 ·obtain ⟨L,b,rfl,B,k⟩:=h
  refine ⟨_,(j9 (ji (qd (osc:=(j8 zY)) (ON:=["_law_box_here"]) (N:=["_law_turn","_law_box_here"]) (own:=1) (caps:=[0]) ⟨rfl,∅,∅,∅,rfl,∅⟩ rfl rfl rfl (qi rfl I.b_range (j0 (jk jO j5 (je j (J.mono ⋯) rfl (j0 (pv 0) (j0 (jr (jf K) (jD (j0 j5 (j0 j5 (j0 j5 j2)))) (je j (J.mono ⋯) rfl ↥15) (λ_ _=>rfl)) j2)))) j2)) (λ_ _ _ _ _=>(jb (i:=0) (show bg (["_law_turn","_law_box_here"]:List Str) by decide +kernel) rfl (aO rfl))) ↥33 (λ_ _ _ _ _=>(je G (J.mono ⋯) rfl ↥51))))),?_⟩
  walk_at "r"
  refine ⟨by show 3<=sizeLine;decide,λq Hq hq Y C=>?_⟩
  walk_at "r"
  refine ⟨L,b,_,rfl,B.same C,⟨⋯,⋯⟩,λv1 H1 p1 q1 B1 S=>?_⟩
  obtain ⟨n,hn,n0,n1⟩:=Xp p1 q1
  refine ⟨_,_,_,_,rfl,rfl,SqL.of (S _ _ Y (B.ne hq)),hn,?_⟩
  refine ⟨L,b,_,rfl,B1,⟨n0,()⟩,λU H2 p2 q2 T X2=>?_⟩
  refine ⟨_,_,rfl,rfl,?_⟩
  refine ⟨1+U,rfl,(),(),λacc d=>?_⟩
  have m:=T.ne d
  have y:=T.neL d
  have u:∀a,H2 a=none->a≠b->H a=none:=λa n I=>jm.free C (S.free (X2.free n I) I)
  refine xj (lo:=0) (n:=(1+U).toNat) (acc:=acc) (λi σ l=>∃(x:Option V) (xs:List V) (ts:List T3),σ=[x,some (.ref b)]/\qc L l b/\(∀c o,H2 c=some o->c≠b->l c=some o)/\l acc=some (.lst xs)/\jN l xs ts/\ts.length=i/\ts.all good=true) ?_ ?_ ?_
  ·exact ⟨none,[],[],rfl,T.put m y,λc o g n=>Ext.put _ _ g (j1 g d),j6,.nil,rfl,rfl⟩
  ·rintro i σ l hi ⟨x,xs,ts,rfl,v,ks,O,D,Z,M⟩
   walk_at "r"
   refine ⟨L,b,rfl,v,λp H4 t B4 R hp ht=>?_⟩
   have h4:=R _ _ O m
   have X:jN H4 xs ts:=D.imp λp t e=>R _ _ e (v.ne_tup e)
   have ab:=X.length
   refine ⟨xs,h4,jj (),_,xs++[.ref p],ts++[t],rfl,B4.put m y,λc o g n=>Ext.put _ _ (R _ _ (ks c o g n) n) (j1 g d),j6,?_,by rw [ao,Z];rfl,by rw [List.all_append,M];simp [ht]⟩
   exact jN.imp (X.snoc ⟨p,rfl,hp⟩) λq t e=>Ext.put _ _ e (jo e h4 ↥4)
  ·rintro σ l ⟨x,xs,ts,rfl,v,ks,O,D,Z,M⟩
   exact k acc l xs ts v (λc o g n=>ks c o (X2 _ _ (S _ _ (C _ _ g) n) n) n) (u acc d m) O D () M
theorem Q7:FnScope ["_law_found"] ["_law_found"] (j8 vm):=by walk_at "s"
theorem Uh (j:Nb2 mg) (F:Fun K "_law_whole" "_law_whole" vm f fd):FnOk P w K mg base CX0 1 f fd ["_law_found"] spWhole:=by
 refine F.ok Q7 (λa H Q E h=>?_) (λb A outer s H a Q E c h=>?_)
 ·obtain ⟨i,rfl,_⟩:=h
  rfl
 ·obtain ⟨i,rfl,k⟩:=h
  refine ⟨_,(j9 (ji (vc (jd (qe K) rfl j.b_isinstance bJ (j0 (pv 0) (j0 (xF (v:=V.ty "int") rfl j.b_int nu rfl) j2))) (yX (WA (jd (qe K) rfl j.b_isinstance bJ (j0 (pv 0) (j0 (xF (v:=V.ty "bool") rfl j.b_bool iq rfl) j2)))))))),?_⟩
  walk_at "r"
  refine ⟨_,_,_,_,rfl,.int _,gP K,_,rfl,vO ?_⟩
  walk_at "r"
  refine ⟨_,_,_,_,rfl,.int _,wF K,_,rfl,?_⟩
  exact k
theorem uI:FnScope ["_law_found","_law_due"] ["_law_found","_law_due"] (j8 zr):=by walk_at "s"
theorem YA (F:Fun K "_law_alike" "_law_alike" zr f fd):FnOk P w K mg base CX0 1 f fd ["_law_found","_law_due"] (spAl 0):=by
 refine F.ok uI (λa H Q E h=>?_) (λb A outer s H a Q E c h=>?_)
 ·obtain ⟨x,y,d,rfl,_⟩:=h
  rfl
 ·obtain ⟨x,y,d,rfl,_,_,z,_⟩:=h
  cases z
theorem wo (n:Nat) (G:Nb2 mg) (I:Cal P w K mg base 1 "_law_whole" ["_law_found"] spWhole) (U:Cal P w K mg base (n+1) "_law_alike" ["_law_found","_law_due"] (spAl n)) (F:Fun K "_law_alike" "_law_alike" zr f fd):FnOk P w K mg base CX0 (n+2) f fd ["_law_found","_law_due"] (spAl (n+1)):=by
 refine F.ok uI ↥27 (λac A outer s H vs Q E hr h=>?_)
 ·obtain ⟨x,y,d,rfl,_⟩:=h
  rfl
 ·obtain ⟨x,y,d,rfl,q,C,hs,k⟩:=h
  refine ⟨_,(j4 (jI (ju Qm (pv 1) vW (jx _)) (j9 (ji (zm Qm (pv 0) vW (jx _)))) js)
   (j4 (jI (zD (jd (qe K) rfl G.b_isinstance bJ (j0 (pv 1) (j0 (xF (v:=V.ty "bool") rfl G.b_bool iq rfl) j2)))) (j9 (ji (vc (jd (qe K) rfl G.b_isinstance bJ (j0 (pv 0) (j0 (xF (v:=V.ty "bool") rfl G.b_bool iq rfl) j2))) (yX (zm x4 (pv 0) (pv 1) (jx _)))))) js)
   (j4 (jI (zD (jd (qe K) rfl G.b_isinstance bJ (j0 (pv 1) (j0 (xF (v:=V.ty "int") rfl G.b_int nu rfl) j2)))) (j9 (ji (vc (je I (hr.mono ()) rfl ↥53) (yX (zm x4 (pv 0) (pv 1) (jx _)))))) js)
   (j4 (jI (zD (jd (qe K) rfl G.b_isinstance bJ (j0 (pv 1) (j0 (xF (v:=V.ty "str") rfl G.b_str nv rfl) j2)))) (j9 (ji (vc (jd (qe K) rfl G.b_isinstance bJ (j0 (pv 0) (j0 (xF (v:=V.ty "str") rfl G.b_str nv rfl) j2))) (yX (zm x4 (pv 0) (pv 1) (jx _)))))) js)
   (j4 (jI (PW.pt (Jt (ju VL (jd (qe K) rfl G.b_isinstance bJ (j0 (pv 1) (j0 (xF (v:=V.ty "list") rfl G.b_list bZ rfl) j2))) (jd (qe K) rfl G.b_isinstance bJ (j0 (pv 0) (j0 (xF (v:=V.ty "list") rfl G.b_list bZ rfl) j2))) (jx _)) (gS (ju VL (jd (qe K) rfl G.b_isinstance bJ (j0 (pv 1) (j0 (xF (v:=V.ty "tuple") rfl G.b_tuple cJ rfl) j2))) (jd (qe K) rfl G.b_isinstance bJ (j0 (pv 0) (j0 (xF (v:=V.ty "tuple") rfl G.b_tuple cJ rfl) j2))) (jx _))))) (j9 (ji wv)) js)
   (j9 (ji (vc (zm x4 (jd (jg K) rfl G.b_len aP ↥53) (jd (jg K) rfl G.b_len aP ↥51) (jx _)) (yX (jd (yG K rfl) rfl G.b_all rn (j0 (qd (osc:=(j8 zr)) (ON:=["_law_found","_law_due"]) (N:=["_law_one","_law_other"]) (own:=2) (caps:=[]) ⟨rfl,∅,∅,∅,rfl,∅⟩ rfl rfl rfl (W1 K rfl G.b_zip (j0 (pv 0) ↥51)) (λ_ _ _ _ _=>(qg (n:=2) K rfl (jh (jb (i:=0) (show bg (["_law_one","_law_other"]:List Str) by decide +kernel) rfl (aO rfl)) (jh (jb (i:=1) (show bg (["_law_one","_law_other"]:List Str) by decide +kernel) rfl (aO rfl)) qa)))) ↥33 (λ_ _ _ _ _=>(je U (hr.mono ()) rfl (j0 (pv 0) ↥51)))) j2))))))))))),?_⟩
  cases d with
  | none =>
   cases q;cases C
   walk_at "r"
   exact k H (jm.refl _)
  | bool b =>
   cases q;cases C
   walk_at "r"
   refine ⟨_,_,_,_,rfl,.bl _,uN K,_,rfl,vO ?_⟩
   walk_at "r"
   refine ⟨_,_,_,_,rfl,.bl _,uN K,_,rfl,vO ?_⟩
   walk_at "r"
   have k':=k H (jm.refl _)
   rw [decide_eq_true rfl]
   exact k'
  | int i =>
   cases q;cases C
   walk_at "r"
   refine ⟨_,_,_,_,rfl,.int _,wF K,_,rfl,kz ?_⟩
   walk_at "r"
   refine ⟨_,_,_,_,rfl,.int _,gP K,_,rfl,vO ?_⟩
   walk_at "r"
   have k':=k H (jm.refl _)
   rw [decide_eq_true rfl]
   exact k'
  | str i =>
   cases q;cases C
   walk_at "r"
   refine ⟨_,_,_,_,rfl,.str _,QS K,_,rfl,kz ?_⟩
   walk_at "r"
   refine ⟨_,_,_,_,rfl,.str _,Z4 K,_,rfl,kz ?_⟩
   walk_at "r"
   refine ⟨_,_,_,_,rfl,.str _,gY K,_,rfl,vO ?_⟩
   walk_at "r"
   refine ⟨_,_,_,_,rfl,.str _,gY K,_,rfl,vO ?_⟩
   walk_at "r"
   have k':=k H (jm.refl _)
   rw [decide_eq_true rfl]
   exact k'
  | list ds =>
   cases q with
   | @lst a Z _ u da =>
   cases C with
   | @lst b vb _ l db =>
   have el:=da.length
   have S:=db.length
   have ab:ds.length<=1000/\ds.all (zH n)=true:=by
    have z:(decide (ds.length<=1000) && ds.all (zH n))=true:=hs
    rw [bp] at z
    exact ⟨of_decide_eq_true z.1,z.2⟩
   walk_at "r"
   refine ⟨_,_,_,_,rfl,.lst l,Qk K,_,rfl,kz ?_⟩
   walk_at "r"
   refine ⟨_,_,_,_,rfl,.lst l,QP K,_,rfl,kz ?_⟩
   walk_at "r"
   refine ⟨_,_,_,_,rfl,.lst l,Xk K,_,rfl,kz ?_⟩
   walk_at "r"
   refine ⟨_,_,_,_,rfl,.lst l,uw K,?_⟩
   walk_at "r"
   refine ⟨_,_,_,_,rfl,.lst u,uw K,?_⟩
   walk_at "r"
   refine ⟨_,_,_,_,rfl,.lst l,vR K,?_⟩
   walk_at "r"
   refine ⟨_,_,_,_,rfl,.lst u,vR K,?_⟩
   walk_at "r"
   refine ⟨_,_,rfl,.inl (SqL.of u),?_⟩
   walk_at "r"
   refine ⟨_,_,rfl,.inl (SqL.of l),?_⟩
   walk_at "r"
   rw [el,S]
   refine qk (λ_=>?_) (λz=>absurd rfl z)
   walk_at "r"
   refine ⟨false,false,_,_,rfl,⟨_,SqL.of u⟩,⟨_,SqL.of l⟩,λacc m=>?_⟩
   refine Jw (K:=K) (t0:=false) (u0:=false) (a:=a) (b:=b) (xs:=Z) (ys:=vb) (acc:=acc) (el.trans S.symm) (λj σ H2=>∃x y:Option V,σ=[x,y]/\H2 acc=some (.lst ((du j true).map V.bl))/\Ext acc H H2) ?_ ?_ ?_ ?_
   ·exact ⟨none,none,rfl,j6,Ext.put⟩
   ·rintro j σ H2 hj ⟨x,y,rfl,D,t⟩
    exact ⟨SqL.of (t _ _ u (j1 u m)),SqL.of (t _ _ l (j1 l m))⟩
   ·rintro j x y σ H2 p q C ⟨v1,v2,rfl,D,t⟩ Y
    obtain ⟨d1,B,q1⟩:=da.get q
    obtain ⟨d2,O,q2⟩:=db.get C
    rw [B] at O
    cases O
    have hj:j<ds.length:=(List.getElem?_eq_some_iff.mp B).1
    have X:jm H (upd H2 p (.tup [x,y])):=λc o g=>(jm.new Y) _ _ (t _ _ g (j1 g m))
    have L:=q1.same X
    have J:=q2.same X
    have R:upd H2 p (.tup [x,y]) acc=_:=(jm.new Y) _ _ D
    have T:Ext acc H (upd H2 p (.tup [x,y])):=λc o g n=>(jm.new Y) _ _ (t _ _ g n)
    have M:upd H2 p (.tup [x,y]) p=some (.tup [x,y]):=j6
    generalize upd H2 p (.tup [x,y])=H4 at X L J R T M
    walk_at "r"
    refine ⟨p,_,rfl,SqT.of M,rfl,?_⟩
    refine ⟨_,_,rfl,_,_,rfl,rfl,?_⟩
    walk_at "r"
    refine ⟨x,y,d1,rfl,L,J,List.all_eq_true.mp ab.2 _ (aA B),λH5 s5=>?_⟩
    refine ⟨_,s5 _ _ R,by rw [ah,fh];exact jj (),_,_,rfl,?_,λc o g n=>by rw [j7 n];exact s5 _ _ (T c o g n)⟩
    rw [j6,oj,aE]
    rfl
   ·rintro σ H2 ⟨v1,v2,rfl,D,t⟩
    refine ⟨acc,_,rfl,SqL.of D,?_⟩
    have e:((du Z.length true).all λb=>b)=true:=by
     rw [bP]
     intro x q
     exact (List.mem_replicate.mp q).2
    rw [e]
    exact k H2 λc o g=>t c o g (j1 g m)
  | tuple ds =>
   cases q with
   | @tup a Z _ u da =>
   cases C with
   | @tup b vb _ l db =>
   have el:=da.length
   have S:=db.length
   have ab:ds.length<=1000/\ds.all (zH n)=true:=by
    have z:(decide (ds.length<=1000) && ds.all (zH n))=true:=hs
    rw [bp] at z
    exact ⟨of_decide_eq_true z.1,z.2⟩
   walk_at "r"
   refine ⟨_,_,_,_,rfl,.tup l,J9 K,_,rfl,kz ?_⟩
   walk_at "r"
   refine ⟨_,_,_,_,rfl,.tup l,Qg K,_,rfl,kz ?_⟩
   walk_at "r"
   refine ⟨_,_,_,_,rfl,.tup l,Q5 K,_,rfl,kz ?_⟩
   walk_at "r"
   refine ⟨_,_,_,_,rfl,.tup l,vQ K,?_⟩
   walk_at "r"
   refine ⟨_,_,_,_,rfl,.tup u,vQ K,?_⟩
   walk_at "r"
   refine ⟨_,_,_,_,rfl,.tup l,vB K,?_⟩
   walk_at "r"
   refine ⟨_,_,_,_,rfl,.tup u,vB K,?_⟩
   walk_at "r"
   refine ⟨_,_,rfl,.inr (SqT.of u),?_⟩
   walk_at "r"
   refine ⟨_,_,rfl,.inr (SqT.of l),?_⟩
   walk_at "r"
   rw [el,S]
   refine qk (λ_=>?_) (λz=>absurd rfl z)
   walk_at "r"
   refine ⟨true,true,_,_,rfl,⟨_,SqT.of u⟩,⟨_,SqT.of l⟩,λacc m=>?_⟩
   refine Jw (K:=K) (t0:=true) (u0:=true) (a:=a) (b:=b) (xs:=Z) (ys:=vb) (acc:=acc) (el.trans S.symm) (λj σ H2=>∃x y:Option V,σ=[x,y]/\H2 acc=some (.lst ((du j true).map V.bl))/\Ext acc H H2) ?_ ?_ ?_ ?_
   ·exact ⟨none,none,rfl,j6,Ext.put⟩
   ·rintro j σ H2 hj ⟨x,y,rfl,D,t⟩
    exact ⟨SqT.of (t _ _ u (j1 u m)),SqT.of (t _ _ l (j1 l m))⟩
   ·rintro j x y σ H2 p q C ⟨v1,v2,rfl,D,t⟩ Y
    obtain ⟨d1,B,q1⟩:=da.get q
    obtain ⟨d2,O,q2⟩:=db.get C
    rw [B] at O
    cases O
    have hj:j<ds.length:=(List.getElem?_eq_some_iff.mp B).1
    have X:jm H (upd H2 p (.tup [x,y])):=λc o g=>(jm.new Y) _ _ (t _ _ g (j1 g m))
    have L:=q1.same X
    have J:=q2.same X
    have R:upd H2 p (.tup [x,y]) acc=_:=(jm.new Y) _ _ D
    have T:Ext acc H (upd H2 p (.tup [x,y])):=λc o g n=>(jm.new Y) _ _ (t _ _ g n)
    have M:upd H2 p (.tup [x,y]) p=some (.tup [x,y]):=j6
    generalize upd H2 p (.tup [x,y])=H4 at X L J R T M
    walk_at "r"
    refine ⟨p,_,rfl,SqT.of M,rfl,?_⟩
    refine ⟨_,_,rfl,_,_,rfl,rfl,?_⟩
    walk_at "r"
    refine ⟨x,y,d1,rfl,L,J,List.all_eq_true.mp ab.2 _ (aA B),λH5 s5=>?_⟩
    refine ⟨_,s5 _ _ R,by rw [ah,fh];exact jj (),_,_,rfl,?_,λc o g n=>by rw [j7 n];exact s5 _ _ (T c o g n)⟩
    rw [j6,oj,aE]
    rfl
   ·rintro σ H2 ⟨v1,v2,rfl,D,t⟩
    refine ⟨acc,_,rfl,SqL.of D,?_⟩
    have e:((du Z.length true).all λb=>b)=true:=by
     rw [bP]
     intro x q
     exact (List.mem_replicate.mp q).2
    rw [e]
    exact k H2 λc o g=>t c o g (j1 g m)
  | _=>cases q
inductive spOdd  (vs:List V) (H:Hp) (Q:VK) (z_3:XK):Prop
 | mk (L b:Addr) (_:vs=[.ref b]) (_:qc L H b) (_:∀(z:Int) (H':Hp),qc L H' b->Ext b H H'->Q (.int z) H')
theorem kU:FnScope ["_law_box_here","_law_some"] ["_law_box_here"] (j8 uX):=by walk_at "s"
theorem Wz (j:Cal P w K mg base 2 "_law_take" ["_law_box_here","_law_size"] spTakeL) (F:Fun K "_law_odd" "_law_odd" uX f fd):FnOk P w K mg base CX0 3 f fd ["_law_box_here"] spOdd:=by
 refine F.ok kU (λl H Q E h=>?_) (λv A outer s H l Q E c h=>?_)
 ·obtain ⟨L,b,rfl,_⟩:=h
  rfl
 ·obtain ⟨L,b,rfl,B,k⟩:=h
  refine ⟨_,(j4 (jq 1 kU.nd (jD (j0 (jk jU j5 j5) (j0 j5 (j0 j5 (j0 j5 (j0 (jk jU (jk jU j5 j5) (je j (c.mono ⋯) rfl (j0 (pv 0) (j0 (jk yf j5 j5) j2)))) (j0 j5 (j0 j5 (j0 j5 (j0 j5 (j0 (jk yf j5 j5) (j0 (jk jO (jk yf j5 j5) j5) (j0 j5 j2))))))))))))))
   (j9 (ji (jr (jf K) (pv 1) (je j (c.mono ⋯) rfl ↥15) (λ_ _=>rfl))))),?_⟩
  walk_at "r"
  refine ⟨L,b,_,rfl,B,⟨⋯,⋯⟩,λm H1 C y i t=>?_⟩
  walk_at "r"
  refine ⟨by show 12<=sizeLine;decide,λq D p d a=>?_⟩
  walk_at "r"
  refine ⟨L,b,_,rfl,i.same a,⟨⋯,⋯⟩,λx H2 p2 n u g=>?_⟩
  have e:=g _ _ d (i.ne p)
  obtain ⟨z,o⟩:=uh (ns:=[0-1,1,100,101,0-1-m,9,10,13,31,10 ^ (40:Int).toNat,10 ^ (40:Int).toNat+1,99]) p2 n
  refine ⟨_,_,_,_,rfl,rfl,SqL.of e,o,?_⟩
  exact k z _ u ((t.trans (Ext.of_same a)).trans g)
inductive spGroundDrawn  (vs:List V) (H:Hp) (Q:VK) (z_3:XK):Prop
 | mk (L b:Addr) (tp sz:Int) (_:vs=[.ref b,.int tp,.int sz]) (_:qc L H b) (_:tp<=99) (_:0<=sz) (_:sz<=100) (_:∀p H' (hs:List Int),qc L H' b->Ext b H H'->H p=none->H' p=some (.lst (hs.map V.int))->(hs.length:Int)=sz->(∀x∈hs,0<=x/\x<=99)->Q (.ref p) H')
theorem xx:FnScope ["_law_box_here","_law_top","_law_size","_law_pick","_law_step"] ["_law_box_here","_law_top","_law_size"] (j8 qG):=by walk_at "s"
theorem wR (I:Nb2 mg) (j:Cal P w K mg base 2 "_law_take" ["_law_box_here","_law_size"] spTakeL) (F:Fun K "_law_ground_drawn" "_law_ground_drawn" qG f fd):FnOk P w K mg base CX0 3 f fd ["_law_box_here","_law_top","_law_size"] spGroundDrawn:=by
 refine F.ok xx (λT H Q E h=>?_) (λX A outer s H T Q E J h=>?_)
 ·obtain ⟨L,b,tp,sz,rfl,_⟩:=h
  rfl
 ·obtain ⟨L,b,tp,sz,rfl,B,U,h0,h1,k⟩:=h
  refine ⟨_,(j4 (jq 3 xx.nd (je j (J.mono ⋯) rfl ↥15))
   (j4 (jI (ju x4 (pv 3) j5 (jx _)) (j9 (ji (qd (osc:=(j8 qG)) (ON:=["_law_box_here","_law_top","_law_size","_law_pick","_law_step"]) (N:=["_law_turn","_law_box_here"]) (own:=1) (caps:=[0]) ⟨rfl,∅,∅,∅,rfl,∅⟩ rfl rfl rfl (qi rfl I.b_range ↥59) (λ_ _ _ _ _=>(jb (i:=0) (show bg (["_law_turn","_law_box_here"]:List Str) by decide +kernel) rfl (aO rfl))) ↥33 (λ_ _ _ _ _=>(je j (J.mono ⋯) rfl (j0 (pv 1) (j0 j5 j2))))))) js)
   (j4 (zS (i:=4) xx.nd rfl (dQ rfl) (jk jO j5 (je j (J.mono ⋯) rfl ↥15)))
   (j9 (ji (qd (osc:=(j8 qG)) (ON:=["_law_box_here","_law_top","_law_size","_law_pick","_law_step"]) (N:=["_law_place","_law_top","_law_step"]) (own:=1) (caps:=[1,4]) ⟨rfl,∅,∅,∅,rfl,∅⟩ rfl rfl rfl (qi rfl I.b_range ↥59) (λ_ _ _ _ _=>(jb (i:=0) (show bg (["_law_place","_law_top","_law_step"]:List Str) by decide +kernel) rfl (aO rfl))) ↥33 (λ_ _ _ _ _=>(jd (zj rfl) rfl I.b_max mx (j0 j5 (j0 (jk jU (pv 1) (jk wq (pv 2) (pv 0))) j2)))))))))),?_⟩
  walk_at "r"
  refine ⟨L,b,_,rfl,B,⟨⋯,⋯⟩,λY H1 p1 q1 G D=>?_⟩
  walk_at "r"
  refine qk (λ_=>?_) (λ_=>?_)
  ·walk_at "r"
   refine ⟨(),(),λacc a=>?_⟩
   have e:=G.ne a
   have g:=G.neL a
   refine xj (lo:=0) (n:=sz.toNat) (acc:=acc) (λi σ H2=>∃(x:Option V) (d:List Int),σ=[x,some (.ref b)]/\qc L H2 b/\H2 acc=some (.lst (d.map V.int))/\d.length=i/\(∀x∈d,0<=x/\x<=99)/\Ext b H1 H2) ?_ ?_ ?_
   ·exact ⟨none,[],rfl,G.put e g,j6,rfl,(by intro x hx;cases hx),Ext.new a⟩
   ·rintro i σ H2 hi ⟨x,d,rfl,p,h2,t,l,O⟩
    walk_at "r"
    refine ⟨L,b,_,rfl,p,⟨⋯,⋯⟩,λv m p3 Z z R=>?_⟩
    have y:=R _ _ h2 e
    refine ⟨_,y,by rw [ah];exact jj (),_,d++[v],rfl,z.put e g,by rw [j6,aE];rfl,by rw [ao,t];rfl,λx hx=>?_,λc o u n=>?_⟩
    ·rcases List.mem_append.mp hx with hx | hx
     ·exact l x hx
     ·have:x=v:=by simpa using hx
      right
    ·rw [j7 (j1 u a)]
     exact R _ _ (O c o u n) n
   ·rintro σ H2 ⟨x,d,rfl,p,h2,t,l,O⟩
    exact k acc H2 d p (D.trans O) (D.free a e) h2 () l
  ·walk_at "r"
   refine ⟨L,b,_,rfl,G,⟨⋯,⋯⟩,λq H2 p2 q2 p S=>?_⟩
   walk_at "r"
   refine ⟨(),(),λacc a=>?_⟩
   have e:=p.ne a
   have g:=p.neL a
   refine xj (lo:=0) (n:=sz.toNat) (acc:=acc) (λi σ m=>∃(x:Option V) (d:List Int),σ=[x,some (.int tp),some (.int (1+q))]/\qc L m b/\m acc=some (.lst (d.map V.int))/\d.length=i/\(∀x∈d,0<=x/\x<=99)/\Ext b H2 m) ?_ ?_ ?_
   ·exact ⟨none,[],rfl,p.put e g,j6,rfl,(by intro x hx;cases hx),Ext.new a⟩
   ·rintro i σ m hi ⟨x,d,rfl,z,y,t,l,M⟩
    walk_at "r"
    have hm:(0:Int)<=(1+q)*(0+(i:Int)):=Int.mul_nonneg () ()
    refine ⟨_,_,rfl,?_⟩
    refine ⟨_,y,by rw [ah];exact jj (),_,d++[if tp-(1+q)*(0+(i:Int)) > 0 then tp-(1+q)*(0+(i:Int)) else 0],rfl,z.put e g,by rw [j6,aE];rfl,by rw [ao,t];rfl,λx hx=>?_,λc o u n=>?_⟩
    ·rcases List.mem_append.mp hx with hx | hx
     ·exact l x hx
     ·have:x=if tp-(1+q)*(0+(i:Int)) > 0 then tp-(1+q)*(0+(i:Int)) else 0:=by simpa using hx
      rw [this]
      split <;> right
    ·rw [j7 (j1 u a)]
     exact M c o u n
   ·rintro σ m ⟨x,d,rfl,z,y,t,l,M⟩
    have C:=S.free a e
    exact k acc m d z ((D.trans S).trans M) (D.free C e) y () l
structure RD (L b tp rw dp:Addr) (H0:Hp):Prop where
 tb:tp≠b
 rb:rw≠b
 db:dp≠b
 tL:tp≠L
 rL:rw≠L
 dL:dp≠L
 tr:tp≠rw
 td:tp≠dp
 rd:rw≠dp
 nt:H0 tp=none
 nr:H0 rw=none
 nd:H0 dp=none
structure RG (L b tp rw dp:Addr) (H0 H:Hp) (ts:List Int) (xs:List V) (rs:List Rch) (ds:List Int):Prop where
 box:qc L H b
 htp:H tp=some (.lst (ts.map V.int))
 hrw:H rw=some (.lst xs)
 hdp:H dp=some (.lst (ds.map V.int))
 rows:qo H xs rs
 ext:Ext b H0 H
section
variable {L b tp rw dp:Addr}{H0 H H':Hp}{ts ds:List Int}{xs:List V}{rs:List Rch}
theorem RG.take (D:RD L b tp rw dp H0) (G:RG L b tp rw dp H0 H ts xs rs ds) (B:qc L H' b) (X:Ext b H H'):RG L b tp rw dp H0 H' ts xs rs ds :=
 ⟨B,X _ _ G.htp D.tb,X _ _ G.hrw D.rb,X _ _ G.hdp D.db,G.rows.keep (by obtain ⟨e,a,r,c,d,h1,_⟩:=G.box;exact jp.lst X h1),G.ext.trans X⟩
theorem RG.same (G:RG L b tp rw dp H0 H ts xs rs ds) (s:jm H H'):RG L b tp rw dp H0 H' ts xs rs ds :=
 ⟨G.box.same s,s _ _ G.htp,s _ _ G.hrw,s _ _ G.hdp,G.rows.keep (jp.same s),G.ext.trans (Ext.of_same s)⟩
theorem RG.extN (G:RG L b tp rw dp H0 H ts xs rs ds) (j:H a=none) (e:Ext a H H'):RG L b tp rw dp H0 H' ts xs rs ds:=G.same λc o h=>e c o h (j1 h j)
theorem RG.putT (D:RD L b tp rw dp H0) (G:RG L b tp rw dp H0 H ts xs rs ds) (j:List Int):RG L b tp rw dp H0 (upd H tp (.lst (j.map V.int))) j xs rs ds :=
 ⟨G.box.put D.tb D.tL,j6,by rw [j7 D.tr.symm];exact G.hrw,by rw [j7 D.td.symm];exact G.hdp,G.rows.keep (jp.lst Ext.put G.htp),λc o h n=>by rw [j7 (j1 h D.nt)];exact G.ext c o h n⟩
theorem RG.putR (D:RD L b tp rw dp H0) (G:RG L b tp rw dp H0 H ts xs rs ds) (q:Qb H v r):RG L b tp rw dp H0 (upd H rw (.lst (xs++[v]))) ts (xs++[v]) (rs++[r]) ds :=
 ⟨G.box.put D.rb D.rL,by rw [j7 D.tr];exact G.htp,j6,by rw [j7 D.rd.symm];exact G.hdp,(G.rows.snoc q).keep (jp.lst Ext.put G.hrw),λc o h n=>by rw [j7 (j1 h D.nr)];exact G.ext c o h n⟩
theorem RG.putD (D:RD L b tp rw dp H0) (G:RG L b tp rw dp H0 H ts xs rs ds) (ds':List Int):RG L b tp rw dp H0 (upd H dp (.lst (ds'.map V.int))) ts xs rs ds' :=
 ⟨G.box.put D.db D.dL,by rw [j7 D.td];exact G.htp,by rw [j7 D.rd];exact G.hrw,j6,G.rows.keep (jp.lst Ext.put G.hdp),λc o h n=>by rw [j7 (j1 h D.nd)];exact G.ext c o h n⟩
end
noncomputable def zg (rs:List Rch):List Int:=(aJ rs.length).map λi=>jK rs (qO rs i)
theorem QN {t:Int}{hs:List Int}(G:Grown rs) (z:0<=t) (h1:t<rs.length) (j:okR rs.length (t,hs)=true):zg ↥89=zg rs++[jK rs (qO rs t.toNat)+hs.length]:=by
 have b:=qx G.ok
 unfold zg
 rw [ao,br,cE,aE]
 congr 1
 ·apply dW
  intro i hi
  have a:=List.mem_range.mp hi
  rw [vI b a,zA _ (zq b i a)]
 ·show [jK ↥89 (qO ↥89 rs.length)]=[_]
  rw [G.deep_snoc z h1 j]
theorem Yw {rs:List Rch}{t:Int}(j:0<=t) (h1:t<rs.length):atI ((zg rs).map V.int) t=some (.int (jK rs (qO rs t.toNat))):=by
 refine qI j ?_
 unfold zg
 rw [ay,ay,dX ()]
 rfl
theorem UD {i:Nat}{t sz:Int}{hs:List Int}(hi:0<i) (z:0<=t) (h1:t<i) (U:(hs.length:Int)=sz) (I:1<=sz) (G:sz<=12) (j:∀x∈hs,0<=x/\x<=99):okR i (t,hs)=true:=by
 unfold okR zf
 rw [if_neg (),decide_eq_true (show 0<=t/\t<(i:Int) from ⟨z,h1⟩),decide_eq_true (show 1<=(hs.length:Int)/\(hs.length:Int)<=12 by right),fe,fe,bP]
 intro x a
 exact decide_eq_true (j x a)
inductive spReachesL  (vs:List V) (H:Hp) (Q:VK) (z_3:XK):Prop
 | mk (L b:Addr) (_:vs=[.ref b]) (_:qc L H b) (_:∀p H' xs rs,qc L H' b->Ext b H H'->H p=none->H' p=some (.lst xs)->qo H' xs rs->Grown rs->1<=rs.length->rs.length<=8->Q (.ref p) H')
theorem jP:FnScope ["_law_box_here","_law_tops","_law_sizes","_law_rows","_law_deep","_law_number","_law_to","_law_led","_law_heads","_law_size"] ["_law_box_here"] (j8 xC):=by walk_at "s"
theorem Gw {v:Int}(a:0<=v) (b:v<3):∃n,atI [V.int 1,V.int 3,V.int 8] v=some (V.int n)/\0<n/\n<=8:=by
 have h:v=0\/v=1\/v=2:=()
 rcases h with rfl | rfl | rfl
 ·exact ⟨1,rfl,(),()⟩
 ·exact ⟨3,rfl,(),()⟩
 ·exact ⟨8,rfl,(),()⟩
theorem Zi (Y:Nb2 mg) (I:Cal P w K mg base 2 "_law_take" ["_law_box_here","_law_size"] spTakeL) (U:Cal P w K mg base 3 "_law_ground_drawn" ["_law_box_here","_law_top","_law_size"] spGroundDrawn) (F:Fun K "_law_reaches" "_law_reaches" xC f fd):FnOk P w K mg base CX0 4 f fd ["_law_box_here"] spReachesL:=by
 refine F.ok jP (λl H Q E h=>?_) (λek A outer s H l Q E e h=>?_)
 ·obtain ⟨L,b,rfl,_⟩:=h
  rfl
 ·obtain ⟨L,b,rfl,B,k⟩:=h
  refine ⟨_,(j4 (jq 1 jP.nd (jD (j0 (jk jO j5 (je I (e.mono ⋯) rfl ↥15)) j2)))
   (j4 (jq 2 jP.nd (jD (j0 (jk jO j5 (je I (e.mono ⋯) rfl ↥15)) j2)))
   (j4 (jq 3 jP.nd (jD (j0 (jB (j0 (jk jU j5 j5) (j0 (qL (xW K) rfl Y.b_tuple cJ (j0 (je U (e.mono ⋯) rfl (j0 (pv 0) (j0 (jr (jf K) (pv 1) j5 (λ_ _=>rfl)) (j0 (jr (jf K) (pv 2) j5 (λ_ _=>rfl)) j2)))) j2)) j2))) j2)))
   (j4 (jq 4 jP.nd (jD (j0 (jr (jf K) (pv 2) j5 (λ_ _=>rfl)) j2)))
   (j4 (qy aV rfl (JB rfl Y.b_range (j0 j5 (j0 (jk jO j5 (je I (e.mono ⋯) rfl (j0 (pv 0) (j0 (jr (jf K) (jD (j0 j5 (j0 j5 (j0 j5 j2)))) (je I (e.mono ⋯) rfl ↥15) (λ_ _=>rfl)) j2)))) j2))) (jb (i:=5) jP.nd rfl (aO rfl)) (j4 (jq 6 jP.nd (je I (e.mono ⋯) rfl (j0 (pv 0) (j0 (pv 5) j2))))
   (j4 (zS (i:=7) jP.nd rfl (dQ rfl) (qd (osc:=(j8 xC)) (ON:=["_law_box_here","_law_tops","_law_sizes","_law_rows","_law_deep","_law_number","_law_to","_law_led","_law_heads","_law_size"]) (N:=["_law_row_here"]) (own:=1) (caps:=[]) ⟨rfl,∅,∅,∅,rfl,∅⟩ rfl rfl rfl (jW K (pv 3)) (λ_ _ _ _ _=>(jb (i:=0) (show bg (["_law_row_here"]:List Str) by decide +kernel) rfl (aO rfl))) ↥33 (λ_ _ _ _ _=>↥146)))
   (j4 (jq 8 jP.nd (jd (jg K) rfl Y.b_len aP (j0 (qd (osc:=(j8 xC)) (ON:=["_law_box_here","_law_tops","_law_sizes","_law_rows","_law_deep","_law_number","_law_to","_law_led","_law_heads","_law_size"]) (N:=["_law_one","_law_led"]) (own:=1) (caps:=[7]) ⟨rfl,∅,∅,∅,rfl,∅⟩ rfl rfl rfl (qi rfl Y.b_range (j0 (pv 5) j2)) (λ_ _ _ _ _=>(jb (i:=0) (show bg (["_law_one","_law_led"]:List Str) by decide +kernel) rfl (aO rfl))) (λ_ _ _ _ _=>(yq (ju (zn K) (pv 0) (pv 1) ↥52))) (λ_ _ _ _ _=>(pv 0))) j2)))
   (zO (jI (PW.pt (Qj (ju x4 (pv 8) j5 (jx _)) (wS (ju (Z9 K) (pv 6) (pv 7) ↥52)))) (j9 (jq 6 jP.nd (jk jU (pv 5) j5))) js)
   (j9 (jI (ju yt (jr (jf K) (pv 4) (pv 6) (λ_ _=>rfl)) j5 (jx _)) (j4 (jq 9 jP.nd (jk jO j5 (je I (e.mono ⋯) rfl (j0 (pv 0) (j0 (jd (zQ rfl) rfl Y.b_min om (j0 j5 (j0 (jk jU j5 (jr (jf K) (pv 4) (pv 6) (λ_ _=>rfl))) j2))) j2)))))
   (j4 (jV (xZ K b7 b9 ba jY (pv 1) (j0 (jd (zQ rfl) rfl Y.b_min om (j0 j5 (j0 (jk jO (jr (jf K) (pv 1) (pv 6) (λ_ _=>rfl)) (je I (e.mono ⋯) rfl ↥15)) j2))) j2)))
   (j4 (jV (xZ K b7 b9 ba jY (pv 3) (j0 (jB (j0 (pv 6) (j0 (qL (xW K) rfl Y.b_tuple cJ (j0 (je U (e.mono ⋯) rfl (j0 (pv 0) (j0 (jr (jf K) (pv 1) (vd zG j5) (λ_ _=>rfl)) (j0 (pv 9) j2)))) j2)) j2))) j2)))
   (j9 (jV (xZ K b7 b9 ba jY (pv 4) (j0 (jk jO (jr (jf K) (pv 4) (pv 6) (λ_ _=>rfl)) (pv 9)) j2))))))) (j9 (ji (pv 3))))))))))
   (j9 (ji (pv 3)))))))),?_⟩
  walk_at "r"
  refine ⟨L,b,_,rfl,B,⟨⋯,⋯⟩,λv1 H1 p1 q1 B1 X1=>?_⟩
  walk_at "r"
  refine ⟨by show 1<=sizeLine;decide,λtp H2 am b1 s2=>?_⟩
  have B2:=B1.same s2
  walk_at "r"
  refine ⟨L,b,_,rfl,B2,⟨⋯,⋯⟩,λv2 Z p3 q3 B3 X3=>?_⟩
  have tb:=B1.ne am
  have tL:=B1.neL am
  walk_at "r"
  refine ⟨by show 1<=sizeLine;decide,λsz H4 dk b4 s4=>?_⟩
  have B4:=B3.same s4
  have b0:=s4 _ _ (X3 _ _ b1 tb)
  walk_at "r"
  refine ⟨L,b,20+v1,1+v2,rfl,B4,(),(),(),λgl H5 d B5 X5 eg cn hl hb=>?_⟩
  have cy:=B3.ne dk
  have al:=X5 _ _ b0 tb
  have b3:=X5 _ _ b4 cy
  refine ⟨gl,_,rfl,SqL.of cn,λgt H6 ed cl s6=>?_⟩
  refine ⟨by show 2<=sizeLine;decide,λrt H7 ec b6 S=>?_⟩
  refine ⟨by show 1<=sizeLine;decide,λrw H8 M ap s8=>?_⟩
  have B8:=((B5.same s6).same S).same s8
  have o:jm H5 H8:=(s6.trans S).trans s8
  have d0:=o _ _ b3
  have ae:=o _ _ al
  have b5:H5 rw=none:=(s6.trans S).free M
  have B7:=(B5.same s6).same S
  have rb:=B7.ne M
  have rL:=B7.neL M
  have tr:tp≠rw:=j1 ((s6.trans S) _ _ al) M
  walk_at "r"
  refine ⟨by show 1<=sizeLine;decide,λdp H9 u cr R=>?_⟩
  have db:=B8.ne u
  have dL:=B8.neL u
  have td:tp≠dp:=j1 ae u
  have rd:rw≠dp:=j1 ap u
  have nz:∀a,H8 a=none->a≠b->a≠L->H a=none:=λa ha ab aL=>by
   have a5:=o.free ha
   have a4:=X5.free a5 ab
   exact X1.free (s2.free (X3.free (s4.free a4) ab)) ab
  have nt:H tp=none:=X1.free am tb
  have nr:H rw=none:=X1.free (s2.free (X3.free (s4.free (X5.free b5 rb)) rb)) rb
  have nd:H dp=none:=nz dp u db dL
  have D:RD L b tp rw dp H:=⟨tb,rb,db,tL,rL,dL,tr,td,rd,nt,nr,nd⟩
  have dc:wu [((0-1:Int),d)]=true:=by
   unfold wu okR zf
   simp only [br,List.range_one,oJ,List.all_nil,Bool.and_true]
   show (decide ((0-1:Int) = -1) && decide (1<=↥139/\ ↥139<=12) && d.all λx=>decide (0<=x/\x<=99))=true
   rw [decide_eq_true (show 1<=↥139/\ ↥139<=12 by right),bp,bP]
   exact ⟨rfl,λx hx=>decide_eq_true (hb x hx)⟩
  have a6:qO [((0-1:Int),d)] 0=[0]:=rfl
  have a7:jK [((0-1:Int),d)] [0]=d.length:=by unfold jK;simp [yl]
  have G0:Grown [((0-1:Int),d)]:=by
   refine ⟨dc,aI (bM _ _) (by simp),λi hi=>?_⟩
   have:i=0:=by simp at hi;exact hi
   subst this
   rw [a6,a7]
   right
  have ct:Ext b H H8:=((((X1.trans (Ext.of_same s2)).trans X3).trans (Ext.of_same s4)).trans X5).trans (Ext.of_same o)
  have bu:RG L b tp rw dp H H9 [20+v1] [.ref rt] [((0-1:Int),d)] (zg [((0-1:Int),d)]):=by
   refine ⟨B8.same R,R _ _ ae,R _ _ ap,?_,.cons ⟨rt,gt,rfl,R _ _ (s8 _ _ b6),R _ _ (s8 _ _ (S _ _ cl))⟩ .nil,ct.trans (Ext.of_same R)⟩
   rw [cr]
   show some (HO.lst [V.int (1+v2)])=some (.lst [V.int (jK [((0-1:Int),d)] (qO [((0-1:Int),d)] 0))])
   rw [a6,a7,hl]
  walk_at "r"
  refine ⟨by show 3<=sizeLine;decide,λd4 ep hq cd c1=>?_⟩
  have bs:=bu.same c1
  walk_at "r"
  refine ⟨L,b,_,rfl,bs.box,⟨⋯,⋯⟩,λv3 eo da c4 bv bq=>?_⟩
  have dF:=bs.take D bv bq
  have cb:=bq _ _ cd (bu.box.ne hq)
  obtain ⟨n,hn,n0,n8⟩:=Gw da c4
  refine ⟨_,_,_,_,rfl,rfl,SqL.of cb,hn,?_⟩
  refine ⟨L,b,_,rfl,bv,⟨n0,()⟩,λv4 em ea d7 dT dy=>?_⟩
  have dD:=dF.take D dT dy
  walk_at "r"
  refine ⟨1,1+v4,rfl,⟨(),(),(),()⟩,?_⟩
  have b2:∀t∈[20+v1],t<=99:=λt ht=>by
   have:t=20+v1:=by simpa using ht
   right
  have done:∀(H':Hp) ts xs rs ds,RG L b tp rw dp H H' ts xs rs ds->Grown rs->1<=rs.length->rs.length<=8->Q (.ref rw) H':=λH' ts xs rs ds G gr h1 h8=>k rw H' xs rs G.box G.ext nr G.hrw G.rows gr h1 h8
  refine qK (lo:=1) (n:=(1+v4-1).toNat) (λi σ H'=>∃(v5 v6 v7 v8 v9:Option V) (ts:List Int) (xs:List V) (rs:List Rch),σ=[some (.ref b),some (.ref tp),some (.ref sz),some (.ref rw),some (.ref dp),v5,v6,v7,v8,v9]/\RG L b tp rw dp H H' ts xs rs (zg rs)/\Grown rs/\rs.length=i+1/\ts.length=i+1/\∀t∈ts,t<=99) ⟨_,_,_,_,_,_,_,_,rfl,dD,G0,rfl,rfl,b2⟩ ?_ ?_
  ·rintro i σ H' hi ⟨v5,v6,v7,v8,v9,ts,xs,rs,rfl,G,gr,bi,a9,bd⟩
   have Ld:=qx gr.ok
   have dd:=G.rows.length
   walk_at "r"
   refine ⟨L,b,_,rfl,G.box,⟨(),()⟩,λt Ha bm ej Ba Xa=>?_⟩
   have Ga:=G.take D Ba Xa
   walk_at "r"
   refine ⟨⟨_,SqL.of Ga.hrw⟩,λld a0=>?_⟩
   refine qv (K:=K) (a:=rw) (xs:=xs) (acc:=ld) (λj σ H2=>∃x:Option V,σ=[x]/\H2 ld=some (.lst (((rs.take j).map (·.1)).map V.int))/\Ext ld Ha H2) ?_ ?_ ?_ ?_
   ·exact ⟨none,rfl,j6,Ext.put⟩
   ·rintro j σ H2 hj ⟨x,rfl,y,X⟩
    exact SqL.of (X _ _ Ga.hrw (j1 Ga.hrw a0))
   ·rintro j v σ H2 hv ⟨x,rfl,y,X⟩
    obtain ⟨r,e,q,g,rfl,hq,hg⟩:=(Ga.rows.keep (jp.new X a0)).get hv
    have hj:j<rs.length:=(List.getElem?_eq_some_iff.mp e).1
    walk_at "r"
    refine ⟨_,y,by rw [ah,ah,aN];exact jj (),_,rfl,?_,X.trans Ext.put⟩
    rw [j6,qT (λr:Rch=>r.1) rs j r e,aE]
    rfl
   ·rintro σ H2 ⟨x,rfl,y,X⟩
    rw [dd,aY] at y
    have Gb:=Ga.extN a0 X
    walk_at "r"
    refine ⟨(),(),λhd a1=>?_⟩
    have en:(1+(i:Int)).toNat=rs.length:=()
    refine xj (lo:=0) (n:=(1+(i:Int)).toNat) (acc:=hd) (λj σ Z=>∃(x:Option V) (l:List V),σ=[x,some (.ref ld)]/\Z hd=some (.lst l)/\l.length=((aJ j).filter (jZ rs)).length/\Ext hd H2 Z) ?_ ?_ ?_
    ·exact ⟨none,[],rfl,j6,rfl,Ext.put⟩
    ·rintro j σ Z hj ⟨x,l,rfl,h4,l4,T⟩
     have er:((aJ (j+1)).filter (jZ rs)).length=((aJ j).filter (jZ rs)).length+(if jZ rs j=true then 1 else 0):=by
      rw [cE,bL,ao]
      congr 1
      by_cases z:jZ rs j=true
      ·rw [if_pos z];simp [z]
      ·rw [if_neg z];simp [z]
     have eh:((aJ j).filter (jZ rs)).length<=j:=aI (bM _ _) (by rw [bz];exact ar _)
     walk_at "r"
     refine ⟨ld,_,rfl,.inl (SqL.of (T _ _ y (j1 y a1))),rfl,yA _,?_⟩
     walk_at "r"
     rw [eQ,vy]
     refine zI (λm=>?_) (λm=>?_)
     ·have hb:jZ rs j=true:=by unfold jZ;rw [decide_eq_false (show ¬(j:Int)∈tos rs from m)];rfl
      walk_at "r"
      refine ⟨l,h4,jj (),_,_,rfl,j6,?_,T.trans Ext.put⟩
      rw [ao,br,er,if_pos hb,l4]
     ·have hb:¬jZ rs j=true:=by unfold jZ;rw [decide_eq_true (show (j:Int)∈tos rs from m)];exact au
      exact ⟨_,l,rfl,h4,by rw [er,if_neg hb,l4,Nat.add_zero],T⟩
    ·rintro σ Z ⟨x,l,rfl,h4,l4,T⟩
     have Gc:=Gb.extN a1 T
     have ch:=T _ _ y (j1 y a1)
     rw [en] at l4
     have eb:l.length=(jw rs).length:=l4
     refine ⟨_,_,rfl,.inl (SqL.of h4),?_⟩
     refine ⟨λσ H5=>∃c:Int,σ=[some (.ref b),some (.ref tp),some (.ref sz),some (.ref rw),some (.ref dp),some (.int (1+(i:Int))),some (.int c),some (.ref ld),some (.int l.length),v9]/\H5=Z/\0<=c/\c<rs.length/\(c∈tos rs->(jw rs).length<6),?_,?_⟩
     ·have hh:=gr.heads
      walk_at "r"
      refine qk (λh6=>?_) (λh6=>?_)
      ·walk_at "r"
       refine ⟨ld,_,rfl,.inl (SqL.of ch),rfl,yA _,?_⟩
       walk_at "r"
       rw [vy]
       refine qk (λm=>?_) (λm=>?_)
       ·walk_at "r"
        refine ⟨(),(),λz=>?_⟩
        have:=Zy Ld z
        right
       ·exact ⟨t,rfl,rfl,bm,(),λz=>absurd z m⟩
      ·have:(jw rs).length<6:=by
        have:(l.length:Int)≠6:=λz=>h6 (by rw [z])
        right
       exact ⟨t,rfl,rfl,bm,(),λ_=>this⟩
     ·rintro σ H5 ⟨c,rfl,rfl,t0,t1,th⟩
      have O:=Yw t0 t1
      walk_at "r"
      refine ⟨_,_,_,_,rfl,rfl,SqL.of Gc.hdp,O,?_⟩
      walk_at "r"
      refine qk (λbn=>?_) (λbn=>?_)
      ·have cs:=gr.deep c.toNat ()
       generalize bl:jK rs (qO rs c.toNat)=dt at O bn cs
       walk_at "r"
       refine ⟨_,_,_,_,rfl,rfl,SqL.of Gc.hdp,O,?_⟩
       walk_at "r"
       refine ⟨_,_,rfl,?_⟩
       refine ⟨L,b,_,rfl,Gc.box,⟨by split <;> right,by split <;> right⟩,λp H6 p6 q6 B6 X6=>?_⟩
       have Gd:=Gc.take D B6 X6
       have dV:1+p<=12/\dt+(1+p)<=30:=by
        have c2:=q6
        split at c2 <;> right
       walk_at "r"
       refine ⟨.inl ⟨rfl,_,SqL.of Gd.htp⟩,?_⟩
       walk_at "r"
       have an:c.toNat<ts.length:=()
       refine ⟨_,_,_,_,rfl,rfl,SqL.of Gd.htp,qI t0 (by rw [ay,af an];rfl),?_⟩
       walk_at "r"
       refine ⟨L,b,_,rfl,Gd.box,⟨⋯,⋯⟩,λa3 H7 p7 q7 B7 X7=>?_⟩
       have Ge:=Gd.take D B7 X7
       walk_at "r"
       refine ⟨_,_,rfl,?_⟩
       generalize ce:(if ts[c.toNat]'an+a3<99 then ts[c.toNat]'an+a3 else 99)=new
       have as:new<=99:=by rw [<- ce];split <;> right
       walk_at "r"
       refine ⟨tp,_,_,rfl,rfl,Ge.htp,by rw [ah];exact jj (),?_⟩
       have Gf:RG L b tp rw dp H (upd H7 tp (.lst (ts.map V.int++[V.int new]))) (ts++[new]) xs rs (zg rs):=by
        have:=Ge.putT D (ts++[new])
        rw [aE] at this
        exact this
       walk_at "r"
       refine ⟨.inl ⟨rfl,_,SqL.of Gf.hrw⟩,?_⟩
       walk_at "r"
       refine ⟨_,_,_,_,rfl,rfl,SqL.of j6,yF _ _,?_⟩
       walk_at "r"
       refine ⟨L,b,new,1+p,rfl,Gf.box,as,(),(),λdx H8 J dK X8 d3 cm bk dn=>?_⟩
       have Gg:=Gf.take D dK X8
       refine ⟨dx,_,rfl,SqL.of cm,λdv el d2 ci cL=>?_⟩
       refine ⟨by show 2<=sizeLine;decide,λC cv d1 a2 ac=>?_⟩
       have Gh:=(Gg.same cL).same ac
       walk_at "r"
       refine ⟨rw,_,_,rfl,rfl,Gh.hrw,jj (),?_⟩
       have a8:okR rs.length (c,J)=true:=UD () t0 t1 bk () () dn
       have Gi:=Gh.putR D (v:=.ref C) (r:=(c,J)) ⟨C,dv,rfl,a2,ac _ _ ci⟩
       walk_at "r"
       refine ⟨.inl ⟨rfl,_,SqL.of Gi.hdp⟩,?_⟩
       walk_at "r"
       refine ⟨_,_,_,_,rfl,rfl,SqL.of Gi.hdp,O,?_⟩
       walk_at "r"
       have ei:(zg rs).length=rs.length:=by unfold zg;simp
       refine ⟨dp,_,_,rfl,rfl,Gi.hdp,by rw [ah];exact jj (),?_⟩
       have Gj:RG L b tp rw dp H (upd (upd cv rw (.lst (xs++[.ref C]))) dp (.lst ((zg rs).map V.int++[V.int (dt+(1+p))]))) (ts++[new]) (xs++[.ref C]) (rs++[(c,J)]) (zg (rs++[(c,J)])):=by
        have:=Gi.putD D (zg rs++[dt+(1+p)])
        rw [aE] at this
        rw [QN gr t0 t1 a8,bl,bk]
        exact this
       refine ⟨_,_,_,_,_,_,_,_,rfl,Gj,gr.snoc t0 t1 a8 th (by rw [bl];right),by rw [ao,bi];rfl,by rw [ao,a9];rfl,λt ht=>?_⟩
       rcases List.mem_append.mp ht with ht | ht
       ·exact bd t ht
       ·have:t=new:=by simpa using ht
        right
      ·walk_at "r"
       exact done _ _ _ _ _ Gc gr () ()
  ·rintro σ H' ⟨v5,v6,v7,v8,v9,ts,xs,rs,rfl,G,gr,bi,a9,bd⟩
   walk_at "r"
   exact done _ _ _ _ _ G gr () ()
noncomputable def YU (t:TE):Prop:=∀σ H Q a,(∀v H,Q v H->a v H)->t σ H Q->t σ H a
noncomputable def Ue (r:R2):Prop:=∀x y H Q a,(∀v H,Q v H->a v H)->r x y H Q->r x y H a
theorem ZW (i:Nat):YU (tVar i):=λ_ _ _ _ h ⟨v,e,q⟩=>⟨v,e,h _ _ q⟩
theorem ZZ (v:V):YU (tC v):=λ_ _ _ _ h q=>h _ _ q
theorem kt (j:Ue r) (G:YU ta) (z:YU tb):YU (tOp r ta tb):=λσ H Q c h q=>G σ H _ _ (λx H1 b=>z σ H1 _ _ (λy H2 a=>j x y H2 _ _ h a) b) q
theorem ZN (K:ag):Ue (rIxL K):=λ_ _ _ _ _ h ⟨a,xs,i,v,e,d,c,b,q⟩=>⟨a,xs,i,v,e,d,c,b,h _ _ q⟩
theorem UP (K:ag):Ue (rIxT K):=λ_ _ _ _ _ h ⟨a,xs,i,v,e,d,c,b,q⟩=>⟨a,xs,i,v,e,d,c,b,h _ _ q⟩
theorem WO (g:Int->Int->V):Ue (rI0 g):=λ_ _ _ _ _ h ⟨i,j,b,a,q⟩=>⟨i,j,b,a,h _ _ q⟩
theorem Wy:Ue rNe:=λ_ _ _ _ _ h ⟨e,q⟩=>⟨e,h _ _ q⟩
theorem Vm {t:TE}(j:YU t):∀σ H Q Q',(∀b H1,Q b H1->Q' b H1)->XN t σ H Q->XN t σ H Q':=λσ H Q Q' h q=>j σ H _ _ (λ_ _ ⟨k,e,q⟩=>⟨k,e,h _ _ q⟩) q
theorem Xc {α:Type}{x:α}{l:List α}:atI (x::l) 0=some x:=yb (j:=0) rfl
noncomputable def ur (fd:Addr) (H:Hp) (vs:List V) (j:List (List Int)):Prop:=cU (λv (r:List Int)=>∃a,v=V.ref a/\a≠fd/\H a=some (.lst (r.map V.int))) vs j
theorem ur.ext {rows:List (List Int)}(h:ur fd H vs rows) (e:Ext fd H H'):ur fd H' vs rows:=Paired.mapP h λ_ _ ⟨a,b,n,q⟩=>⟨a,b,n,e _ _ q n⟩
theorem ur.rowsI {rows:List (List Int)}(h:ur fd H vs rows):vg H vs rows:=Paired.mapP h λ_ _ ⟨a,b,n,q⟩=>⟨a,b,q⟩
theorem kE {vs:List V}{ws:List (List Int)}(h:vg H vs ws):∀z:List Nat,(∀i∈z,i<vs.length)->vg H (z.map λi=>vs.getD i V.non) (z.map λi=>ws.getD i [])
 | [],_=>.nil
 | i::z,b=>by
  refine .cons ?_ (kE h z λj c=>b j (aH _ c))
  have hi:=b i aK
  obtain ⟨y,f,a,e,d⟩:=Paired.get h (af hi)
  refine ⟨a,?_,?_⟩
  ·show vs.getD i V.non=V.ref a
   rw [aq,af hi];exact e
  ·show H a=some (.lst ((ws.getD i []).map V.int))
   rw [aq,f];exact d
inductive spRoadsL (K:ag) (vs:List V) (H:Hp) (Q:VK) (z_3:XK):Prop
 | mk (p:Addr) (xs:List V) (rs:List Rch) (_:vs=[.ref p]) (_:H p=some (.lst xs)) (_:qo H xs rs) (_:xO rs) (_:rs.length<=60) (_:∀l H' out ws,H l=none->H' l=some (.lst out)->vg H' out ws->qt rs ws->jm H H'->Q (.ref l) H')
theorem xo:FnScope ["_law_reaches_here","_law_led","_law_found","_law_head","_law_road"] ["_law_reaches_here"] (j8 zy):=by walk_at "s"
theorem U1 (nb:Nb2 mg) (F:Fun K "_law_roads" "_law_roads" zy f fd):FnOk P w K mg base CX0 1 f fd ["_law_reaches_here"] (spRoadsL K):=by
 refine F.ok xo (λd H Q E h=>?_) (λct A outer s H d Q E hr h=>?_)
 ·obtain ⟨p,xs,rs,rfl,_⟩:=h
  rfl
 ·obtain ⟨p,xs,rs,rfl,hp,al,L,cs,k⟩:=h
  have ap:=al.length
  refine ⟨_,(j4 (JT (j:=1) (osc:=(j8 zy)) (ON:=["_law_reaches_here","_law_led","_law_found","_law_head","_law_road"]) (N:=["_law_to","_law_ground_here"]) (own:=2) (caps:=[]) ⟨rfl,∅,∅,∅,rfl,∅⟩ xo.nd rfl (aO rfl) rfl rfl rfl (jW K (pv 0)) (λ_ _ _ _ _=>(qg (n:=2) K rfl (jh (jb (i:=0) (show bg (["_law_to","_law_ground_here"]:List Str) by decide +kernel) rfl (aO rfl)) (jh (jb (i:=1) (show bg (["_law_to","_law_ground_here"]:List Str) by decide +kernel) rfl (aO rfl)) qa)))) ↥33 (λ_ _ _ _ _=>(pv 0)))
   (j4 (jq 2 xo.nd (jD j2))
   (j4 (qy aV rfl (qi rfl nb.b_range (j0 (jd (jg K) rfl nb.b_len aP ↥53) j2)) (jb (i:=3) xo.nd rfl (aO rfl)) (j9 (jI (ju (zn K) (pv 3) (pv 1) ↥52) (j4 (jq 4 xo.nd (jD (j0 (pv 3) j2)))
   (j4 (QJ aV (ju VL (jr (qM K) (jr (jf K) (pv 0) ↥147 (λ_ _=>rfl)) j5 (λ_ _=>rfl)) (jk jU j5 j5) (jx _)) (j9 (jq 4 xo.nd (jk Q9 (jD (j0 (jr (qM K) (jr (jf K) (pv 0) ↥147 (λ_ _=>rfl)) j5 (λ_ _=>rfl)) j2)) (pv 4)))))
   (j9 (jV (xZ K b7 b9 ba jY (pv 2) (j0 (pv 4) j2)))))) js)))
   (j9 (ji (qd (osc:=(j8 zy)) (ON:=["_law_reaches_here","_law_led","_law_found","_law_head","_law_road"]) (N:=["_law_road"]) (own:=1) (caps:=[]) ⟨rfl,∅,∅,∅,rfl,∅⟩ rfl rfl rfl (jW K (jd (J8 K hr.units) rfl nb.b_sorted sH ↥59)) (λ_ _ _ _ _=>(jb (i:=0) (show bg (["_law_road"]:List Str) by decide +kernel) rfl (aO rfl))) ↥33 (λ_ _ _ _ _=>(Up K (pv 0))))))))),?_⟩
  walk_at "r"
  refine ⟨⟨_,SqL.of hp⟩,λU a2=>?_⟩
  refine qv (K:=K) (a:=p) (xs:=xs) (acc:=U) (λj σ H2=>∃x y:Option V,σ=[x,y]/\H2 U=some (.lst (((rs.take j).map (·.1)).map V.int))/\Ext U H H2) ?_ ?_ ?_ ?_
  ·exact ⟨none,none,rfl,j6,Ext.put⟩
  ·rintro j σ H2 hj ⟨x,y,rfl,T,Y⟩
   exact SqL.of (Y _ _ hp (j1 hp a2))
  ·rintro j v σ H2 S ⟨x,y,rfl,T,Y⟩
   obtain ⟨r,hr,q,g,rfl,C,hg⟩:=(al.keep (jp.new Y a2)).get S
   have hj:j<rs.length:=(List.getElem?_eq_some_iff.mp hr).1
   walk_at "r"
   refine ⟨q,_,rfl,SqT.of C,rfl,?_⟩
   refine ⟨_,_,rfl,_,_,rfl,rfl,?_⟩
   walk_at "r"
   refine ⟨_,T,by rw [ah,ah,aN];exact jj (),_,_,rfl,?_,Y.trans Ext.put⟩
   rw [j6,qT (λr:Rch=>r.1) rs j r hr,aE]
   rfl
  ·rintro σ H2 ⟨x,y,rfl,T,Y⟩
   rw [ap,aY] at T
   have B:jm H H2:=λc o e=>Y c o e (j1 e a2)
   walk_at "r"
   refine ⟨aG _,λfo H3 a1 a0 s3=>?_⟩
   have a6:=s3 _ _ (B _ _ hp)
   have bi:qo H3 xs rs:=al.keep (jp.same (B.trans s3))
   have bq:=s3 _ _ T
   have bm:H fo=none:=B.free a1
   walk_at "r"
   refine ⟨_,_,rfl,.inl (SqL.of a6),?_⟩
   refine ⟨_,rfl,(),(),?_⟩
   rw [ap]
   refine qK (lo:=0) (n:=((rs.length:Nat):Int).toNat) (λj σ H4=>∃(v3 v4:Option V) (d:List V),σ=[some (.ref p),some (.ref U),some (.ref fo),v3,v4]/\H4 fo=some (.lst d)/\ur fo H4 d (((aJ j).filter (jZ rs)).map λh=>(qO rs h).reverse)/\Ext fo H3 H4/\d.length<=j) ?_ ?_ ?_
   ·exact ⟨_,_,[],rfl,a0,.nil,Ext.refl,ar _⟩
   ·rintro j σ H4 hj ⟨v3,v4,d,rfl,h4,G,O,l4⟩
    have cb:j<rs.length:=()
    have bv:jp H3 H4:=jp.lst O a0
    have bn:=O _ _ bq (j1 T a1)
    have b6:=O _ _ a6 (j1 (B _ _ hp) a1)
    have bd:qo H4 xs rs:=bi.keep bv
    have er:(aJ (j+1)).filter (jZ rs)=(aJ j).filter (jZ rs)++(if jZ rs j=true then [j] else []):=by
     rw [cE,bL]
     congr 1
     by_cases z:jZ rs j=true
     ·rw [if_pos z];simp [z]
     ·rw [if_neg z];simp [z]
    walk_at "r"
    refine ⟨U,_,rfl,.inl (SqL.of bn),rfl,yA _,?_⟩
    walk_at "r"
    rw [eQ,vy]
    refine zI (λas=>?_) (λas=>?_)
    ·have hb:jZ rs j=true:=by unfold jZ;rw [decide_eq_false (show ¬(j:Int)∈tos rs from as)];rfl
     walk_at "r"
     refine ⟨by show 1<=sizeLine;decide,λr0 H5 b3 bl R=>?_⟩
     walk_at "r"
     refine Xw (λσ b=>∃(a:Addr) (r:Nat) (l:List Int),σ=[some (.ref p),some (.ref U),some (.ref fo),some (.int (j:Int)),some (.ref a)]/\jm H4 b/\H4 a=none/\b a=some (.lst (((r:Int)::l).map V.int))/\r<rs.length/\l.length+r<=100/\l.reverse++qO rs r=qO rs j) (λσ b=>match σ with | [_,_,_,_,some (.ref a)]=>(match b a with | some (.lst (.int r::_))=>r.toNat | _=>0) | _=>0) ?_ ?_ ?_
     ·exact ⟨r0,j,[],rfl,R,b3,bl,cb,by simp;right,rfl⟩
     ·rintro σ b ⟨a,r,l,rfl,J,a9,D,m,cn,a8⟩
      have a5:=J _ _ b6
      obtain ⟨v,S,q,g,rfl,C,hg⟩:=(bd.keep (jp.same J)).at (af m)
      have ht:=L.lt m
      have a7:=kM (L _ m)
      have et:=Qs (af m)
      rw [et] at ht a7
      generalize (rs[r]'m).1=tt at ht a7 et C
      walk_at "r"
      refine ⟨_,_,_,_,rfl,rfl,SqL.of D,Xc,?_⟩
      refine ⟨_,_,_,_,rfl,rfl,SqL.of a5,yb S,?_⟩
      refine ⟨_,_,_,_,rfl,rfl,SqT.of C,rfl,?_⟩
      walk_at "r"
      refine zI (λan=>?_) (λan=>?_)
      ·have ch:0<=tt:=by
        have:tt ≠ -1:=λz=>an (by rw [z];rfl)
        right
       walk_at "r"
       refine ⟨_,_,_,_,rfl,rfl,SqL.of D,Xc,?_⟩
       refine ⟨_,_,_,_,rfl,rfl,SqL.of a5,yb S,?_⟩
       refine ⟨_,_,_,_,rfl,rfl,SqT.of C,rfl,?_⟩
       refine ⟨by show 1<=sizeLine;decide,λc1 H7 cr bs I=>?_⟩
       walk_at "r"
       refine ⟨c1,a,_,_,rfl,rfl,bs,I _ _ D,?_,λc2 H8 cd a3 s8=>?_⟩
       ·show 1+(((r:Int)::l).map V.int).length<=sizeLine
        rw [ah,bf]
        exact fF (jj ())
       ·have ce:tt=((tt.toNat:Nat):Int):=()
        refine ⟨⟨c2,tt.toNat,(r:Int)::l,rfl,(J.trans I).trans s8,(J.trans I).free cd,?_,(),?_,?_⟩,?_⟩
        ·rw [a3,ce]
         simp only [bE]
         rfl
        ·rw [bf];right
        ·rw [lT,cA,<- a8,zZ L m,et,if_neg ()]
         rfl
        ·show (match H8 c2 with | some (.lst (.int r::_))=>r.toNat | _=>0)<(match b a with | some (.lst (.int r::_))=>r.toNat | _=>0)
         rw [a3,D]
         show tt.toNat<((r:Int)).toNat
         right
      ·have ci:tt = -1:=V.int.inj an
       have aL:=J _ _ h4
       walk_at "r"
       refine ⟨.inl ⟨rfl,_,SqL.of aL⟩,?_⟩
       walk_at "r"
       refine ⟨fo,_,_,rfl,rfl,aL,jj (),?_⟩
       have bu:a≠fo:=λz=>by rw [z,h4] at a9;cases a9
       refine ⟨_,_,d++[.ref a],rfl,j6,?_,λc o e n=>by rw [j7 n];exact J _ _ (O c o e n),by rw [ao,br];right⟩
       rw [er,if_pos hb,aE]
       refine ur.ext (bV (G.ext (Ext.of_same J)) ⟨a,rfl,bu,?_⟩) Ext.put
       show b a=some (.lst (((qO rs j).reverse).map V.int))
       rw [D,<- a8,zZ L m,et,if_pos (),List.reverse_append,fA]
       rfl
     ·exact Vm (kt Wy (kt (UP K) (kt (ZN K) (ZW 0) (kt (ZN K) (ZW 4) (ZZ _))) (ZZ _)) (kt (WO _) (ZZ _) (ZZ _)))
    ·have hb:¬jZ rs j=true:=by unfold jZ;rw [decide_eq_true (show (j:Int)∈tos rs from as)];exact au
     refine ⟨_,_,d,rfl,h4,?_,O,()⟩
     rw [er,if_neg hb,aF]
     exact G
   ·rintro σ H4 ⟨v3,v4,d,rfl,h4,G,O,l4⟩
    rw [bE] at G l4
    have ab:jm H H4:=λc o e=>O _ _ (s3 _ _ (B _ _ e)) (j1 e bm)
    walk_at "r"
    refine ⟨fo,d,_,rfl,SqL.of h4,(),G.rowsI,λso H5 ac cl M R hs=>?_⟩
    obtain ⟨ix,am,eo,b5⟩:=hs
    have b1:d.length=(jw rs).length:=by rw [aM G,ah];rfl
    have hb:∀i∈ix,i<d.length:=λi hi=>by have:=am.mem_iff.mp hi;simpa using this
    have b2:=kE (G.rowsI) ix hb
    have ae:vg H5 ac (ix.map λi=>((↥134).getD i [])):=by
     rw [eo]
     exact Paired.mapP b2 λ_ _ ⟨a,e1,q⟩=>⟨a,e1,R _ _ q⟩
    have cm:ac.length<=60:=by rw [eo,ah,am.length_eq,bz];right
    generalize a4:(ix.map λi=>((↥134).getD i []))=rv at ae
    have bk:=aM ae
    have b0:qt rs (rv.map cQ):=by
     refine ⟨?_,?_⟩
     ·have h1:=am.map λi=>((↥134).getD i [])
      rw [b1,show (jw rs).length=(↥134).length by rw [ah],QD,a4] at h1
      have h2:=h1.map cQ
      rw [bW] at h2
      refine h2.trans (List.Perm.of_eq (dW λx _=>?_))
      exact fA _
     ·rw [bW,show (cQ ∘ cQ:List Int->List Int)=id from funext λx=>fA x,nR,<- a4]
      exact b5
    refine ⟨so,rfl,⟨_,SqL.of M⟩,λacc u=>?_⟩
    refine qv (K:=K) (a:=so) (xs:=ac) (acc:=acc) (λj σ b=>∃(x:Option V) (t:List V),σ=[x]/\b acc=some (.lst t)/\ur acc b t ((rv.take j).map cQ)/\Ext acc H5 b/\t.length=j) ?_ ?_ ?_ ?_
    ·exact ⟨none,[],rfl,j6,.nil,Ext.put,rfl⟩
    ·rintro j σ b hj ⟨x,t,rfl,h6,Z,X,l6⟩
     exact SqL.of (X _ _ M (j1 M u))
    ·rintro j v σ b S ⟨x,t,rfl,h6,Z,X,l6⟩
     obtain ⟨y,e2,a,rfl,ha⟩:=Paired.get ae S
     have hj:j<rv.length:=(List.getElem?_eq_some_iff.mp e2).1
     walk_at "r"
     refine ⟨a,_,rfl,SqL.of (X _ _ ha (j1 ha u)),λq H7 C b4 I=>?_⟩
     have h7:=I _ _ h6
     have nq:q≠acc:=λz=>by rw [z,h6] at C;cases C
     refine ⟨t,h7,jj (),_,t++[.ref q],rfl,j6,?_,λc o e n=>by rw [j7 n];exact I _ _ (X c o e n),by rw [ao,l6];rfl⟩
     rw [qT cQ rv j y e2]
     refine ur.ext (bV (Z.ext (Ext.of_same I)) ⟨q,rfl,nq,?_⟩) Ext.put
     rw [b4,sf]
    ·rintro σ b ⟨x,t,rfl,h6,Z,X,l6⟩
     rw [bk,aY] at Z
     exact k acc b t _ (ab.free (R.free u)) h6 Z.rowsI b0 λc o e=>X _ _ (R _ _ (ab _ _ e)) (j1 (R _ _ (ab _ _ e)) u)
noncomputable def ja (rs:List Rch) (j:List Int):List Int:=(j.map λr=>yl rs r.toNat).flatten
theorem gC (rs:List Rch):∀j:List Int,((ja rs j).length:Int)=jK rs j
 | []=>rfl
 | r::j=>by
  rw [xD,<- gC rs j]
  unfold ja
  rw [aS,lV,ao]
  push_cast
  rfl
theorem WD {n:Nat}(h:n<=100000):n<sizeLine:=bU h ⋯
theorem wA (rs:List Rch) (z:List Int) (j:Nat) (r:Int) (h:z[j]? = some r):ja rs (z.take (j+1))=ja rs (z.take j)++yl rs r.toNat:=by
 unfold ja
 rw [bI,h,aE,List.flatten_append]
 congr 1
 show [yl rs r.toNat].flatten=_
 simp
theorem w9 {rs:List Rch}(z:∀r∈rs,r.2.length<=100):∀j:List Int,(ja rs j).length<=100*j.length
 | []=>by unfold ja;simp
 | r::j=>by
  have a:=w9 z j
  have h1:(yl rs r.toNat).length<=100:=by
   unfold yl
   rw [aq]
   cases e:rs[r.toNat]? with
   | none=>simp
   | some q=>exact z q (aA e)
  unfold ja at a ⊢
  rw [aS,lV,ao,bf]
  right
inductive spGround (K:ag) (vs:List V) (H:Hp) (Q:VK) (z_3:XK):Prop
 | mk (p a:Addr) (xs:List V) (rs:List Rch) (way:List Int) (_:vs=[.ref p,.ref a]) (_:H p=some (.lst xs)) (_:qo H xs rs) (_: ↥114) (_:H a=some (.lst (way.map V.int))) (_:(∀r∈way,0<=r/\r<rs.length)) (_:way.length<=100) (_:∀l H',H l=none->H' l=some (.lst ((ja rs way).map V.int))->jm H H'->Q (.ref l) H')
theorem zo:FnScope ["_law_reaches_here","_law_road","_law_found","_law_reach","_law_height"] ["_law_reaches_here","_law_road"] (j8 yQ):=by walk_at "s"
theorem Yb (F:Fun K "_law_ground" "_law_ground" yQ f fd):FnOk P w K mg base CX0 1 f fd ["_law_reaches_here","_law_road"] (spGround K):=by
 refine F.ok zo (λY H Q E h=>?_) (λap A outer s H Y Q E O h=>?_)
 ·obtain ⟨p,a,xs,rs,b,rfl,_⟩:=h
  rfl
 ·obtain ⟨p,a,xs,rs,b,rfl,R,I,C,X,S,ac,k⟩:=h
  have ab:=I.length
  refine ⟨_,(j4 (jq 2 zo.nd (jD j2))
   (j4 (qy aV rfl (jW K (pv 1)) (jb (i:=3) zo.nd rfl (aO rfl)) (j9 (qy aV rfl (uG K (jr (qM K) (jr (jf K) (pv 0) (pv 3) (λ_ _=>rfl)) j5 (λ_ _=>rfl))) (jb (i:=4) zo.nd rfl (aO rfl)) (j9 (jV (xZ K b7 b9 ba jY (pv 2) (j0 (pv 4) j2)))))))
   (j9 (ji (pv 2))))),?_⟩
  walk_at "r"
  refine ⟨aG _,λl H1 n u s1=>?_⟩
  have J:=s1 _ _ X
  walk_at "r"
  refine ⟨⟨_,SqL.of J⟩,zx (K:=K) (a:=a) (xs:=b.map V.int) (λj σ H2=>∃x y:Option V,σ=[some (.ref p),some (.ref a),some (.ref l),x,y]/\H2 l=some (.lst ((ja rs (b.take j)).map V.int))/\Ext l H1 H2) ⟨_,_,rfl,u,Ext.refl⟩ ?_ ?_ ?_⟩
  ·rintro j σ H2 hj ⟨x,y,rfl,h2,m⟩
   exact SqL.of (m _ _ J (j1 X n))
  ·rintro j v σ H2 t ⟨x,y,rfl,h2,m⟩
   obtain ⟨r,rfl⟩:=vw t
   have L:b[j]? = some r:=by
    rw [ay] at t
    cases e:b[j]? with
    | none=>rw [e] at t;cases t
    | some y=>rw [e] at t;cases t;rfl
   have hj:j<b.length:=(List.getElem?_eq_some_iff.mp L).1
   have O:=S r (aA L)
   have hi:r.toNat<rs.length:=()
   obtain ⟨v,N,q,g,rfl,Z,T⟩:=(I.keep ((jp.same s1).trans (jp.lst m u))).at (af hi)
   have al:=C _ (c7 hi)
   have an:=w9 C (b.take j)
   have ae:(b.take j).length<=100:=by rw [aN];right
   walk_at "r"
   refine ⟨_,_,_,_,rfl,rfl,SqL.of (m _ _ (s1 _ _ R) (j1 R n)),qI O.1 N,?_⟩
   refine ⟨_,_,_,_,rfl,rfl,SqT.of Z,rfl,?_⟩
   refine ⟨g,rfl,⟨_,SqT.of T⟩,UG (K:=K) (a:=g) (xs:=(rs[r.toNat]'hi).2.map V.int) (λi σ G=>∃y:Option V,σ=[some (.ref p),some (.ref a),some (.ref l),some (.int r),y]/\G l=some (.lst ((ja rs (b.take j)++(rs[r.toNat]'hi).2.take i).map V.int))/\Ext l H2 G) ⟨_,rfl,?_,Ext.refl⟩ ?_ ?_ ?_⟩
   ·rw [tK,aF];exact h2
   ·rintro i σ G am ⟨y,rfl,B,D⟩
    exact SqT.of (jp.lst D h2 _ _ T)
   ·rintro i v σ G d ⟨y,rfl,B,D⟩
    obtain ⟨z,rfl⟩:=vw d
    have M:(rs[r.toNat]'hi).2[i]? = some z:=by
     rw [ay] at d
     cases e:(rs[r.toNat]'hi).2[i]? with
     | none=>rw [e] at d;cases d
     | some y=>rw [e] at d;cases d;rfl
    walk_at "r"
    refine ⟨.inl ⟨rfl,_,SqL.of B⟩,?_⟩
    walk_at "r"
    refine ⟨l,_,_,rfl,rfl,B,?_,?_⟩
    ·rw [ah,ao,aN]
     exact WD ()
    ·refine ⟨_,rfl,?_,D.trans Ext.put⟩
     rw [j6,bI,M,<- cA,aE,aE,aE]
     rfl
   ·rintro σ G ⟨y,rfl,B,D⟩
    refine ⟨_,_,rfl,?_,m.trans D⟩
    rw [B,ah,aY,wA rs b j r L,Qd (af hi)]
  ·rintro σ H2 ⟨x,y,rfl,h2,m⟩
   rw [ah,aY] at h2
   walk_at "r"
   exact k l H2 n h2 λc o U=>m _ _ (s1 _ _ U) (j1 U n)
inductive spWayOf (Pt C:Addr) (vs:List V) (H:Hp) (Q:VK) (E:XK):Prop
 | mk (p:Addr) (xs:List V) (rs:List Rch) (l:Int) (_:vs=[.ref p,.int l]) (_:H p=some (.lst xs)) (_:qo H xs rs) (_:xO rs) (_:rs.length<=60) (_:qV H Pt) (_:(∀t H' ws (i:Nat),l=i->i<ws.length->qt rs ws->H' t=some (.tup ((ws.getD i []).map V.int))->Ext Pt H H'->qV H' Pt->Q (.ref t) H')) (_:∀H',(l<0\/ ↥102<=l)->Ext Pt H H'->qV H' Pt->E (.ref C) none H')
theorem JJ:FnScope ["reaches","lane","ways"] ["reaches","lane"] (j8 kh):=by walk_at "s"
theorem YZ (I:Nb2 mg) (z:mg "NoLane" = some (.ref C)) (j:dj K C [.type "ValueError",.type "Exception",.type "BaseException",.type "object"] "ValueError.__new__" = true) (G:Cal P w K mg base 5 "lanes" ["reaches"] (spLanes K Pt)) (F:Fun K "way_of" "way_of" kh f fd):FnOk P w K mg base (CX1 P w) 6 f fd ["reaches","lane"] (spWayOf Pt C):=by
 refine Fun.okX F JJ (λx H Q E h=>?_) (λR A outer s H x Q E y h=>?_)
 ·obtain ⟨p,xs,rs,l,rfl,_⟩:=h
  rfl
 ·obtain ⟨p,xs,rs,l,rfl,B,n,L,u,M,k,g⟩:=h
  refine ⟨_,(j4 (jq 2 JJ.nd (je G (y.mono ⋯) rfl ↥53))
   (j4 (jI (qX (xk qB yt j5 (pv 1) (jd (jg K) rfl I.b_len aP ↥59))) ↥122 js)
   (j9 (ji (jr (jf K) (pv 2) (pv 1) (λ_ _=>rfl)))))),?_⟩
  walk_at "r"
  refine ⟨p,xs,rs,rfl,B,n,L,u,M,λo H1 b ws T c m t d e=>?_⟩
  have D:b.length=ws.length:=m.length
  have O:(ws.length:Int)=↥102:=by rw [t.length]
  walk_at "r"
  refine qk (λN=>?_) (λN=>?_)
  ·walk_at "r"
   refine ⟨_,_,rfl,.inl (SqL.of c),?_⟩
   walk_at "r"
   refine zI (λh1=>?_) (λh1=>?_)
   ·walk_at "r"
    exact ⟨by show 1<=sizeLine;decide,g H1 (.inr ()) d e⟩
   ·have hi:l.toNat<b.length:=()
    obtain ⟨S,i,a,q,J⟩:=Paired.get m (af hi)
    have v:l=(l.toNat:Int):=()
    walk_at "r"
    refine ⟨_,_,_,_,rfl,rfl,SqL.of c,(by rw [v];exact yb (af hi)),?_⟩
    rw [q]
    refine k a H1 ws l.toNat v () t ?_ d e
    rw [J,aq,i]
    rfl
  ·walk_at "r"
   refine vO ?_
   walk_at "r"
   exact ⟨by show 1<=sizeLine;decide,g H1 (.inl ()) d e⟩
inductive spHeights (Pt C:Addr) (vs:List V) (H:Hp) (Q:VK) (E:XK):Prop
 | mk (p:Addr) (xs:List V) (rs:List Rch) (l:Int) (_:vs=[.ref p,.int l]) (_:H p=some (.lst xs)) (_:qo H xs rs) (_:xO rs) (_:rs.length<=60) (_: ↥114) (_:qV H Pt) (_:(∀t H' ws (i:Nat),l=i->i<ws.length->qt rs ws->H t=none->H' t=some (.lst ((ja rs (ws.getD i [])).map V.int))->Ext Pt H H'->qV H' Pt->Q (.ref t) H')) (_:∀H',(l<0\/ ↥102<=l)->Ext Pt H H'->qV H' Pt->E (.ref C) none H')
theorem Zm:FnScope ["reaches","lane"] ["reaches","lane"] (j8 vJ):=by walk_at "s"
theorem WC {ws:List (List Int)}(L:xO rs) (h:qt rs ws) {a:Nat}(j:a<ws.length):(∀r∈ws.getD a [],0<=r/\r<rs.length)/\(ws.getD a []).length<=rs.length:=by
 rw [aq,af j]
 obtain ⟨x,b,e⟩:=h.mem (c7 j)
 show (∀r∈ws[a],_)/\ws[a].length<=_
 rw [e]
 exact ⟨zq L x (xS b),by have:=ut L x (xS b);have:=xS b;right⟩
theorem uh {l:List Int}{j:Nat}(h:(l.map V.int)[j]? = some v):∃x,v = .int x/\l[j]? = some x:=by
 rw [ay] at h
 cases e:l[j]? with
 | none=>rw [e] at h;cases h
 | some y=>rw [e] at h;cases h;exact ⟨y,rfl,rfl⟩
theorem Xu (T:qV H Pt) (e:Ext Pt H H') (j:qV H' Pt) (n:H' a=none):H a=none:=by
 cases q:H a with
 | none=>rfl
 | some o =>
  by_cases z:a=Pt
  ·obtain ⟨ps,h⟩:=j.ne
   rw [z,h] at n
   cases n
  ·have:=e _ _ q z
   rw [n] at this
   cases this
theorem Zz (nb:Nb2 mg) (G:CalX P w K mg base 6 "way_of" ["reaches","lane"] (spWayOf Pt C)) (F:Fun K "heights" "heights" vJ f fd):FnOk P w K mg base (CX1 P w) 7 f fd ["reaches","lane"] (spHeights Pt C):=by
 refine Fun.okX F Zm ↥27 (λa5 A outer s H vs Q E hr h=>?_)
 ·obtain ⟨p,xs,rs,l,rfl,_⟩:=h
  rfl
 ·obtain ⟨p,xs,rs,l,rfl,hp,Y,L,a0,O,X,k,kx⟩:=h
  refine ⟨_,(j9 (ji (Vd (osc:=(j8 vJ)) (ON:=["reaches","lane"]) (N:=["reach","height","reaches"]) (own:=2) (caps:=[0]) ⟨rfl,∅,∅,∅,rfl,∅⟩ rfl rfl rfl (uG K (xc G (hr.mono ⋯) qP rfl (j0 (pv 0) ↥51))) (λ_ _ _ _ _=>(jb (i:=0) (show bg (["reach","height","reaches"]:List Str) by decide +kernel) rfl (aO rfl))) ↥33 (λ_ _ _ _ _=>(uG K (jr (qM K) (jr (jf K) (pv 2) (pv 0) (λ_ _=>rfl)) j5 (λ_ _=>rfl)))) (λ_ _ _ _ _=>(jb (i:=1) (show bg (["reach","height","reaches"]:List Str) by decide +kernel) rfl (aO rfl))) ↥33 (λ_ _ _ _ _=>(pv 1))))),?_⟩
  obtain ⟨ps,ae⟩:=X.ne
  walk_at "r"
  refine ⟨p,xs,rs,l,rfl,hp,Y,L,a0,X,λt H1 ws i ei hi hR D B S=>?_,λH1 am B S=>kx H1 am B S⟩
  have ac:=B _ _ hp (jo hp ae ↥4)
  have al:qo H1 xs rs:=Y.keep (jp.tbl B ae)
  obtain ⟨an,a2⟩:=WC L hR hi
  have kk:=λt H'=>k t H' ws i ei hi hR
  generalize ws.getD i []=d at *
  walk_at "r"
  refine ⟨⟨_,SqT.of D⟩,λacc b=>?_⟩
  refine Yq (K:=K) (a:=t) (xs:=d.map V.int) (acc:=acc) (λj σ H2=>∃x y:Option V,σ=[x,y,some (.ref p)]/\H2 acc=some (.lst ((ja rs (d.take j)).map V.int))/\Ext acc H1 H2) ?_ ?_ ?_ ?_
  ·exact ⟨none,none,rfl,j6,Ext.put⟩
  ·rintro j σ H2 hj ⟨x,y,rfl,M,e⟩
   exact SqT.of (e _ _ D (j1 D b))
  ·rintro j v σ H2 hv ⟨x,y,rfl,M,e⟩
   obtain ⟨r,rfl,Z⟩:=uh hv
   have a4:=an r (aA Z)
   have m:r.toNat<rs.length:=()
   obtain ⟨v,as,q,g,rfl,ab,u⟩:=al.at (af m)
   have aL:=e _ _ ac (j1 ac b)
   have hq:=e _ _ ab (j1 ab b)
   have gl:=w9 O (d.take j)
   have jl:(d.take j).length<=60:=by rw [aN];right
   have I:=wA rs d j r Z
   have a1:yl rs r.toNat=(rs[r.toNat]'m).2:=by
    unfold yl
    rw [aq,af m]
    rfl
   have U:=O _ (c7 m)
   rw [a1] at I
   generalize (rs[r.toNat]'m).2=hs at u I U
   walk_at "r"
   refine ⟨_,_,_,_,rfl,rfl,SqL.of aL,(by rw [show r=((r.toNat:Nat):Int) by right];exact yb as),?_⟩
   refine ⟨_,_,_,_,rfl,rfl,SqT.of hq,rfl,?_⟩
   refine ⟨g,rfl,⟨_,SqT.of (e _ _ u (j1 u b))⟩,?_⟩
   refine GE (K:=K) (a:=g) (acc:=acc) (xs:=hs.map V.int) (λn σ T=>∃y:Option V,σ=[some (.int r),y,some (.ref p)]/\T acc=some (.lst ((ja rs (d.take j)++hs.take n).map V.int))/\Ext acc H1 T) ?_ ?_ ?_ ?_
   ·exact ⟨y,rfl,by rw [tK,aF];exact M,e⟩
   ·rintro n σ T hn ⟨y,rfl,J,R⟩
    exact SqT.of (R _ _ u (j1 u b))
   ·rintro n v σ T ap ⟨y,rfl,J,R⟩
    obtain ⟨h,rfl,hh⟩:=uh ap
    have a3:=(List.getElem?_eq_some_iff.mp hh).1
    walk_at "r"
    refine ⟨_,J,by rw [ah,ao,aN];exact aQ (show _<10000 by right) ⋯,some (.int h),rfl,?_,R.trans Ext.put⟩
    rw [j6,bI,hh,dB,<- cA,aE (l₁:=ja rs (d.take j)++hs.take n)]
    rfl
   ·rintro σ T ⟨y,rfl,J,R⟩
    rw [ah,aY,<- I] at J
    exact ⟨_,_,rfl,J,R⟩
  ·rintro σ H2 ⟨x,y,rfl,M,e⟩
   rw [ah,aY] at M
   exact kk acc H2 (Xu X B S b) M (λc o hc n=>e _ _ (B _ _ hc n) (λz=>by rw [z,Xu X B S b] at hc;cases hc)) (S.extN b e)
noncomputable def wN (z U G j I:Addr):List (Str×V):=jv "leaps" (.ref I) (jv "years" (.ref j) (jv "slopes" (.ref G) (jv "cycle" (.ref U) (jv "valley" (.ref z) []))))
theorem gR (G j I z U:Addr):(wN G j I z U).lookup ("cycle" : Str)=some (.ref j):=by
 unfold wN
 rw [jC,if_neg ∅,jC,if_neg ∅,jC,if_neg ∅,jC,if_pos rfl]
theorem y8 (G U j z I:Addr):(wN G U j z I).lookup ("slopes" : Str)=some (.ref j):=by
 unfold wN
 rw [jC,if_neg ∅,jC,if_neg ∅,jC,if_pos rfl]
theorem gh (z U G j I:Addr):(wN z U G j I).lookup ("years" : Str)=some (.ref j):=by
 unfold wN
 rw [jC,if_neg ∅,jC,if_pos rfl]
theorem vZ (G U I z j:Addr):(wN G U I z j).lookup ("leaps" : Str)=some (.ref j):=by
 unfold wN
 rw [jC,if_pos rfl]
theorem UV (z cy G j I:Addr) {m:Str}(h1:¬m = "leaps") (h2:¬m = "years") (h3:¬m = "slopes") (Y:¬m = "cycle") (U:¬m = "valley"):(wN z cy G j I).lookup m=none:=by
 unfold wN
 rw [jC,if_neg h1,jC,if_neg h2,jC,if_neg h3,jC,if_neg Y,jC,if_neg U]
 rfl
theorem xf {m:Str}(h:(¬m="leaps")/\(¬m="years")/\(¬m="slopes")/\(¬m="cycle")/\¬m="valley"):(wN z U G j I).lookup m=none:=UV _ _ _ _ _ h.1 h.2.1 h.2.2.1 h.2.2.2.1 h.2.2.2.2
structure IceC (K:ag) (C:Addr):Prop where
 cl:Cls K C
 nV:zV K C "valley"
 nC:zV K C "cycle"
 nS:zV K C "slopes"
 nY:zV K C "years"
 nL:zV K C "leaps"
structure IceG where
 dx:Addr
 va:Addr
 cy:Addr
 sl:Addr
 ye:Addr
 le:Addr
 xs:List V
 ys:List V
 zs:List V
 lds:List ↥58
 kvs:List (Key×V)
 rs:List Rch
 rows:List T3
 slopes:List (List Int)
structure IceAt (C:Addr) (H:Hp) (p:Addr) (g:IceG):Prop where
 ob:H p=some (.ins C g.dx (wN g.va g.cy g.sl g.ye g.le))
 va:H g.va=some (.lst g.xs)
 rs:qo H g.xs g.rs
 cy:H g.cy=some (.lst g.ys)
 rows:jN H g.ys g.rows
 sl:H g.sl=some (.lst g.zs)
 slopes:vg H g.zs g.slopes
 ye:H g.ye=some (.dK g.kvs)
 le:H g.le=some (.lst (g.lds.map λx=>V.ref x.1))
 lds:∀x∈g.lds,H x.1=some (.dK x.2)
theorem IceAt.same {p:Addr}(I:IceAt C H p g) (s:jm H H'):IceAt C H' p g :=
 ⟨s _ _ I.ob,s _ _ I.va,I.rs.keep (jp.same s),s _ _ I.cy,I.rows.imp λ_ _ q=>s _ _ q,s _ _ I.sl,Paired.mapP I.slopes λ_ _ ⟨a,e,q⟩=>⟨a,e,s _ _ q⟩,s _ _ I.ye,s _ _ I.le,λx b=>s _ _ (I.lds x b)⟩
theorem Qt (I:IceAt C H p g) {l:Int}(j:0<=l) (h1:l< ↥9):∃a,atI g.zs l=some (.ref a)/\H a=some (.lst ((↥2).map V.int)):=by
 have d:g.zs.length=g.slopes.length:=aM I.slopes
 have hi:l.toNat<g.zs.length:=()
 obtain ⟨w,b,a,e,c⟩:=Paired.get I.slopes (af hi)
 refine ⟨a,?_,?_⟩
 ·rw [show l=((l.toNat:Nat):Int) by right]
  refine yb ?_
  rw [af hi,e]
 ·rw [c,aq,b]
  rfl
theorem U2 {l:List Int}{n:Nat}(h:n<l.length):(l.map V.int)[n]? = some (V.int (l.getD n 0)):=by
 rw [ay,aq,af h]
 rfl
inductive spCheckLane (C CN:Addr) (vs:List V) (H:Hp) (Q:VK) (E:XK):Prop
 | mk (p:Addr) (g:IceG) (l:Int) (_:vs=[.ref p,.int l]) (_:IceAt C H p g) (_:(0<=l->l< ↥9->Q .non H)) (_: ↥31)
theorem ub:FnScope ["self","lane"] ["self","lane"] (j8 xV):=by walk_at "s"
theorem um (U:Nb2 mg) (T:IceC K C) (z:mg "NoLane" = some (.ref G)) (j:dj K G [.type "ValueError",.type "Exception",.type "BaseException",.type "object"] "ValueError.__new__" = true) (F:Fun K "check_lane" "Ice.check_lane" xV f fd):FnOk P w K mg base (CX1 P w) 1 f fd ["self","lane"] (spCheckLane C G):=by
 refine Fun.okX F ub (λc H Q E h=>?_) (λe A outer s H c Q E i h=>?_)
 ·obtain ⟨p,g,l,rfl,_⟩:=h
  rfl
 ·obtain ⟨p,g,l,rfl,I,k,a⟩:=h
  have d:g.zs.length=g.slopes.length:=aM I.slopes
  refine ⟨_,(j9 (jI (qX (xk qB yt j5 (pv 1) (jd (jg K) rfl U.b_len aP (j0 (xE K (pv 0)) j2)))) ↥122 js)),?_⟩
  walk_at "r"
  refine qk (λb=>?_) (λb=>?_)
  ·walk_at "r"
   refine ⟨p,C,g.dx,_,_,rfl,I.ob,T.cl,T.nS,y8 _ _ _ _ _,?_⟩
   walk_at "r"
   refine ⟨_,_,rfl,.inl (SqL.of I.sl),?_⟩
   rw [d]
   walk_at "r"
   refine zI (λh1=>?_) (λh1=>?_)
   ·walk_at "r"
    exact ⟨by show 1<=sizeLine;decide,a (.inr ())⟩
   ·walk_at "r"
    exact k b h1
  ·walk_at "r"
   refine vO ?_
   walk_at "r"
   exact ⟨by show 1<=sizeLine;decide,a (.inl ())⟩
inductive spCheckPlace (C CN CP:Addr) (vs:List V) (H:Hp) (Q:VK) (E:XK):Prop
 | mk (p:Addr) (g:IceG) (l n:Int) (_:vs=[.ref p,.int l,.int n]) (_:IceAt C H p g) (_:(0<=l->l< ↥9->0<=n->n< ↥49->Q .non H)) (_: ↥31) (_:(0<=l->l< ↥9->(n<0\/ ↥49<=n)->E (.ref CP) none H))
theorem vM:FnScope ["self","lane","place"] ["self","lane","place"] (j8 xH):=by walk_at "s"
theorem vP (nb:Nb2 mg) (T:IceC K C) (G:mg "NoPlace" = some (.ref Y)) (z:dj K Y [.type "ValueError",.type "Exception",.type "BaseException",.type "object"] "ValueError.__new__" = true) (U:Cls K C) (j:CalMX P w K mg base 1 C "check_lane" ["self","lane"] (spCheckLane C CN)) (F:Fun K "check_place" "Ice.check_place" xH f fd):FnOk P w K mg base (CX1 P w) 2 f fd ["self","lane","place"] (spCheckPlace C CN Y):=by
 refine Fun.okX F vM (λm H Q E h=>?_) (λv A outer s H m Q E q h=>?_)
 ·obtain ⟨p,g,l,n,rfl,_⟩:=h
  rfl
 ·obtain ⟨p,g,l,n,rfl,I,k,o,d⟩:=h
  refine ⟨_,(j4 (jV (yr (pv 0) U j (q.mono ⋯) qP ↥51))
   (j9 (jI (qX (xk qB yt j5 (pv 2) (jd (jg K) rfl nb.b_len aP (j0 ↥70 j2)))) (j9 (xQ bH z G rfl zK rfl (j0 jt j2))) js))),?_⟩
  walk_at "r"
  refine ⟨p,g.dx,_,rfl,I.ob,xf ∅,?_⟩
  walk_at "r"
  refine ⟨p,g,l,rfl,I,λc b=>?_,λt=>o t⟩
  obtain ⟨a,u,e⟩:=Qt I c b
  walk_at "r"
  refine qk (λi=>?_) (λi=>?_)
  ·walk_at "r"
   refine ⟨p,C,g.dx,_,_,rfl,I.ob,T.cl,T.nS,y8 _ _ _ _ _,?_⟩
   walk_at "r"
   refine ⟨_,_,_,_,rfl,rfl,SqL.of I.sl,u,?_⟩
   walk_at "r"
   refine ⟨_,_,rfl,.inl (SqL.of e),?_⟩
   rw [ah]
   walk_at "r"
   refine zI (λh1=>?_) (λh1=>?_)
   ·walk_at "r"
    exact ⟨by show 1<=sizeLine;decide,d c b (.inr ())⟩
   ·walk_at "r"
    exact k c b i h1
  ·walk_at "r"
   refine vO ?_
   walk_at "r"
   exact ⟨by show 1<=sizeLine;decide,d c b (.inl ())⟩
inductive spLengthI (C CN:Addr) (vs:List V) (H:Hp) (Q:VK) (E:XK):Prop
 | mk (p:Addr) (g:IceG) (l:Int) (_:vs=[.ref p,.int l]) (_:IceAt C H p g) (_:(0<=l->l< ↥9->Q (.int ↥49) H)) (_: ↥31)
theorem kA:FnScope ["self","lane"] ["self","lane"] (j8 yi):=by walk_at "s"
theorem gq (G:Nb2 mg) (T:IceC K C) (z:Cls K C) (j:CalMX P w K mg base 1 C "check_lane" ["self","lane"] (spCheckLane C U)) (F:Fun K "length" "Ice.length" yi f fd):FnOk P w K mg base (CX1 P w) 2 f fd ["self","lane"] (spLengthI C U):=by
 refine Fun.okX F kA (λe H Q E h=>?_) (λq A outer s H e Q E m h=>?_)
 ·obtain ⟨p,g,l,rfl,_⟩:=h
  rfl
 ·obtain ⟨p,g,l,rfl,I,k,i⟩:=h
  refine ⟨_,(j4 (jV (yr (pv 0) z j (m.mono ⋯) qP ↥51))
   (j9 (ji (jd (jg K) rfl G.b_len aP (j0 ↥70 j2))))),?_⟩
  walk_at "r"
  refine ⟨p,g.dx,_,rfl,I.ob,xf ∅,?_⟩
  walk_at "r"
  refine ⟨p,g,l,rfl,I,λc b=>?_,λn=>i n⟩
  obtain ⟨a,o,d⟩:=Qt I c b
  walk_at "r"
  refine ⟨p,C,g.dx,_,_,rfl,I.ob,T.cl,T.nS,y8 _ _ _ _ _,?_⟩
  walk_at "r"
  refine ⟨_,_,_,_,rfl,rfl,SqL.of I.sl,o,?_⟩
  walk_at "r"
  refine ⟨_,_,rfl,.inl (SqL.of d),?_⟩
  rw [ah]
  exact k c b
inductive spHeightI (C CN CP:Addr) (vs:List V) (H:Hp) (Q:VK) (E:XK):Prop
 | mk (p:Addr) (g:IceG) (l n:Int) (_:vs=[.ref p,.int l,.int n]) (_:IceAt C H p g) (_:(0<=l->l< ↥9->0<=n->n< ↥49->Q (.int ((↥2).getD n.toNat 0)) H)) (_: ↥31) (_:(0<=l->l< ↥9->(n<0\/ ↥49<=n)->E (.ref CP) none H))
theorem gG:FnScope ["self","lane","place"] ["self","lane","place"] (j8 yj):=by walk_at "s"
theorem hZ (Y:Nb2 mg) (T:IceC K C) (z:Cls K C) (j:CalMX P w K mg base 2 C "check_place" ["self","lane","place"] (spCheckPlace C U G)) (F:Fun K "height" "Ice.height" yj f fd):FnOk P w K mg base (CX1 P w) 3 f fd ["self","lane","place"] (spHeightI C U G):=by
 refine Fun.okX F gG (λi H Q E h=>?_) (λx A outer s H i Q E u h=>?_)
 ·obtain ⟨p,g,l,n,rfl,_⟩:=h
  rfl
 ·obtain ⟨p,g,l,n,rfl,I,k,t,q⟩:=h
  refine ⟨_,(j4 (jV (yr (pv 0) z j (u.mono ⋯) qP (j0 (pv 1) ↥59)))
   (j9 (ji (jr (jf K) ↥70 (pv 2) (λ_ _=>rfl))))),?_⟩
  walk_at "r"
  refine ⟨p,g.dx,_,rfl,I.ob,xf ∅,?_⟩
  walk_at "r"
  refine ⟨p,g,l,n,rfl,I,λc b o m=>?_,λd=>t d,λc b d=>q c b d⟩
  obtain ⟨a,v,e⟩:=Qt I c b
  walk_at "r"
  refine ⟨p,C,g.dx,_,_,rfl,I.ob,T.cl,T.nS,y8 _ _ _ _ _,?_⟩
  walk_at "r"
  refine ⟨_,_,_,_,rfl,rfl,SqL.of I.sl,v,?_⟩
  walk_at "r"
  refine ⟨_,_,_,_,rfl,rfl,SqL.of e,(by rw [show n=((n.toNat:Nat):Int) by right];exact yb (U2 ())),?_⟩
  exact k c b o m
inductive spCheckRound (CR:Addr) (vs:List V) (H:Hp) (Q:VK) (E:XK):Prop
 | mk (p:Addr) (xs:List V) (ts:List T3) (_:vs=[.ref p]) (_:H p=some (.lst xs)) (_:jN H xs ts) (_:ts.length<=1000) (_:(∀H',gr ts=true->jm H H'->Q .non H')) (_:∀H',gr ts=false->jm H H'->E (.ref CR) none H')
theorem kB:FnScope ["rows"] ["rows"] (j8 yc):=by walk_at "s"
theorem gj {CR:Addr}(I:Nb2 mg) (z:mg "BadRound" = some (.ref CR)) (j:dj K CR [.type "ValueError",.type "Exception",.type "BaseException",.type "object"] "ValueError.__new__" = true) (G:Cal P w K mg base 2 "is_round" ["rows"] (spRound K)) (F:Fun K "check_round" "check_round" yc f fd):FnOk P w K mg base (CX1 P w) 3 f fd ["rows"] (spCheckRound CR):=by
 refine Fun.okX F kB (λc H Q E h=>?_) (λl A outer s H c Q E g h=>?_)
 ·obtain ⟨p,xs,ts,rfl,_⟩:=h
  rfl
 ·obtain ⟨p,xs,ts,rfl,i,b,a,k,d⟩:=h
  refine ⟨_,(j9 (jI (qX (zD (je G (g.mono ⋯) rfl ↥53))) ↥122 js)),?_⟩
  walk_at "r"
  refine ⟨p,xs,ts,rfl,i,b,a,λH1 s1=>?_⟩
  cases e:gr ts with
  | true =>
   walk_at "r"
   exact k H1 e s1
  | false =>
   walk_at "r"
   exact ⟨by show 1<=sizeLine;decide,d H1 e s1⟩
noncomputable def Kp (p Pt:Addr) (H H':Hp):Prop:=∀c o,H c=some o->c≠p->c≠Pt->H' c=some o
theorem Kp.trans {p:Addr}(a:Kp p Pt H H1) (b:Kp p Pt H1 H2):Kp p Pt H H2:=λc o h n m=>b c o (a c o h n m) n m
theorem Kp.of_same {p:Addr}(s:jm H H'):Kp p Pt H H':=λc o h _ _=>s c o h
theorem Kp.of_ext {p:Addr}(s:Ext Pt H H'):Kp p Pt H H':=λc o h _ m=>s c o h m
theorem Kp.put {p:Addr}:Kp p Pt H (upd H p o):=λc _ h n _=>by rw [j7 n];exact h
theorem Kp.at {p:Addr}(k:Kp p Pt H H') (h:H a=some o) (z:H p=some u) (j:H Pt=some (.tbl ps)) (n:o≠u) (m:o≠.tbl ps):H' a=some o:=k _ _ h (jo h z n) (jo h j m)
theorem Kp.free {p:Addr}(k:Kp p Pt H H') (h:H' a=none) (G:H' p=some u) (j:H' Pt=some I):H a=none:=by
 cases e:H a with
 | none=>rfl
 | some o =>
  have:=k a o e (λz=>by rw [z,G] at h;cases h) (λz=>by rw [z,j] at h;cases h)
  rw [h] at this
  cases this
theorem uF {fs:List (Str×V)}(T:qV H Pt) (j:H p=some ↥119):qV (upd H p o) Pt:=by
 rcases T with h | ⟨c,h,h'⟩
 ·exact .inl (by rw [j7 (jo h j ↥4)];exact h)
 ·exact .inr ⟨c,by rw [j7 (jo h j ↥4)];exact h,by rw [j7 (jo h' j ↥4)];exact h'⟩
theorem jp.kp {p dx:Addr}{fs:List (Str×V)}(k:Kp p Pt H H') (G:H p=some ↥119) (j:H Pt=some (.tbl ps)):jp H H':=λ_ _ h=>k.at h G j ↥4 ↥4
theorem pm {α β:Type}{F:α->β->Prop}:∀{l₁:List α}{j:List β},cU F l₁ j->∀v∈l₁,∃w,F v w
 | _,_,.nil,v,h=>by cases h
 | _,_,.cons q r,v,h=>by
  rcases List.mem_cons.mp h with rfl | z
  ·exact ⟨_,q⟩
  ·exact pm r v z
theorem pmE {H H0:Hp}{a0:Addr}(r:cU (λv (w:List Int)=>∃a,v=V.ref a/\H a=some (.lst (w.map V.int))/\H0 a=none/\a≠a0) zs j):∀a,V.ref a∈zs->H0 a=none/\a≠a0:=λa h=>by
 obtain ⟨w,b,e,_,z⟩:=pm r _ h
 cases e
 exact z
structure IceNew (C Pt:Addr) (H H':Hp) (p:Addr) (g:IceG):Prop where
 at_:IceAt C H' p g
 keep:∀c o,H c=some o->c≠p->c≠Pt->H' c=some o
 va:H g.va=none
 cy:H g.cy=none
 sl:H g.sl=none
 ye:H g.ye=none
 le:H g.le=none
 zs:∀a,V.ref a∈g.zs->H a=none
 kvs:g.kvs=[]
 lds:∀x∈g.lds,H x.1=none/\x.2=[]
 ll:g.lds.length=g.slopes.length
 nd:(g.lds.map (·.1)).Nodup
 ny:∀x∈g.lds,x.1≠g.ye
 sl2:∃ws,qt g.rs ws/\g.slopes=ws.map (ja g.rs)
inductive spInit (C CV CR Pt:Addr) (vs:List V) (H:Hp) (Q:VK) (E:XK):Prop
 | mk (p dx r q:Addr) (xs ys:List V) (rs:List Rch) (ts:List T3) (_:vs=[.ref p,.ref r,.ref q]) (_:H p=some (.ins C dx [])) (_:H r=some (.lst xs)) (_:qo H xs rs) (_:H q=some (.lst ys)) (_:jN H ys ts) (_: ↥114) (_:rs.length<=60) (_:ts.length<=1000) (_:qV H Pt) (_:(∀H' g,y4 rs=true->gr ts=true->IceNew C Pt H H' p g->g.rs=rs->g.rows=ts->g.xs=xs->g.ys=ys->qV H' Pt->Q .non H')) (_:(∀H',y4 rs=false->Ext Pt H H'->qV H' Pt->E (.ref CV) none H')) (_:(∀H',y4 rs=true->gr ts=false->Ext Pt H H'->qV H' Pt->E (.ref CR) none H'))
theorem wf:FnScope ["self","reaches","rows"] ["self","reaches","rows"] (j8 x3):=by walk_at "s"
theorem wa {f CR CN Pt:Addr}{fd:FuncData}(nb:Nb2 mg) (T:IceC K C) (U:mg "BadValley" = some (.ref CV)) (I:dj K CV [.type "ValueError",.type "Exception",.type "BaseException",.type "object"] "ValueError.__new__" = true)
  (Y:Cal P w K mg base 6 "is_valley" ["reaches"] (spValley K Pt)) (G:CalX P w K mg base 3 "check_round" ["rows"] (spCheckRound CR)) (a7:Cal P w K mg base 5 "lanes" ["reaches"] (spLanes K Pt)) (ae:Cal P w K mg base 7 "heights" ["reaches","lane"] (λvs H Q _=>spHeights Pt CN vs H Q E0))
  (F:Fun K "__init__" "Ice.__init__" x3 f fd):FnOk P w K mg base (CX1 P w) 8 f fd ["self","reaches","rows"] (spInit C CV CR Pt):=by
 refine Fun.okX F wf ↥27 (λea A outer s H vs Q E hr h=>?_)
 ·obtain ⟨p,dx,r,q,xs,ys,rs,ts,rfl,_⟩:=h
  rfl
 ·obtain ⟨p,dx,r,q,xs,ys,rs,ts,rfl,hp,a3,ab,hq,ct,b1,a5,cd,hT,k,kv,kr⟩:=h
  obtain ⟨ps,g⟩:=hT.ne
  refine ⟨_,(j4 (jI (qX (zD (je Y (hr.mono ⋯) rfl ↥51))) (j9 (xQ bH I U rfl zK rfl (j0 jt j2))) js)
   (j4 (jV (xc G (hr.mono ⋯) qP rfl ↥59))
   (j4 (uB K (pv 0) (qL (qS K) rfl nb.b_list bZ ↥51))
   (j4 (uB K (pv 0) (qL (qS K) rfl nb.b_list bZ ↥59))
   (j4 (uB K (pv 0) (qd (osc:=(j8 x3)) (ON:=["self","reaches","rows"]) (N:=["lane","reaches"]) (own:=1) (caps:=[1]) ⟨rfl,∅,∅,∅,rfl,∅⟩ rfl rfl rfl (qi rfl nb.b_range (j0 (jd (jg K) rfl nb.b_len aP (j0 (je a7 (hr.mono ⋯) rfl ↥51) j2)) j2)) (λ_ _ _ _ _=>(jb (i:=0) (show bg (["lane","reaches"]:List Str) by decide +kernel) rfl (aO rfl))) ↥33 (λ_ _ _ _ _=>(je ae (hr.mono ⋯) rfl (j0 (pv 1) ↥53)))))
   (j4 (uB K (pv 0) yC)
   (j9 (uB K (pv 0) (qd (osc:=(j8 x3)) (ON:=["self","reaches","rows"]) (N:=["slope"]) (own:=1) (caps:=[]) ⟨rfl,∅,∅,∅,rfl,∅⟩ rfl rfl rfl (jW K (xE K (pv 0))) (λ_ _ _ _ _=>(jb (i:=0) (show bg (["slope"]:List Str) by decide +kernel) rfl (aO rfl))) ↥33 (λ_ _ _ _ _=>yC)))))))))),?_⟩
  walk_at "r"
  refine ⟨r,xs,rs,rfl,a3,ab,b1,a5,hT,λH1 X1 T1=>?_⟩
  cases eg:y4 rs with
  | false =>
   walk_at "r"
   exact ⟨by show 1<=sizeLine;decide,kv H1 eg X1 T1⟩
  | true =>
   have al:∀{a:Addr} {o:HO},H a=some o->(∀ps,o≠.tbl ps)->H1 a=some o:=λ{a o} h n=>X1 _ _ h (jo h g (n _))
   have c2:=al hp ↥1
   have cv:=al a3 ↥1
   have cL:=al hq ↥1
   have dk:qo H1 xs rs:=ab.keep (jp.tbl X1 g)
   have bm:jN H1 ys ts:=ct.imp λa t e=>al e ↥1
   walk_at "r"
   refine ⟨q,ys,ts,rfl,cL,bm,cd,λH2 b2 s2=>?_,λH2 b2 s2=>kr H2 eg b2 (X1.trans (Ext.of_same s2)) (T1.same s2)⟩
   have L:xO rs:=qx (by unfold y4 at eg;rw [bp,bp] at eg;exact eg.2.1)
   have k2:Kp p Pt H H2:=(Kp.of_ext X1).trans (Kp.of_same s2)
   have a4:=s2 _ _ c2
   have T2:=T1.same s2
   walk_at "r"
   refine ⟨_,_,rfl,.inl (SqL.of (s2 _ _ cv)),λva H3 a9 cr s3=>?_⟩
   have bs:=s3 _ _ a4
   have dd:=T2.same s3
   have k3:=k2.trans (Kp.of_same s3)
   obtain ⟨_,b0⟩:=T2.ne
   have dy:=k2.free a9 a4 b0
   walk_at "r"
   refine ⟨p,C,dx,_,rfl,bs,T.cl,T.nV,⋯,?_⟩
   have Ta:qV (upd H3 p ↥78) Pt:=uF dd bs
   have ka:=k3.trans (Kp.put (p:=p) (Pt:=Pt) (o:=HO.ins C dx (jv "valley" (V.ref va) [])))
   have pa:upd H3 p ↥78 p=some ↥78:=j6
   have aL:upd H3 p ↥78 va=some (HO.lst xs):=by rw [j7 (j1 a4 a9).symm];exact cr
   clear k2 k3 c2 cv cL dk bm al X1 T1 s2 a4 T2 s3 bs dd cr a9 b0
   generalize upd H3 p ↥78=Ha at *
   obtain ⟨_,an⟩:=Ta.ne
   have cn:va≠Pt:=jo aL an ↥4
   have as:va≠p:=jo aL pa ↥4
   walk_at "r"
   refine ⟨_,_,rfl,.inl (SqL.of (ka.at hq hp g ↥4 ↥4)),λcy H4 b4 dc s4=>?_⟩
   have bq:=s4 _ _ pa
   have T4:=Ta.same s4
   have d2:=ka.free b4 pa an
   walk_at "r"
   refine ⟨p,C,dx,_,rfl,bq,T.cl,T.nC,bU (qm _ _ _) ⋯,?_⟩
   have kb:=(ka.trans (Kp.of_same s4)).trans (Kp.put (p:=p) (Pt:=Pt) (o:=HO.ins C dx (jv "cycle" (V.ref cy) (jv "valley" (V.ref va) []))))
   have Tb:qV (upd H4 p ↥21) Pt:=uF T4 bq
   have pb:upd H4 p ↥21 p=some ↥21:=j6
   have cm:upd H4 p ↥21 va=some (HO.lst xs):=by rw [j7 as];exact s4 _ _ aL
   have a6:upd H4 p ↥21 cy=some (HO.lst ys):=by rw [j7 (j1 pa b4).symm];exact dc
   clear ka Ta pa aL s4 bq T4 b4 dc an
   generalize upd H4 p ↥21=Hb at *
   obtain ⟨_,am⟩:=Tb.ne
   have db:cy≠Pt:=jo a6 am ↥4
   have b3:cy≠p:=jo a6 pb ↥4
   have pP:p≠Pt:=jo pb am ↥4
   walk_at "r"
   refine ⟨r,xs,rs,rfl,kb.at a3 hp g ↥4 ↥4,ab.keep (jp.kp kb hp g),L,a5,Tb,λo H5 bk ws ho c4 hw hR X5 T5=>?_⟩
   walk_at "r"
   refine ⟨_,_,rfl,.inl (SqL.of c4),?_⟩
   have dn:bk.length=ws.length:=hw.length
   have d4:ws.length<=60:=by
    rw [hR.length]
    unfold jw
    exact aI (bM _ _) (by rw [bz];exact a5)
   refine ⟨(bk.length:Int),rfl,(),(),λacc b=>?_⟩
   obtain ⟨_,l⟩:=T5.ne
   have R:Kp p Pt H H5:=kb.trans (Kp.of_ext X5)
   have B:=X5 _ _ pb pP
   have a8:=X5 _ _ cm cn
   have b5:=X5 _ _ a6 db
   have a2:H5 r=some (.lst xs):=R.at a3 hp g ↥4 ↥4
   have bl:qo H5 xs rs:=ab.keep (jp.kp R hp g)
   have cb:Pt≠acc:=j1 l b
   refine xj (lo:=0) (n:=((bk.length:Int)).toNat) (acc:=acc) (λi σ j=>∃(x:Option V) (zs:List V),σ=[x,some (.ref r)]/\j acc=some (.lst zs)/\zs.length=i/\cU (λv (w:List Int)=>∃a,v=V.ref a/\j a=some (.lst (w.map V.int))/\H5 a=none/\a≠acc) zs ((ws.take i).map (ja rs))/\Kp acc Pt H5 j/\qV j Pt) ?_ ?_ ?_
   ·exact ⟨none,[],rfl,j6,rfl,.nil,Kp.put,T5.extN b Ext.put⟩
   ·rintro i σ j hi ⟨x,zs,rfl,h6,hz,r6,J,T6⟩
    obtain ⟨_,ap⟩:=T6.ne
    have iw:i<ws.length:=()
    walk_at "r"
    refine ⟨r,xs,rs,_,rfl,J _ _ a2 (j1 a2 b) (jo a2 l ↥4),bl.keep (λa o h=>J _ _ h (j1 h b) (jo h l ↥4)),L,a5,b1,T6,λt H7 d3 i' ei d7 d0 ht dT X7 T7=>?_,λH' hb _ _=>?_⟩
    ·obtain rfl:=hR.unique d0
     obtain rfl:i'=i:=()
     have h7:=X7 _ _ h6 cb.symm
     have ta:t≠acc:=(j1 h6 ht).symm
     have tP:t≠Pt:=(j1 ap ht).symm
     refine ⟨zs,h7,jj (),some (.int (0+(i':Int))),zs++[.ref t],rfl,j6,by rw [ao,hz];rfl,?_,?_,?_⟩
     ·rw [qT (ja rs) ws i' (ws.getD i' []) (by rw [aq,af iw];rfl)]
      refine bV (Paired.mapP r6 λv wy ⟨a,e,M,h0,na⟩=>⟨a,e,?_,h0,na⟩) ⟨t,rfl,by rw [j7 ta];exact dT,J.free ht h6 ap,ta⟩
      rw [j7 na]
      exact X7 _ _ M (jo M ap ↥4)
     ·exact (J.trans (Kp.of_ext X7)).trans Kp.put
     ·exact T7.ext h7 Ext.put
    ·have:=hR.length
     exact absurd hb ()
   ·rintro σ j ⟨x,zs,rfl,h6,hz,r6,J,T6⟩
    rw [bE,dn,aY] at r6
    have f6:=pmE r6
    have bn:=J _ _ B (j1 B b) pP
    have kc:Kp p Pt H (upd j p ↥125):=λc o h n m=>by
     rw [j7 n]
     have:=R c o h n m
     exact J _ _ this (j1 this b) m
    have b6:acc≠p:=(j1 B b).symm
    have dp:=R.free b B l
    have ds:∀a,V.ref a∈zs->H a=none:=λa z=>R.free (f6 a z).1 B l
    walk_at "r"
    refine ⟨p,C,dx,_,rfl,bn,T.cl,T.nS,bU (aI (qm _ _ _) (cu (qm _ _ _))) ⋯,?_⟩
    have Tc:qV (upd j p ↥125) Pt:=uF T6 bn
    have pc:upd j p ↥125 p=some ↥125:=j6
    have ci:upd j p ↥125 va=some (HO.lst xs):=by rw [j7 as];exact J _ _ a8 (j1 a8 b) cn
    have da:upd j p ↥125 cy=some (HO.lst ys):=by rw [j7 b3];exact J _ _ b5 (j1 b5 b) db
    have cs:upd j p ↥125 acc=some (HO.lst zs):=by rw [j7 b6];exact h6
    have bi:vg (upd j p ↥125) zs (ws.map (ja rs)):=Paired.mapP r6 λv wy ⟨a,e,M,h0,na⟩=>⟨a,e,by rw [j7 (j1 B h0).symm];exact M⟩
    clear r6 f6 J T6 h6 bn R B a8 b5 a2 bl X5 T5 kb Tb pb cm a6 am cb b ho c4 hw l
    generalize upd j p ↥125=O at *
    walk_at "r"
    intro ye a1
    obtain ⟨_,bv⟩:=Tc.ne
    have dt:=kc.free a1 pc bv
    have ce:ye≠p:=(j1 pc a1).symm
    have s9:jm O (upd O ye (.dK [])):=jm.new a1
    walk_at "r"
    refine ⟨p,C,dx,_,rfl,s9 _ _ pc,T.cl,T.nY,bU (aI (qm _ _ _) (cu (aI (qm _ _ _) (cu (qm _ _ _))))) ⋯,?_⟩
    have D:∀c o,O c=some o->c≠p->↥17 c=some o:=λc o h n=>by rw [j7 n];exact s9 _ _ h
    have kd:Kp p Pt H ↥17:=(kc.trans (Kp.of_same s9)).trans Kp.put
    have Td:qV ↥17 Pt:=uF (Tc.same s9) (s9 _ _ pc)
    have pd: ↥17 p=some (HO.ins C dx (jv "years" (V.ref ye) ↥0)):=j6
    have dv:=D _ _ ci as
    have d1:=D _ _ da b3
    have a0:=D _ _ cs b6
    have ch: ↥17 ye=some (.dK []):=by rw [j7 ce];exact j6
    have bd:vg ↥17 zs (ws.map (ja rs)):=Paired.mapP bi λv wy ⟨a,e,M⟩=>⟨a,e,D _ _ M (jo M pc ↥4)⟩
    clear D kc Tc pc ci da cs bi a1 bv s9
    generalize ↥17=Hd at *
    obtain ⟨_,bu⟩:=Td.ne
    walk_at "r"
    refine ⟨p,C,dx,_,_,rfl,pd,T.cl,T.nS,(by rw [jC,if_neg ∅,jC,if_pos rfl]),?_⟩
    walk_at "r"
    refine ⟨⟨_,SqL.of a0⟩,λle S=>?_⟩
    have dD:le≠p:=(j1 pd S).symm
    have dF:=kd.free S pd bu
    have zl:zs.length<=60:=()
    refine qv (K:=K) (a:=acc) (xs:=zs) (acc:=le) (λi σ He=>∃(x:Option V) (lds:List ↥58),σ=[x]/\He le=some (.lst (lds.map λx=>V.ref x.1))/\lds.length=i/\(∀x∈lds,He x.1=some (.dK x.2)/\x.2=[]/\Hd x.1=none/\x.1≠le)/\(lds.map (·.1)).Nodup/\Ext le Hd He) ?_ ?_ ?_ ?_
    ·exact ⟨none,[],rfl,j6,rfl,(λx z=>by cases z),fC,Ext.put⟩
    ·rintro i σ He hi ⟨x,lds,rfl,he,hl,Z,nn,e⟩
     exact SqL.of (e _ _ a0 (j1 a0 S))
    ·rintro i v σ He hv ⟨x,lds,rfl,he,hl,Z,nn,e⟩
     have hi:=(List.getElem?_eq_some_iff.mp hv).1
     walk_at "r"
     intro d ac
     have dl:d≠le:=(j1 he ac).symm
     refine ⟨_,(by rw [j7 (cx dl)];exact he),by rw [ah];exact jj (),some v,lds++[(d,[])],rfl,(by rw [j6,aE];rfl),(by rw [ao,hl];rfl),λy hy=>?_,?_,λc o hc n=>?_⟩
     ·rcases List.mem_append.mp hy with z | z
      ·obtain ⟨h1,h2,h3,h4⟩:=Z y z
       exact ⟨by rw [j7 h4,j7 (j1 h1 ac)];exact h1,h2,h3,h4⟩
      ·obtain rfl:y=(d,[]):=by simpa using z
       exact ⟨by rw [j7 dl];exact j6,rfl,e.free ac dl,dl⟩
     ·rw [aE]
      refine k9 nn λz=>?_
      obtain ⟨y,hy,ey⟩:=List.mem_map.mp z
      have:=(Z y hy).1
      rw [ey,ac] at this
      cases this
     ·rw [j7 n,j7 (j1 (e c o hc n) ac)]
      exact e c o hc n
    ·rintro σ He ⟨x,lds,rfl,he,hl,Z,nn,e⟩
     have c1:=e _ _ pd (j1 pd S)
     walk_at "r"
     refine ⟨p,C,dx,_,rfl,c1,T.cl,T.nL,bU (aI (qm _ _ _) (cu (aI (qm _ _ _) (cu (aI (qm _ _ _) (cu (qm _ _ _))))))) ⋯,?_⟩
     have u:∀c o,Hd c=some o->c≠p->upd He p (HO.ins C dx (jv "leaps" (V.ref le) (jv "years" (V.ref ye) ↥0))) c=some o:=λc o h n=>by rw [j7 n];exact e _ _ h (j1 h S)
     have kf:Kp p Pt H (upd He p (HO.ins C dx (jv "leaps" (V.ref le) (jv "years" (V.ref ye) ↥0)))):=λc o h n m=>u c o (kd c o h n m) n
     have dV:∀x∈lds,x.1≠p:=λx X=>(j1 pd (Z x X).2.2.1).symm
     refine k _ { dx:=dx,va:=va,cy:=cy,sl:=acc,ye:=ye,le:=le,xs:=xs,ys:=ys,zs:=zs,lds:=lds,kvs:=[],rs:=rs,rows:=ts,slopes:=ws.map (ja rs) } eg b2 ⟨⟨j6,u _ _ dv as,ab.keep (jp.kp kf hp g),u _ _ d1 b3,ct.imp λa t e=>kf.at e hp g ↥4 ↥4,u _ _ a0 b6,Paired.mapP bd λv wy ⟨a,e,M⟩=>⟨a,e,u _ _ M (jo M pd ↥4)⟩,u _ _ ch ce,(by rw [j7 dD];exact he),λx X=>by rw [j7 (dV x X)];exact (Z x X).1⟩,kf,dy,d2,dp,dt,dF,ds,rfl,λx X=>⟨kd.free (Z x X).2.2.1 pd bu,(Z x X).2.1⟩,hl.trans (aM bd),nn,λx X=>(j1 ch (Z x X).2.2.1).symm,ws,hR,rfl⟩ rfl rfl rfl rfl (uF (Td.extN S e) c1)
inductive spCheckTold (CY:Addr) (vs:List V) (H:Hp) (Q:VK) (E:XK):Prop
 | mk (y:Int) (_:vs=[.int y]) (_:(0<=y->y<=99->Q .non H)/\(y<0\/99<y->E (.ref CY) none H))
theorem Je:FnScope ["year"] ["year"] (j8 yY):=by walk_at "s"
theorem J7 (j:mg "LAST_TOLD" = some (.int 99 u0)) (G:mg "BadYear" = some (.ref I)) (z:dj K I [.type "ValueError",.type "Exception",.type "BaseException",.type "object"] "ValueError.__new__" = true) (F:Fun K "check_told" "check_told" yY f fd):FnOk P w K mg base (CX1 P w) 1 f fd ["year"] (spCheckTold I):=by
 refine Fun.okX F Je (λc H Q E h=>?_) (λd A outer s H c Q E e h=>?_)
 ·obtain ⟨y,rfl,_⟩:=h
  rfl
 ·obtain ⟨y,rfl,k,a⟩:=h
  refine ⟨_,(j9 (jI (qX (xk qB qB j5 (pv 0) (qR (v:=V.int 99) rfl j ⟨_,rfl⟩))) (j9 (xQ bH z G rfl zK rfl (j0 jt j2))) js)),?_⟩
  walk_at "r"
  refine qk (λb=>?_) (λb=>?_)
  ·walk_at "r"
   refine zI (λh1=>?_) (λh1=>?_)
   ·walk_at "r"
    exact ⟨by show 1<=sizeLine;decide,a (.inr ())⟩
   ·walk_at "r"
    exact k b h1
  ·walk_at "r"
   refine vO ?_
   walk_at "r"
   exact ⟨by show 1<=sizeLine;decide,a (.inl ())⟩
theorem IceAt.years {p:Addr}{g:IceG}{kvs:List (Key×V)}(I:IceAt C H p g) (j:∀x∈g.lds,x.1≠g.ye) (e:Ext g.ye H H') (h:H' g.ye=some (.dK kvs)):IceAt C H' p { g with kvs:=kvs }:=by
 have f:∀{c:Addr} {o:HO},H c=some o->o≠.dK g.kvs->H' c=some o:=λh n=>e _ _ h (jo h I.ye n)
 exact ⟨f I.ob ↥4,f I.va ↥4,I.rs.keep λ_ _ q=>f q ↥4,f I.cy ↥4,I.rows.imp λ_ _ q=>f q ↥4,f I.sl ↥4,Paired.mapP I.slopes λv w ⟨a,d,q⟩=>⟨a,d,f q ↥4⟩,h,f I.le ↥4,λx b=>e _ _ (I.lds x b) (j x b)⟩
inductive spTell (C CY CW:Addr) (vs:List V) (H:Hp) (Q:VK) (E:XK):Prop
 | mk (p t:Addr) (g:IceG) (y:Int) (r:T3) (_:vs=[.ref p,.int y,.ref t]) (_:IceAt C H p g) (_:(∀x∈g.lds,x.1≠g.ye)) (_:H t=some (yW r)) (_:g.kvs.length<=1000) (_:(∀H',0<=y->y<=99->good r=true->Ext g.ye H H'->IceAt C H' p { g with kvs:=qQ g.kvs (.inl y) (.ref t) }->Q .non H')) (_:(y<0\/99<y->E (.ref CY) none H)) (_:(0<=y->y<=99->good r=false->E (.ref CW) none H))
theorem Qy:FnScope ["self","year","row"] ["self","year","row"] (j8 vj):=by walk_at "s"
theorem JR (nb:Nb2 mg) (T:IceC K C) (z:mg "BadWeather" = some (.ref Y)) (j:dj K Y [.type "ValueError",.type "Exception",.type "BaseException",.type "object"] "ValueError.__new__" = true) (U:CalX P w K mg base 1 "check_told" ["year"] (spCheckTold CY)) (G:Cal P w K mg base 1 "is_weather" ["row"] spGood) (F:Fun K "tell" "Ice.tell" vj f fd):FnOk P w K mg base (CX1 P w) 2 f fd ["self","year","row"] (spTell C CY Y):=by
 refine Fun.okX F Qy (λd H Q E h=>?_) (λq A outer s H d Q E a h=>?_)
 ·obtain ⟨p,t,g,y,r,rfl,_⟩:=h
  rfl
 ·obtain ⟨p,t,g,y,r,rfl,I,m,l,n,k,e,i⟩:=h
  refine ⟨_,(j4 (jV (xc U (a.mono ⋯) qP rfl ↥51))
   (j4 (jI (qX (zD (je G (a.mono ⋯) rfl ↥59))) ↥122 js)
   (j9 (zN (jR a) (xE K (pv 0)) (pv 1) (pv 2) rfl)))),?_⟩
  walk_at "r"
  refine ⟨λb h1=>?_,λo=>e o⟩
  walk_at "r"
  refine ⟨t,r,rfl,l,?_⟩
  cases c:good r with
  | false =>
   walk_at "r"
   exact ⟨by show 1<=sizeLine;decide,i b h1 c⟩
  | true =>
   walk_at "r"
   refine ⟨p,C,g.dx,_,_,rfl,I.ob,T.cl,T.nY,gh _ _ _ _ _,?_⟩
   walk_at "r"
   refine ⟨g.ye,_,rfl,ul.k (k:=.inl y) I.ye (jj n),?_⟩
   exact k _ b h1 c Ext.put (I.years m Ext.put j6)
noncomputable def vA (l:List ↥58) (n:Nat) (kvs:List (Key×V)):List ↥58:=l.set n ((l.getD n (0,[])).1,kvs)
theorem Yd (l:List ↥58) (n:Nat) (kvs:List (Key×V)):(vA l n kvs).map (λx=>V.ref x.1)=l.map λx=>V.ref x.1:=by
 unfold vA
 rw [List.map_set]
 by_cases h:n<l.length
 ·rw [aq,af h]
  refine il λi=>?_
  rw [ir]
  by_cases e:n=i
  ·subst e
   rw [if_pos rfl,ah,if_pos h,ay,af h]
   rfl
  ·rw [if_neg e]
 ·rw [List.set_eq_of_length_le (by rw [ah];right)]
theorem IceAt.leap {p:Addr}{g:IceG}{n:Nat}{a:Addr}{kvs:List (Key×V)}(I:IceAt C H p g) (j:g.lds[n]? = some (a,kvs)) (U:∀x∈g.lds,x.1≠g.ye) (G:(g.lds.map (·.1)).Nodup) (e:Ext a H H') (h:H' a=some (.dK kvs')):IceAt C H' p { g with lds:=vA g.lds n kvs' }:=by
 have l:=aA j
 have s:=I.lds _ l
 have f:∀{c:Addr} {o:HO},H c=some o->(∀z,o≠.dK z)->H' c=some o:=λh n=>e _ _ h (jo h s (n _))
 have A:n<g.lds.length:=(List.getElem?_eq_some_iff.mp j).1
 refine ⟨f I.ob ↥1,f I.va ↥1,I.rs.keep λ_ _ q=>f q ↥1,f I.cy ↥1,I.rows.imp λ_ _ q=>f q ↥1,f I.sl ↥1,Paired.mapP I.slopes λv w ⟨a,t,q⟩=>⟨a,t,f q ↥1⟩,e _ _ I.ye (λz=>U _ l z.symm),(by show H' g.le=_;rw [Yd];exact f I.le ↥1),λx r=>?_⟩
 have k:x∈vA g.lds n kvs':=r
 obtain ⟨i,hi,ex⟩:=List.mem_iff_getElem.mp k
 have u:i<g.lds.length:=by unfold vA at hi;rw [iV] at hi;exact hi
 have b:(vA g.lds n kvs')[i]? = some x:=by rw [af hi,ex]
 unfold vA at b
 rw [ir] at b
 by_cases d:n=i
 ·rw [if_pos d,if_pos ()] at b
  rw [<- aT b,aq,j]
  exact h
 ·rw [if_neg d] at b
  refine e _ _ (I.lds x (aA b)) λz=>d ?_
  have h1:(g.lds.map (·.1))[n]? = some a:=by rw [ay,j];rfl
  have h2:(g.lds.map (·.1))[i]? = some a:=by rw [ay,b,<- z];rfl
  have m:=(List.getElem?_eq_some_iff.mp h1).1
  have y:=(List.getElem?_eq_some_iff.mp h2).1
  exact (List.getElem?_inj m G).mp (h1.trans h2.symm)
inductive spSurge (C CN CY CS:Addr) (vs:List V) (H:Hp) (Q:VK) (E:XK):Prop
 | mk (p:Addr) (g:IceG) (l y m:Int) (_:vs=[.ref p,.int l,.int y,.int m]) (_:IceAt C H p g) (_:g.lds.length=g.slopes.length) (_:(∀x∈g.lds,x.1≠g.ye)) (_:(g.lds.map (·.1)).Nodup) (_:(∀x∈g.lds,x.2.length<=1000)) (_:(∀H' a kvs,0<=l->l< ↥9->0<=y->y<=99->1<=m->m<=9->g.lds[l.toNat]? = some (a,kvs)->Ext a H H'->IceAt C H' p { g with lds:=vA g.lds l.toNat (qQ kvs (.inl y) (.int m)) }->Q .non H')) (_: ↥31) (_:(0<=l->l< ↥9->y<0\/99<y->E (.ref CY) none H)) (_:(0<=l->l< ↥9->0<=y->y<=99->m<1\/9<m->E (.ref CS) none H))
theorem Jd:FnScope ["self","lane","year","many"] ["self","lane","year","many"] (j8 yZ):=by walk_at "s"
theorem Jg (nb:Nb2 mg) (T:IceC K C) (ab:Cls K C) (z:mg "GREATEST_SURGE" = some (.int 9 u0)) (Y:mg "BadSurge" = some (.ref CS)) (U:dj K CS [.type "ValueError",.type "Exception",.type "BaseException",.type "object"] "ValueError.__new__" = true) (j:CalMX P w K mg base 1 C "check_lane" ["self","lane"] (spCheckLane C CN)) (G:CalX P w K mg base 1 "check_told" ["year"] (spCheckTold CY)) (F:Fun K "surge" "Ice.surge" yZ f fd):FnOk P w K mg base (CX1 P w) 2 f fd ["self","lane","year","many"] (spSurge C CN CY CS):=by
 refine Fun.okX F Jd (λq H Q E h=>?_) (λL A outer s H q Q E c h=>?_)
 ·obtain ⟨p,g,l,y,m,rfl,_⟩:=h
  rfl
 ·obtain ⟨p,g,l,y,m,rfl,I,J,B,t,D,k,x,u,ks⟩:=h
  refine ⟨_,(j4 (jV (yr (pv 0) ab j (c.mono ⋯) qP ↥51))
   (j4 (jV (xc G (c.mono ⋯) qP rfl ↥59))
   (j4 (jI (qX (xk qB qB j5 (pv 3) (qR (v:=V.int 9) rfl z ⟨_,rfl⟩))) (j9 (xQ bH U Y rfl zK rfl (j0 jt j2))) js)
   (j9 (zN (jR c) ↥70 (pv 2) (pv 3) rfl))))),?_⟩
  walk_at "r"
  refine ⟨p,g.dx,_,rfl,I.ob,xf ∅,?_⟩
  walk_at "r"
  refine ⟨p,g,l,rfl,I,λa b=>?_,λd=>x d⟩
  walk_at "r"
  refine ⟨λe h1=>?_,λd=>u a b d⟩
  have hi:l.toNat<g.lds.length:=()
  walk_at "r"
  refine qk (λn=>?_) (λn=>?_)
  ·walk_at "r"
   refine zI (λi=>?_) (λi=>?_)
   ·walk_at "r"
    exact ⟨by show 1<=sizeLine;decide,ks a b e h1 (.inr ())⟩
   ·walk_at "r"
    refine ⟨p,C,g.dx,_,_,rfl,I.ob,T.cl,T.nL,vZ _ _ _ _ _,?_⟩
    walk_at "r"
    refine ⟨_,_,_,_,rfl,rfl,SqL.of I.le,qI a (v:=V.ref (g.lds[l.toNat]'hi).1) (by rw [ay,af hi];rfl),?_⟩
    walk_at "r"
    have o:=I.lds _ (c7 hi)
    refine ⟨_,_,rfl,ul.k (k:=.inl y) o (jj (D _ (c7 hi))),?_⟩
    exact k _ _ _ a b e h1 n i (af hi) Ext.put (I.leap (af hi) B t Ext.put j6)
  ·walk_at "r"
   refine vO ?_
   walk_at "r"
   exact ⟨by show 1<=sizeLine;decide,ks a b e h1 (.inl ())⟩
noncomputable def kvI (q:Int×Int):Key×V:=(.inl q.1,.int q.2)
noncomputable def xh:List (Int×Int)->Int->Int
 | [],_=>0
 | q::r,y=>if q.1=y then q.2 else xh r y
theorem vE:∀(ns:List (Int×Int)) (y:Int),y∈ns.map (·.1)->qh (ns.map kvI) (.inl y)=some (.int (xh ns y))
 | [],y,h=>by cases h
 | q::r,y,h=>by
  rw [aS]
  unfold qh xh
  by_cases e:q.1=y
  ·subst e
   simp [kvI,List.find?]
  ·have h':y∈r.map (·.1):=by
    rcases List.mem_cons.mp h with z | z
    ·exact absurd z.symm e
    ·exact z
   have a:=vE r y h'
   unfold qh at a
   simp [kvI,List.find?,e] at a ⊢
   exact a
theorem XE:∀(ns:List (Int×Int)),(↥108).Nodup->(↥108).map (λy=>(y,xh ns y))=ns
 | [],_=>rfl
 | q::r,a=>by
  rw [aS] at a ⊢
  obtain ⟨h1,h2⟩:=List.nodup_cons.mp a
  rw [aS]
  have e:xh (q::r) q.1=q.2:=by unfold xh;rw [if_pos rfl]
  rw [e]
  refine congrArg (q :: ·) ?_
  conv=>rhs;rw [<- XE r h2]
  refine dW λy c=>?_
  have b:¬q.1=y:=λz=>h1 (z ▸ c)
  show (y,xh (q::r) y)=_
  conv=>lhs;unfold xh
  rw [if_neg b]
inductive spSurgesI (C CN:Addr) (vs:List V) (H:Hp) (Q:VK) (E:XK):Prop
 | mk (p:Addr) (g:IceG) (l:Int) (_:vs=[.ref p,.int l]) (_:IceAt C H p g) (_:g.lds.length=g.slopes.length) (_: ↥31) (_:(0<=l->l< ↥9->∃(a:Addr) (ns:List (Int×Int)),g.lds[l.toNat]? = some (a,ns.map kvI)/\ (↥108).Nodup/\ns.length<64 /\
  ∀o H' out (ms:List (Int×Int)),H o=none->H' o=some (.lst out)->cU (λv (m:Int×Int)=>∃b,v=V.ref b/\H' b=some (.tup [.int m.1,.int m.2])) out ms->jm H H'->ms.Perm ns->(↥45).Pairwise (· <= ·)->Q (.ref o) H'))
theorem J5:FnScope ["self","lane"] ["self","lane"] (j8 zk):=by walk_at "s"
theorem kG (nb:Nb2 mg) (T:IceC K C) (U:Cls K C) (j:CalMX P w K mg base 1 C "check_lane" ["self","lane"] (spCheckLane C CN)) (F:Fun K "surges" "Ice.surges" zk f fd):FnOk P w K mg base (CX1 P w) 2 f fd ["self","lane"] (spSurgesI C CN):=by
 refine Fun.okX F J5 ↥27 (λap A outer s H vs Q E hr h=>?_)
 ·obtain ⟨p,g,l,rfl,_⟩:=h
  rfl
 ·obtain ⟨p,g,l,rfl,I,al,kx,k⟩:=h
  refine ⟨_,(j4 (jV (yr (pv 0) U j (hr.mono ⋯) qP ↥51))
   (j9 (ji (qd (osc:=(j8 zk)) (ON:=["self","lane"]) (N:=["year","lane","self"]) (own:=1) (caps:=[1,0]) ⟨rfl,∅,∅,∅,rfl,∅⟩ rfl rfl rfl (jW K (jd (JU K rfl) rfl nb.b_sorted sH (j0 ↥70 j2))) (λ_ _ _ _ _=>(jb (i:=0) (show bg (["year","lane","self"]:List Str) by decide +kernel) rfl (aO rfl))) ↥33 (λ_ _ _ _ _=>(jB (j0 (pv 0) (j0 (jF (jR hr) (jr (jf K) (xE K (pv 2)) (pv 1) (λ_ _=>rfl)) (pv 0) (λ_ _=>rfl)) j2)))))))),?_⟩
  walk_at "r"
  refine ⟨p,g.dx,_,rfl,I.ob,xf ∅,?_⟩
  walk_at "r"
  refine ⟨p,g,l,rfl,I,λl0 l1=>?_,λZ=>kx Z⟩
  obtain ⟨a,t,ha,nd,R,k⟩:=k l0 l1
  have hi:=(List.getElem?_eq_some_iff.mp ha).1
  have hm:=I.lds _ (aA ha)
  have O:atI (g.lds.map λx=>V.ref x.1) l=some (.ref a):=qI l0 (by rw [ay,ha];rfl)
  walk_at "r"
  refine ⟨p,C,g.dx,_,_,rfl,I.ob,T.cl,T.nL,vZ _ _ _ _ _,?_⟩
  walk_at "r"
  refine ⟨_,_,_,_,rfl,rfl,SqL.of I.le,O,?_⟩
  refine ⟨a,t.map kvI,t.map (·.1),rfl,hm,by rw [bW,bW];rfl,by rw [ah];exact R,λo H1 ks ho J s1 Y hs=>?_⟩
  have am:ks.length<64:=by rw [Y.length_eq,ah];exact R
  refine ⟨o,rfl,⟨_,SqL.of J⟩,λacc u=>?_⟩
  refine qv (K:=K) (a:=o) (xs:=ks.map V.int) (acc:=acc) (λi σ H2=>∃(x:Option V) (d:List V),σ=[x,some (.int l),some (.ref p)]/\H2 acc=some (.lst d)/\d.length=i/\cU (λv (m:Int×Int)=>∃b,v=V.ref b/\H2 b=some (.tup [.int m.1,.int m.2])) d ((ks.take i).map λy=>(y,xh t y))/\Ext acc H1 H2) ?_ ?_ ?_ ?_
  ·exact ⟨none,[],rfl,j6,rfl,.nil,Ext.put⟩
  ·rintro i σ H2 hi ⟨x,d,rfl,h2,S,G,D⟩
   exact SqL.of (D _ _ J (j1 J u))
  ·rintro i v σ H2 hv ⟨x,d,rfl,h2,S,G,D⟩
   obtain ⟨y,rfl,X⟩:=uh hv
   have an:=(List.getElem?_eq_some_iff.mp X).1
   have ac:y∈t.map (·.1):=Y.mem_iff.mp (aA X)
   have L:jm H H2:=λc o B=>D _ _ (s1 _ _ B) (j1 (s1 _ _ B) u)
   have I2:=I.same L
   walk_at "r"
   refine ⟨p,C,g.dx,_,_,rfl,I2.ob,T.cl,T.nL,vZ _ _ _ _ _,?_⟩
   walk_at "r"
   refine ⟨_,_,_,_,rfl,rfl,SqL.of I2.le,O,?_⟩
   walk_at "r"
   refine ⟨a,.int (xh t y),rfl,by rw [<- vE t y ac];exact qU.k (k:=.inl y) (L _ _ hm),?_⟩
   walk_at "r"
   refine ⟨by show 2<=sizeLine;decide,λb H3 Z ae M=>?_⟩
   have h3:=M _ _ h2
   have ab:b≠acc:=(j1 h2 Z).symm
   refine ⟨d,h3,jj (),some (.int y),d++[.ref b],rfl,j6,by rw [ao,S];rfl,?_,λc o B n=>by rw [j7 n];exact M _ _ (D c o B n)⟩
   rw [qT (λy=>(y,xh t y)) ks i y X]
   exact bV (Paired.mapP G λv m ⟨c,e,q⟩=>⟨c,e,by rw [j7 (jo (M _ _ q) h3 ↥4)];exact M _ _ q⟩) ⟨b,rfl,by rw [j7 ab];exact ae⟩
  ·rintro σ H2 ⟨x,d,rfl,h2,S,G,D⟩
   rw [ah,aY] at G
   have L:jm H H2:=λc o B=>D _ _ (s1 _ _ B) (j1 (s1 _ _ B) u)
   refine k acc H2 d _ (s1.free u) h2 G L ?_ ?_
   ·have:=Y.map λy=>(y,xh t y)
    rw [XE t nd] at this
    exact this
   ·rw [bW]
    have:((λx:Int×Int=>x.1) ∘ λy=>(y,xh t y))=id:=rfl
    rw [this,nR]
    exact hs
noncomputable def jn (st ad:Int):List (Int×Int)->Int->Int
 | [],a=>if a-ad > st then a-ad else st
 | q::r,a=>if a-ad<q.1 then (if a-ad > st then a-ad else st) else jn q.1 (ad+q.2) r a
noncomputable def za (H:Hp) (j:List V) (ms:List (Int×Int)):Prop:=cU (λv (m:Int×Int)=>∃b,v=V.ref b/\H b=some (.tup [.int m.1,.int m.2])) j ms
theorem za.same {j:List V}(h:za H j ms) (s:jm H H'):za H' j ms:=Paired.mapP h λ_ _ ⟨b,e,q⟩=>⟨b,e,s _ _ q⟩
inductive spEarliest  (vs:List V) (H:Hp) (Q:VK) (z_3:XK):Prop
 | mk (p:Addr) (out:List V) (ms:List (Int×Int)) (goal:Int) (_:vs=[.ref p,.int goal]) (_:H p=some (.lst out)) (_:za H out ms) (_:∀H',jm H H'->Q (.int (jn 0 0 ms goal)) H')
theorem xn:FnScope ["surges","goal","start","added","year","many"] ["surges","goal"] (j8 ud):=by walk_at "s"
theorem Xe (G:Nb2 mg) (F:Fun K "earliest" "earliest" ud f fd):FnOk P w K mg base CX0 1 f fd ["surges","goal"] spEarliest:=by
 refine F.ok xn (λz H Q E h=>?_) (λI A outer s H z Q E J h=>?_)
 ·obtain ⟨p,g,e,j,rfl,_⟩:=h
  rfl
 ·obtain ⟨p,g,e,j,rfl,x,t,k⟩:=h
  have u:g.length=e.length:=aM t
  refine ⟨_,(j4 (jq 2 xn.nd j5)
   (j4 (jq 3 xn.nd j5)
   (j4 (qy aV rfl (jW K (pv 0)) (qg (n:=2) K rfl (jh (jb (i:=4) xn.nd rfl (aO rfl)) (jh (jb (i:=5) xn.nd rfl (aO rfl)) qa))) (j4 (jI (ju yt (jk jU (pv 1) (pv 3)) (pv 4) (jx _)) (j9 QT) js)
   (j4 (jq 2 xn.nd (pv 4))
   (j9 (Zr (i:=3) xn.nd rfl (aO rfl) (pv 5) ZB)))))
   (j9 (ji (jd (zj rfl) rfl G.b_max mx (j0 (pv 2) (j0 (jk jU (pv 1) (pv 3)) j2)))))))),?_⟩
  walk_at "r"
  refine ⟨⟨_,SqL.of x⟩,?_⟩
  refine zx (K:=K) (a:=p) (xs:=g) (λi σ H2=>∃(st ad:Int) (q o:Option V),σ=[some (.ref p),some (.int j),some (.int st),some (.int ad),q,o]/\jm H H2/\jn st ad (e.drop i) j=jn 0 0 e j) ?_ ?_ ?_ ?_
  ·exact ⟨0,0,_,_,rfl,jm.refl _,by rw [o9]⟩
  ·rintro i σ H2 hi ⟨st,ad,q,o,rfl,d,c⟩
   exact SqL.of (d _ _ x)
  ·rintro i v σ H2 B ⟨st,ad,q,o,rfl,d,c⟩
   obtain ⟨m,y,b,rfl,C⟩:=Paired.get t B
   have hi:=(List.getElem?_eq_some_iff.mp y).1
   have D:e.drop i=m::e.drop (i+1):=by
    rw [bO hi]
    have:=(List.getElem?_eq_some_iff.mp y).2
    rw [this]
   rw [D] at c
   walk_at "r"
   refine ⟨b,_,rfl,SqT.of (d _ _ C),rfl,?_⟩
   refine ⟨_,_,rfl,_,_,rfl,rfl,?_⟩
   walk_at "r"
   refine qk (λh1=>?_) (λh1=>?_)
   ·walk_at "r"
    refine ⟨_,_,rfl,?_⟩
    rw [show jn st ad (m::e.drop (i+1)) j=if j-ad > st then j-ad else st from by conv=>lhs;unfold jn;rw [if_pos h1]] at c
    have l:=k H2 d
    rw [<- c] at l
    exact l
   ·walk_at "r"
    refine ⟨_,_,_,_,rfl,d,?_⟩
    rw [<- c]
    conv=>rhs;unfold jn;rw [if_neg h1]
  ·rintro σ H2 ⟨st,ad,q,o,rfl,d,c⟩
   rw [u,List.drop_length] at c
   walk_at "r"
   refine ⟨_,_,rfl,?_⟩
   have l:=k H2 d
   rw [<- c] at l
   exact l
inductive spSpan (C CN:Addr) (vs:List V) (H:Hp) (Q:VK) (E:XK):Prop
 | mk (p:Addr) (g:IceG) (l mark:Int) (_:vs=[.ref p,.int l,.int mark]) (_:IceAt C H p g) (_:g.lds.length=g.slopes.length) (_: ↥136) (_:(0<=l->l< ↥9->∃(a:Addr) (ns:List (Int×Int)),g.lds[l.toNat]? = some (a,ns.map kvI)/\ (↥108).Nodup/\ns.length<64 /\
  ∀ms:List (Int×Int),ms.Perm ns->(↥45).Pairwise (· <= ·)->∀fst gon:Int,fst=jn 0 0 ms mark->gon=jn 0 0 ms (mark+ ↥49) ->
   (fst<gon->∀t H',jm H H'->H' t=some (.tup [.int fst,.int (gon-1)])->Q (.ref t) H')/\(¬fst<gon->∀H',jm H H'->Q .non H')))
theorem wY:FnScope ["ice","lane","mark","surges","first","gone"] ["ice","lane","mark"] (j8 XZ):=by walk_at "s"
theorem Uj (U:Cls K C) (z:CalMX P w K mg base 2 C "surges" ["self","lane"] (spSurgesI C CN)) (G:CalMX P w K mg base 2 C "length" ["self","lane"] (spLengthI C CN)) (j:Cal P w K mg base 1 "earliest" ["surges","goal"] spEarliest) (F:Fun K "span" "span" XZ f fd):FnOk P w K mg base (CX1 P w) 3 f fd ["ice","lane","mark"] (spSpan C CN):=by
 refine Fun.okX F wY (λB H Q E h=>?_) (λab A outer s H B Q E b h=>?_)
 ·obtain ⟨p,g,l,Y,rfl,_⟩:=h
  rfl
 ·obtain ⟨p,g,l,Y,rfl,I,x,R,k⟩:=h
  refine ⟨_,(j4 (jq 3 wY.nd (yr (pv 0) U z (b.mono ⋯) qP ↥51))
   (j4 (jq 4 wY.nd (je j (b.mono ⋯) rfl (j0 (pv 3) ↥59)))
   (j4 (jq 5 wY.nd (je j (b.mono ⋯) rfl (j0 (pv 3) (j0 (jk jO (pv 2) (yr (pv 0) U G (b.mono ⋯) qP ↥51)) j2))))
   (j9 (ji (VI (ju yt (pv 4) (pv 5) (jx _)) (jB (j0 (pv 4) (j0 (jk jU (pv 5) j5) j2))) vW)))))),?_⟩
  walk_at "r"
  refine ⟨p,g.dx,_,rfl,I.ob,xf ∅,?_⟩
  walk_at "r"
  refine ⟨p,g,l,rfl,I,x,λn=>R H (jm.refl H) n,λO N=>?_⟩
  obtain ⟨a,L,V,M,y,k⟩:=k O N
  refine ⟨a,L,V,M,y,λo H1 c m ho d v s1 T S=>?_⟩
  have k:=k m T S _ _ rfl rfl
  walk_at "r"
  refine ⟨o,c,m,Y,rfl,d,v,λH2 i=>?_⟩
  walk_at "r"
  have e:=s1.trans i
  refine ⟨p,g.dx,_,rfl,e _ _ I.ob,xf ∅,?_⟩
  walk_at "r"
  refine ⟨p,g,l,rfl,I.same e,λ_ _=>?_,λn=>absurd n ()⟩
  walk_at "r"
  refine ⟨o,c,m,_,rfl,i _ _ d,za.same v i,λZ J=>?_⟩
  have q:=e.trans J
  walk_at "r"
  refine qk (λh1=>?_) (λh1=>?_)
  ·walk_at "r"
   refine ⟨by show 2<=sizeLine;decide,λt X ht u D=>?_⟩
   exact k.1 h1 t X (q.trans D) u
  ·walk_at "r"
   exact k.2 h1 Z q
inductive spFar  (vs:List V) (H:Hp) (Q:VK) (z_3:XK):Prop
 | mk (L b:Addr) (_:vs=[.ref b]) (_:qc L H b) (_:∀(v:Int) (H':Hp),0<=v->v<10 ^ 40-99->qc L H' b->Ext b H H'->Q (.int v) H')
theorem Zg:FnScope ["_law_box_here"] ["_law_box_here"] (j8 uS):=by walk_at "s"
theorem UQ {v:Int}(a:0<=v) (b:v<4):∃n,atI [V.int 100,V.int (10 ^ 9),V.int (10 ^ 20),V.int (10 ^ 40-99)] v=some (V.int n)/\0<n/\n<=10 ^ 40-99:=by
 have h:v=0\/v=1\/v=2\/v=3:=()
 rcases h with rfl | rfl | rfl | rfl
 ·exact ⟨100,rfl,⋯,⋯⟩
 ·exact ⟨10 ^ 9,rfl,⋯,⋯⟩
 ·exact ⟨10 ^ 20,rfl,⋯,⋯⟩
 ·exact ⟨10 ^ 40-99,rfl,⋯,⋯⟩
theorem WZ (U:Nb2 mg) (j:Cal P w K mg base 2 "_law_take" ["_law_box_here","_law_size"] spTakeL) (F:Fun K "_law_far" "_law_far" uS f fd):FnOk P w K mg base CX0 3 f fd ["_law_box_here"] spFar:=by
 refine F.ok Zg (λm H Q E h=>?_) (λO A outer s H m Q E e h=>?_)
 ·obtain ⟨L,b,rfl,_⟩:=h
  rfl
 ·obtain ⟨L,b,rfl,B,k⟩:=h
  refine ⟨_,(j9 (ji (je j (e.mono ⋯) rfl (j0 (pv 0) (j0 (jr (jf K) (jD (j0 j5 (j0 (jk yf j5 j5) (j0 (jk yf j5 j5) (j0 (jk jU (jk yf j5 j5) j5) j2))))) (je j (e.mono ⋯) rfl ↥15) (λ_ _=>rfl)) j2))))),?_⟩
  walk_at "r"
  refine ⟨by show 4<=sizeLine;decide,λl H1 z g s1=>?_⟩
  walk_at "r"
  refine ⟨L,b,_,rfl,B.same s1,⟨⋯,⋯⟩,λv H2 t q M i=>?_⟩
  obtain ⟨n,D,x,u⟩:=UQ t q
  have y:l≠b:=B.ne z
  refine ⟨l,_,v,_,rfl,rfl,SqL.of (i _ _ g y),D,?_⟩
  walk_at "r"
  refine ⟨L,b,n,rfl,M,⟨x,Int.lt_of_le_of_lt u ⋯⟩,λp I a N J G=>?_⟩
  exact k p I a () J (λc o C d=>G _ _ (i _ _ (s1 _ _ C) d) d)
inductive spYear  (vs:List V) (H:Hp) (Q:VK) (z_3:XK):Prop
 | mk (L b:Addr) (_:vs=[.ref b]) (_:qc L H b) (_:∀(y:Int) (H':Hp),0<=y->y<=99->qc L H' b->Ext b H H'->Q (.int y) H')
theorem Xd:FnScope ["_law_box_here"] ["_law_box_here"] (j8 uj):=by walk_at "s"
theorem Ut {v a b c:Int}(I:0<=v) (h1:v<5) (G:0<=a/\a<=99) (z:0<=b/\b<=99) (j:0<=c/\c<=99):∃n,atI [V.int a,V.int b,V.int c,V.int 99,V.int 0] v=some (V.int n)/\0<=n/\n<=99:=by
 have h:v=0\/v=1\/v=2\/v=3\/v=4:=()
 rcases h with rfl | rfl | rfl | rfl | rfl
 ·exact ⟨a,rfl,G.1,G.2⟩
 ·exact ⟨b,rfl,z.1,z.2⟩
 ·exact ⟨c,rfl,j.1,j.2⟩
 ·exact ⟨99,rfl,⋯,⋯⟩
 ·exact ⟨0,rfl,⋯,⋯⟩
theorem UJ (j:Cal P w K mg base 2 "_law_take" ["_law_box_here","_law_size"] spTakeL) (F:Fun K "_law_year" "_law_year" uj f fd):FnOk P w K mg base CX0 3 f fd ["_law_box_here"] spYear:=by
 refine F.ok Xd (λo H Q E h=>?_) (λS A outer s H o Q E d h=>?_)
 ·obtain ⟨L,b,rfl,_⟩:=h
  rfl
 ·obtain ⟨L,b,rfl,B,k⟩:=h
  refine ⟨_,(j9 (ji (jr (jf K) (jD (j0 (je j (d.mono ⋯) rfl ↥15) (j0 (je j (d.mono ⋯) rfl ↥15) (j0 (je j (d.mono ⋯) rfl ↥15) (j0 j5 (j0 j5 j2)))))) (je j (d.mono ⋯) rfl ↥15) (λ_ _=>rfl)))),?_⟩
  walk_at "r"
  refine ⟨L,b,_,rfl,B,⟨⋯,⋯⟩,λt H1 x X R J=>?_⟩
  walk_at "r"
  refine ⟨L,b,_,rfl,R,⟨⋯,⋯⟩,λq H2 p2 V O I=>?_⟩
  walk_at "r"
  refine ⟨L,b,_,rfl,O,⟨⋯,⋯⟩,λp Z p3 U m G=>?_⟩
  walk_at "r"
  refine ⟨by show 5<=sizeLine;decide,λl Y C g e=>?_⟩
  walk_at "r"
  refine ⟨L,b,_,rfl,m.same e,⟨⋯,⋯⟩,λT M v u N i=>?_⟩
  obtain ⟨n,D,z,y⟩:=Ut v u (a:=t) (b:=q) (c:=p) ⟨x,()⟩ ⟨p2,()⟩ ⟨p3,()⟩
  refine ⟨_,_,_,_,rfl,rfl,SqL.of (i _ _ g (m.ne C)),D,?_⟩
  exact k n M z y N ((((J.trans I).trans G).trans (Ext.of_same e)).trans i)
noncomputable def scK (p q j G z:Addr):List (Key×V):=[↥30,↥57,↥86,(.inr "grounds",.ref G),(.inr "leaps",.ref z)]
theorem xA {k:Key}{v:V}{r:List (Key×V)}:qh ((k,v)::r) k=some v:=by
 unfold qh
 rw [iu (p:=λb:Key×V=>decide (b.1=k)) (a:=(k,v)) (decide_eq_true rfl)]
 rfl
theorem jy {k j:Key}{v:V}{r:List (Key×V)}(h:j≠k):qh ((j,v)::r) k=qh r k:=by
 unfold qh
 rw [iz (p:=λb:Key×V=>decide (b.1=k)) (a:=(j,v)) (λz=>h (of_decide_eq_true z))]
theorem Zw (p q j G z:Addr):qh (scK p q j G z) (.inr "reaches")=some (.ref p):=xA
theorem Q8 (p q j G z:Addr):qh (scK p q j G z) (.inr "rows")=some (.ref q):=(jy (show ↥79≠bt (ak "rows") by decide +kernel)).trans (xA)
theorem yw (p q j G z:Addr):qh (scK p q j G z) (.inr "single")=some (.ref j):=(jy (show ↥79≠bt (ak "single") by decide +kernel)).trans ((jy (show (bt (ak "rows"):Key)≠bt (ak "single") by decide +kernel)).trans (xA))
theorem qY (p q z j G:Addr):qh (scK p q z j G) (.inr "grounds")=some (.ref j):=(↥117).trans ((↥96).trans ((↥91).trans (xA)))
theorem gW (p q z G j:Addr):qh (scK p q z G j) (.inr "leaps")=some (.ref j):=(jy (show ↥79≠bt (ak "leaps") by decide +kernel)).trans ((jy (show (bt (ak "rows"):Key)≠bt (ak "leaps") by decide +kernel)).trans ((jy (show (bt (ak "single"):Key)≠bt (ak "leaps") by decide +kernel)).trans ((jy (show (bt (ak "grounds"):Key)≠bt (ak "leaps") by decide +kernel)).trans (xA))))
noncomputable def FrM (M:Addr->Prop) (H H':Hp):Prop:=∀c o,H c=some o->H' c=some o\/(M c/\∃a kvs,o = .dK kvs/\H' c=some (.frz a (.dK kvs)))
theorem FrM.of_same (s:jm H H'):FrM M H H':=λc o h=>.inl (s c o h)
theorem FrM.trans (a:FrM M H H1) (b:FrM M H1 H2):FrM M H H2:=λc o h=>by
 rcases a c o h with h1 | ⟨m,d,kvs,e,h1⟩
 ·exact b c o h1
 ·rcases b c _ h1 with h2 | ⟨_,_,_,f,_⟩
  ·exact .inr ⟨m,d,kvs,e,h2⟩
  ·cases f
theorem FrM.at (f:FrM M H H') (h:H c=some o) (n:∀kvs,o≠.dK kvs):H' c=some o:=by
 rcases f c o h with h1 | ⟨_,a,kvs,e,_⟩
 ·exact h1
 ·exact absurd e (n kvs)
theorem FrM.rd (f:FrM M H H') {kvs:List (Key×V)}(h:Rd H c (.dK kvs)):Rd H' c (.dK kvs):=by
 rcases h with h | ⟨o,h⟩
 ·rcases f c _ h with h1 | ⟨_,a,b,e,h1⟩
  ·exact .inl h1
  ·cases e
   exact .inr ⟨a,h1⟩
 ·exact .inr ⟨o,f.at h ↥1⟩
noncomputable def jc (ns:List (Int×Int)) (y:Int):Int:=((ns.filter λq=>decide (q.1<=y)).map (·.2)).sum
theorem wm:∀{ns:List (Int×Int)},(↥108).Nodup->∀{z:Int×Int},z∈ns->xh ns z.1=z.2
 | [],_,z,h=>by cases h
 | q::r,a,z,h=>by
  rw [aS] at a
  obtain ⟨h1,h2⟩:=List.nodup_cons.mp a
  unfold xh
  rcases List.mem_cons.mp h with e | e
  ·rw [e,if_pos rfl]
  ·have ne:¬q.1=z.1:=λw=>h1 (by rw [w];exact bN e)
   rw [if_neg ne]
   exact wm h2 e
theorem VG {ns:List (Int×Int)}{i:Nat}(h:(ns.map kvI)[i]? = some q):∃z,ns[i]? = some z/\q=kvI z:=by
 rw [ay] at h
 cases e:ns[i]? with
 | none=>rw [e] at h;cases h
 | some z=>rw [e] at h;cases h;exact ⟨z,rfl,rfl⟩
theorem Jk {ns:List (Int×Int)}{y:Int}{H:Hp}{R:Hp->Prop}(h:H a=some (.frz o (.dK (ns.map kvI)))) (nd: (↥108).Nodup) (hl:ns.length<=100) (G:H acc=none)
  (ab:∀H',H' acc=some (.lst (((ns.filter λq=>decide (q.1<=y)).map (·.2)).map V.int))->jm H H'->R H') :
  ∃W:Nat->Nat->L2.St->Hp->Prop,(∃m,W 0 m [none,some (.ref a),some (.int y)] (upd H acc (.lst [])))/\∀i m σ' H',W i m σ' H' ->
   ((Itd a o (ns.map kvI)).stop i H'/\R H')\/((Itd a o (ns.map kvI)).go i H'/\∃U:L2.St->Hp->Prop,(∀Y H2,U Y H2->∃m',m'<m/\W (i+1) m' Y H2) /\
    ∀x H2,(Itd a o (ns.map kvI)).yld i H' x H2->uy 0 x σ' H2 λI H3=>XN (tOp (rI0 λi j=>V.bl (decide (i<=j))) (tVar 0) (tVar 2)) I H3 λok H4=>if ok=true then Wu (tVar 1) (tVar 0) I H4 λv H5=>∃ys,H5 acc=some (.lst ys)/\ys.length<sizeLine/\U I (upd H5 acc ↥68) else U I H4):=by
 refine YO (a:=a) (acc:=acc) (o:=o) (kvs:=ns.map kvI) (λi σ H'=>∃x:Option V,σ=[x,some (.ref a),some (.int y)]/\H' acc=some (.lst ((((ns.take i).filter λq=>decide (q.1<=y)).map (·.2)).map V.int))/\Ext acc H H') ⟨none,rfl,j6,Ext.put⟩ ?_ ?_ ?_
 ·rintro i σ H' hi ⟨x,rfl,d,b⟩
  exact b _ _ h (j1 h G)
 ·rintro i q σ H' n ⟨x,rfl,d,b⟩
  obtain ⟨z,e,rfl⟩:=VG n
  have g:=aA e
  have hi:i<ns.length:=(List.getElem?_eq_some_iff.mp e).1
  have k:((((ns.take i).filter λq=>decide (q.1<=y)).map (·.2)).map V.int).length<=100:=by
   rw [ah,ah]
   exact aI (bM _ _) (by rw [aN];right)
  have p:=b _ _ h (j1 h G)
  show uy 0 (V.int z.1) _ _ _
  walk_at "r"
  refine qk (λf=>?_) (λf=>?_)
  ·refine ⟨_,rfl,_,rfl,a,V.int z.2,rfl,?_,_,d,bU k ⋯,_,rfl,?_,b.trans Ext.put⟩
   ·have:=vE ns z.1 (bN g)
    rw [wm nd g] at this
    rw [<- this]
    exact .inl ⟨_,.inl z.1,.inr ⟨o,p⟩,rfl,rfl⟩
   ·rw [j6,bI,e,dB,bL,ef (by rw [decide_eq_true f]),aE,aE]
    rfl
  ·refine ⟨_,rfl,?_,b⟩
   rw [bI,e,dB,bL,ee (by rw [decide_eq_false f];exact au),mX,aF]
   exact d
 ·rintro σ H' ⟨x,rfl,d,b⟩
  rw [ah,aY] at d
  exact ab H' d λc u l=>b c u l (j1 l G)
inductive spRide  (vs:List V) (H:Hp) (Q:VK) (z_3:XK):Prop
 | mk (M:Addr->Prop) (sd p q sg gl ll a:Addr) (lds:List Addr) (l y:Int) (ns:List (Int×Int)) (_:vs=[.ref sd,.int l,.int y]) (_:H sd=some (.dK (scK p q sg gl ll))) (_:H ll=some (.lst (lds.map V.ref))) (_:0<=l) (_:lds[l.toNat]? = some a) (_:Rd H a (.dK (ns.map kvI))) (_:M a) (_:¬M sd) (_:ns.length<=100) (_: (↥108).Nodup) (_:(∀q∈ns,0<=q.2/\q.2<=9)) (_:∀H',FrM M H H'->Q (.int (y+jc ns y)) H')
theorem wD:FnScope ["_law_scene_here","_law_lane","_law_year_here","_law_leaps"] ["_law_scene_here","_law_lane","_law_year_here"] (j8 yL):=by walk_at "s"
theorem UW (Y:Nb2 mg) (F:Fun K "_law_ride" "_law_ride" yL f fd):FnOk P w K mg base CX0 1 f fd ["_law_scene_here","_law_lane","_law_year_here"] spRide:=by
 refine F.ok wD (λU H Q E h=>?_) (λac A outer s H U Q E R h=>?_)
 ·obtain ⟨M,t,p,q,G,T,B,a,J,l,y,x,rfl,_⟩:=h
  rfl
 ·obtain ⟨M,t,p,q,G,T,B,a,J,l,y,x,rfl,L,S,X,ha,O,hM,ab,g,I,h9,k⟩:=h
  refine ⟨_,(j4 (zS (i:=3) wD.nd rfl (dQ rfl) (jr (jf K) (jF (jR R) (pv 0) jt (λ_ _=>rfl)) (pv 1) (λ_ _=>rfl)))
   (j9 (ji (jk jO (pv 2) (jd (kI K rfl) rfl Y.b_sum Af (j0 (qd (osc:=(j8 yL)) (ON:=["_law_scene_here","_law_lane","_law_year_here","_law_leaps"]) (N:=["_law_when","_law_leaps","_law_year_here"]) (own:=1) (caps:=[3,2]) ⟨rfl,∅,∅,∅,rfl,∅⟩ rfl rfl rfl (wT (pv 3)) (λ_ _ _ _ _=>(jb (i:=0) (show bg (["_law_when","_law_leaps","_law_year_here"]:List Str) by decide +kernel) rfl (aO rfl))) (λ_ _ _ _ _=>(yq (ju qB (pv 0) (pv 2) (jx _)))) (λ_ _ _ _ _=>(jF (jR R) (pv 1) (pv 0) (λ_ _=>rfl)))) j2)))))),?_⟩
  walk_at "r"
  refine ⟨t,.ref B,rfl,by rw [<- gW p q G T B];exact qU.k (k:=.inr "leaps") L,?_⟩
  walk_at "r"
  refine ⟨_,_,_,_,rfl,rfl,SqL.of S,qI X (v:=V.ref a) (by rw [ay,ha];rfl),?_⟩
  walk_at "r"
  have m:∀(H1:Hp),FrM M H H1->∀acc H2,H2 acc=some (.lst (((x.filter λq=>decide (q.1<=y)).map (·.2)).map V.int))->jm H1 H2->uP [some (.ref t),some (.int l),some (.int y),some (.ref a)] H2 λxs H3=>cI_call_sum K (V.ref acc::xs) H3 λz H4=>rI0 (λi j=>V.int (i+j)) (V.int y) z H4 Q:=λH1 D acc H2 h2 d=>by
   refine ⟨acc,_,rfl,SqL.of h2,?_,λn hn=>?_,?_⟩
   ·rw [ah]
    exact aI (bM _ _) ()
   ·obtain ⟨z,Z,rfl⟩:=List.mem_map.mp hn
    have:=h9 z (List.mem_filter.mp Z).1
    exact ⟨this.1,rp this.2 ⋯⟩
   ·exact ⟨_,_,rfl,rfl,k H2 (D.trans (FrM.of_same d))⟩
  rcases O with h | ⟨o,h⟩
  ·refine ⟨a,_,rfl,.inl ⟨h,λo acc b=>?_⟩⟩
   have D:FrM M H (upd H a (.frz o (.dK (x.map kvI)))):=λc u C=>by
    by_cases e:c=a
    ·subst e
     rw [h] at C
     cases C
     exact .inr ⟨hM,o,_,rfl,j6⟩
    ·exact .inl (by rw [j7 e];exact C)
   exact Jk (a:=a) (o:=o) j6 I g b λH2 h2 d=>m _ D acc H2 h2 d
  ·refine ⟨a,_,rfl,.inr ⟨o,h,λacc b=>?_⟩⟩
   exact Jk (a:=a) (o:=o) h I g b λH2 h2 d=>m _ (FrM.of_same (jm.refl H)) acc H2 h2 d
theorem Yu (y:Int):jc [] y=0:=rfl
theorem qr (q:Int×Int) (r:List (Int×Int)) (y:Int):jc (q::r) y=(if q.1<=y then q.2 else 0)+jc r y:=by
 unfold jc
 rw [List.filter_cons]
 by_cases h:q.1<=y
 ·rw [decide_eq_true h,if_pos rfl,if_pos h,aS,oM]
 ·rw [decide_eq_false h,if_neg au,if_neg h,eQ]
theorem xG {ms:List (Int×Int)}(p:ms.Perm ns) (y:Int):jc ms y=jc ns y:=by
 induction p with
 | nil=>rfl
 | cons q _ c=>rw [qr,qr,c]
 | swap a b r=>rw [qr,qr,qr,qr];right
 | trans _ _ a b=>rw [a,b]
theorem JZ {ns:List (Int×Int)}(h:∀q∈ns,0<=q.2) (y:Int):0<=jc ns y:=by
 induction ns with
 | nil=>exact og _
 | cons q r a =>
  rw [qr]
  have:=h q (aK ..)
  have:=a λz b=>h z (aH _ b)
  by_cases e:q.1<=y
  ·rw [if_pos e];right
  ·rw [if_neg e];right
theorem ZL {ns:List (Int×Int)}{y:Int}(h:∀q∈ns,y<q.1):jc ns y=0:=by
 induction ns with
 | nil=>rfl
 | cons q r b =>
  have a:=h q (aK ..)
  rw [qr,if_neg (),b λz c=>h z (aH _ c)]
  rfl
theorem kT:∀(ms:List (Int×Int)) (st ad j:Int),(∀q∈ms,st<=q.1)->(↥45).Pairwise (· <= ·)->st<=jn st ad ms j
 | [],st,ad,j,_,_=>by unfold jn;split <;> right
 | q::r,st,ad,j,h,p=>by
  unfold jn
  have a:=h q (aK ..)
  rw [aS,fW] at p
  by_cases e:j-ad<q.1
  ·rw [if_pos e];split <;> right
  ·rw [if_neg e]
   have:=kT r q.1 (ad+q.2) j (λz b=>p.1 _ (bN b)) p.2
   right
theorem wg:∀(ms:List (Int×Int)) (st ad j y:Int),(∀q∈ms,st<=q.1/\0<=q.2)->(↥45).Pairwise (· < ·)->st<=y->(j<=y+ad+jc ms y↔jn st ad ms j<=y)
 | [],st,ad,j,y,_,_,k=>by rw [Yu];unfold jn;split <;> right
 | q::r,st,ad,j,y,h,p,k=>by
  have a:=h q (aK ..)
  have i:∀z∈r,0<=z.2:=λz b=>(h z (aH _ b)).2
  rw [aS,fW] at p
  have d:∀z∈r,q.1<z.1:=λz b=>p.1 _ (bN b)
  have l:=JZ i y
  rw [qr]
  unfold jn
  by_cases c:q.1<=y
  ·rw [if_pos c]
   by_cases e:j-ad<q.1
   ·rw [if_pos e];split <;> right
   ·rw [if_neg e]
    have f:=wg r q.1 (ad+q.2) j y (λz b=>⟨rA (d z b),i z b⟩) p.2 c
    constructor
    ·intro z;exact f.mp ()
    ·intro z;have:=f.mpr z;right
  ·rw [if_neg c,ZL λz b=>by have:=d z b;right]
   by_cases e:j-ad<q.1
   ·rw [if_pos e];split <;> right
   ·rw [if_neg e]
    have g:=kT r q.1 (ad+q.2) j (λz b=>rA (d z b)) (p.2.imp λh=>rA h)
    right
theorem xi:∀{l:List Int},l.Pairwise (· <= ·)->l.Nodup->l.Pairwise (· < ·)
 | [],_,_=>.nil
 | x::r,p,n=>by
  rw [fW] at p ⊢
  obtain ⟨c,b⟩:=List.nodup_cons.mp n
  refine ⟨λy a=>?_,xi p.2 b⟩
  have:=p.1 y a
  have:x≠y:=λe=>c (e ▸ a)
  right
inductive spCheckAsked (CY:Addr) (vs:List V) (H:Hp) (Q:VK) (E:XK):Prop
 | mk (y:Int) (_:vs=[.int y]) (_:(0<=y->y<=10 ^ 40->Q .non H)/\(y<0\/10 ^ 40<y->E (.ref CY) none H))
theorem gQ:FnScope ["year"] ["year"] (j8 yo):=by walk_at "s"
theorem gy (j:mg "LAST_ASKED" = some (.int 10000000000000000000000000000000000000000 u0)) (G:mg "BadYear" = some (.ref I)) (z:dj K I [.type "ValueError",.type "Exception",.type "BaseException",.type "object"] "ValueError.__new__" = true) (F:Fun K "check_asked" "check_asked" yo f fd):FnOk P w K mg base (CX1 P w) 1 f fd ["year"] (spCheckAsked I):=by
 refine Fun.okX F gQ (λc H Q E h=>?_) (λd A outer s H c Q E e h=>?_)
 ·obtain ⟨y,rfl,_⟩:=h
  rfl
 ·obtain ⟨y,rfl,k,a⟩:=h
  refine ⟨_,(j9 (jI (qX (xk qB qB j5 (pv 0) (qR (v:=V.int 10000000000000000000000000000000000000000) rfl j ⟨_,rfl⟩))) (j9 (xQ bH z G rfl zK rfl (j0 jt j2))) js)),?_⟩
  walk_at "r"
  refine qk (λb=>?_) (λb=>?_)
  ·walk_at "r"
   refine zI (λh1=>?_) (λh1=>?_)
   ·walk_at "r"
    exact ⟨by show 1<=sizeLine;decide,a (.inr ())⟩
   ·walk_at "r"
    exact k b h1
  ·walk_at "r"
   refine vO ?_
   walk_at "r"
   exact ⟨by show 1<=sizeLine;decide,a (.inl ())⟩
inductive spRideBy  (vs:List V) (H:Hp) (Q:VK) (z_3:XK):Prop
 | mk (p:Addr) (out:List V) (ms:List (Int×Int)) (y:Int) (_:vs=[.ref p,.int y]) (_:H p=some (.lst out)) (_:za H out ms) (_:ms.length<=100) (_:(∀q∈ms,0<=q.2/\q.2<=9)) (_:∀H',jm H H'->Q (.int (y+jc ms y)) H')
theorem Zq:FnScope ["surges","year"] ["surges","year"] (j8 vL):=by walk_at "s"
theorem ZK (U:Nb2 mg) (F:Fun K "ride_by" "ride_by" vL f fd):FnOk P w K mg base CX0 1 f fd ["surges","year"] spRideBy:=by
 refine F.ok Zq (λL H Q E h=>?_) (λX A outer s H L Q E Y h=>?_)
 ·obtain ⟨p,g,l,y,rfl,_⟩:=h
  rfl
 ·obtain ⟨p,g,l,y,rfl,u,D,T,S,k⟩:=h
  have C:g.length=l.length:=aM D
  refine ⟨_,(j9 (ji (jk jO (pv 1) (jd (kI K rfl) rfl U.b_sum Af (j0 (qd (osc:=(j8 vL)) (ON:=["surges","year"]) (N:=["when","many","year"]) (own:=2) (caps:=[1]) ⟨rfl,∅,∅,∅,rfl,∅⟩ rfl rfl rfl (jW K (pv 0)) (λ_ _ _ _ _=>(qg (n:=2) K rfl (jh (jb (i:=0) (show bg (["when","many","year"]:List Str) by decide +kernel) rfl (aO rfl)) (jh (jb (i:=1) (show bg (["when","many","year"]:List Str) by decide +kernel) rfl (aO rfl)) qa)))) (λ_ _ _ _ _=>(yq (ju qB (pv 0) (pv 2) (jx _)))) (λ_ _ _ _ _=>(pv 1))) j2))))),?_⟩
  walk_at "r"
  refine ⟨⟨_,SqL.of u⟩,λacc d=>?_⟩
  refine qv (K:=K) (a:=p) (xs:=g) (acc:=acc) (λi σ H2=>∃x j:Option V,σ=[x,j,some (.int y)]/\H2 acc=some (.lst ((((l.take i).filter λq=>decide (q.1<=y)).map (·.2)).map V.int))/\Ext acc H H2) ?_ ?_ ?_ ?_
  ·exact ⟨none,none,rfl,j6,Ext.put⟩
  ·rintro i σ H2 hi ⟨x,j,rfl,h2,e⟩
   exact SqL.of (e _ _ u (j1 u d))
  ·rintro i v σ H2 O ⟨x,j,rfl,h2,e⟩
   obtain ⟨m,B,b,rfl,J⟩:=Paired.get D O
   have hi:=(List.getElem?_eq_some_iff.mp B).1
   have G:((((l.take i).filter λq=>decide (q.1<=y)).map (·.2)).map V.int).length<=100:=by
    rw [ah,ah]
    exact aI (bM _ _) (by rw [aN];right)
   walk_at "r"
   refine ⟨b,_,rfl,SqT.of (e _ _ J (j1 J d)),rfl,?_⟩
   refine ⟨_,_,rfl,_,_,rfl,rfl,?_⟩
   walk_at "r"
   refine qk (λt=>?_) (λt=>?_)
   ·walk_at "r"
    refine ⟨_,h2,bU G ⋯,_,_,rfl,?_,e.trans Ext.put⟩
    rw [j6,bI,B,dB,bL,ef (by rw [decide_eq_true t]),aE,aE]
    rfl
   ·refine ⟨_,_,rfl,?_,e⟩
    rw [bI,B,dB,bL,ee (by rw [decide_eq_false t];exact au),mX,aF]
    exact h2
  ·rintro σ H2 ⟨x,j,rfl,h2,e⟩
   rw [C,aY] at h2
   walk_at "r"
   refine ⟨acc,_,rfl,SqL.of h2,?_,λn R=>?_,?_⟩
   ·rw [ah]
    exact aI (bM _ _) ()
   ·obtain ⟨z,M,rfl⟩:=List.mem_map.mp R
    have:=S z (List.mem_filter.mp M).1
    exact ⟨this.1,rp this.2 ⋯⟩
   ·exact ⟨_,_,rfl,rfl,k H2 λc o I=>e c o I (j1 I d)⟩
noncomputable def Xj (g:IceG) (l:Int) (ns:List (Int×Int)):Prop:=0<=l/\l< ↥9/\(∃a,g.lds[l.toNat]? = some (a,ns.map kvI))/\ (↥108).Nodup/\ns.length<64/\∀q∈ns,0<=q.2/\q.2<=9
inductive spRidden (C CN CY:Addr) (vs:List V) (H:Hp) (Q:VK) (E:XK):Prop
 | mk (p:Addr) (g:IceG) (l y:Int) (_:vs=[.ref p,.int l,.int y]) (_:IceAt C H p g) (_:g.lds.length=g.slopes.length) (_: ↥31) (_:(0<=l->l< ↥9->∃ns,Xj g l ns/\ ↥60/\∀H',jm H H'->0<=y->y<=10 ^ 40->Q (.int (y+jc ns y)) H'))
theorem Jz:FnScope ["ice","lane","year","surges"] ["ice","lane","year"] (j8 J0):=by walk_at "s"
theorem V0 (U:Cls K C) (z:CalMX P w K mg base 2 C "surges" ["self","lane"] (spSurgesI C CN)) (j:CalX P w K mg base 1 "check_asked" ["year"] (spCheckAsked Y)) (G:Cal P w K mg base 1 "ride_by" ["surges","year"] spRideBy) (F:Fun K "ridden" "ridden" J0 f fd):FnOk P w K mg base (CX1 P w) 3 f fd ["ice","lane","year"] (spRidden C CN Y):=by
 refine Fun.okX F Jz (λx H Q E h=>?_) (λX A outer s H x Q E b h=>?_)
 ·obtain ⟨p,g,l,y,rfl,_⟩:=h
  rfl
 ·obtain ⟨p,g,l,y,rfl,I,n,R,k⟩:=h
  refine ⟨_,(j4 (jq 3 Jz.nd (yr (pv 0) U z (b.mono ⋯) qP ↥51))
   (j4 (jV (xc j (b.mono ⋯) qP rfl ↥59))
   (j9 (ji (je G (b.mono ⋯) rfl (j0 (pv 3) ↥59)))))),?_⟩
  walk_at "r"
  refine ⟨p,g.dx,_,rfl,I.ob,xf ∅,?_⟩
  walk_at "r"
  refine ⟨p,g,l,rfl,I,n,λd=>R d,λN M=>?_⟩
  obtain ⟨D,⟨_,_,⟨a,T⟩,J,t,V⟩,O,k⟩:=k N M
  refine ⟨a,D,T,J,t,λo H1 e L ho m S s1 c Z=>?_⟩
  walk_at "r"
  refine ⟨λv u=>?_,λd=>O H1 s1 d⟩
  walk_at "r"
  refine ⟨o,e,L,y,rfl,m,S,(by rw [c.length_eq];right),λq i=>V q (c.mem_iff.mp i),λH2 B=>?_⟩
  rw [xG c]
  exact k H2 (s1.trans B) v u
noncomputable def kvA (z:Int×Addr):Key×V:=(.inl z.1,.ref z.2)
noncomputable def zh {α:Type}(l:List (Int×α)) (y:Int) (a:α):List (Int×α):=if (l.any λz=>decide (z.1=y))=true then l.map (λz=>if z.1=y then (z.1,a) else z) else l++[(y,a)]
theorem gk {α:Type}(f:α->V) (l:List (Int×α)) (y:Int) (a:α):qQ (l.map λz=>↥63) (.inl y) (f a)=(zh l y a).map λz=>↥63:=by
 have e:∀z:Int,decide ((eG z:Key)=eG y)=decide (z=y):=λz=>decide_eq_decide.mpr ⟨λh=>eC h,λh=>by rw [h]⟩
 have d:((l.map λz=>↥63).any λc=>decide (c.1=(eG y:Key)))=l.any λz=>decide (z.1=y):=by
  rw [List.any_map]
  congr 1
  funext z
  exact e z.1
 unfold qQ zh
 rw [d]
 by_cases h:(l.any λz=>decide (z.1=y))=true
 ·rw [if_pos h,if_pos h,bW,bW]
  refine dW λz _=>?_
  show (if (eG z.1:Key)=eG y then _ else _)=_
  by_cases b:z.1=y
  ·rw [if_pos (by rw [b])]
   show _=(λz:Int×α=>↥63) (if z.1=y then (z.1,a) else z)
   rw [if_pos b]
  ·rw [if_neg (λw=>b (eC w))]
   show _=(λz:Int×α=>↥63) (if z.1=y then (z.1,a) else z)
   rw [if_neg b]
 ·rw [if_neg h,if_neg h,aE]
  rfl
theorem kH {α:Type}{l:List (Int×α)}{y:Int}{a:α}{z:Int×α}(h:z∈zh l y a):z∈l\/z=(y,a):=by
 unfold zh at h
 by_cases c:(l.any λz=>decide (z.1=y))=true
 ·rw [if_pos c] at h
  obtain ⟨u,b,e⟩:=List.mem_map.mp h
  by_cases q:u.1=y
  ·rw [if_pos q,q] at e
   exact .inr e.symm
  ·rw [if_neg q] at e
   exact .inl (e ▸ b)
 ·rw [if_neg c] at h
  rcases List.mem_append.mp h with q | q
  ·exact .inl q
  ·exact .inr (by simpa using q)
theorem uM {α:Type}(l:List (Int×α)) (y:Int) (a:α):(zh l y a).length<=l.length+1:=by
 unfold zh
 split
 ·rw [ah];right
 ·rw [ao];exact ar _
theorem kW {α:Type}{l:List (Int×α)}{y:Int}{a:α}(h:(l.map (·.1)).Nodup):((zh l y a).map (·.1)).Nodup:=by
 unfold zh
 by_cases c:(l.any λz=>decide (z.1=y))=true
 ·rw [if_pos c,bW]
  have:(l.map ((λx=>x.1) ∘ λz=>if z.1=y then (z.1,a) else z))=l.map (·.1):=dW λz _=>by
   show (if z.1=y then (z.1,a) else z).1=z.1
   split <;> rfl
  rw [this]
  exact h
 ·rw [if_neg c,aE]
  refine k9 h λz=>c ?_
  obtain ⟨u,b,e⟩:=List.mem_map.mp z
  exact List.any_eq_true.mpr ⟨u,b,decide_eq_true e⟩
structure ScN where
 p:Addr
 q:Addr
 sg:Addr
 gl:Addr
 ll:Addr
 xs:List V
 ys:List V
 zs:List V
 rs:List Rch
 ts:List T3
 ws:List (List Int)
 sk:List (Int×Addr)
 lds:List ↥115
structure ScAt (H:Hp) (sd:Addr) (c:ScN):Prop where
 sd:H sd=some (.dK (scK c.p c.q c.sg c.gl c.ll))
 p:H c.p=some (.lst c.xs)
 rv:qo H c.xs c.rs
 q:H c.q=some (.lst c.ys)
 r3:jN H c.ys c.ts
 gl:H c.gl=some (.lst c.zs)
 gi:vg H c.zs (c.ws.map (ja c.rs))
 ll:H c.ll=some (.lst (c.lds.map λx=>V.ref x.1))
 sg:Rd H c.sg (.dK (c.sk.map kvA))
 sk:∀z∈c.sk,∃t,H z.2=some (yW t)/\good t=true
 ld:∀x∈c.lds,Rd H x.1 (.dK (x.2.map kvI))
structure ScOk (b:Addr) (c:ScN):Prop where
 gr:Grown c.rs
 l1:1<=c.rs.length
 l8:c.rs.length<=8
 t1:1<=c.ts.length
 t2:c.ts.length<=12
 tg:c.ts.all good=true
 ro:qt c.rs c.ws
 ldl:c.lds.length=c.ws.length
 nd:(c.lds.map (·.1)).Nodup
 ns:∀x∈c.lds,x.1≠c.sg
 pb:c.p≠b
 qb:c.q≠b
 gb:c.gl≠b
 lb:c.ll≠b
 zb:V.ref b∉c.zs
 k1:(c.sk.map (·.1)).Nodup
 k2:∀z∈c.sk,0<=z.1/\z.1<=99
 k3:c.sk.length<=10
 m1:∀x∈c.lds,(x.2.map (·.1)).Nodup
 m2:∀x∈c.lds,∀z∈x.2,0<=z.1/\z.1<=99/\1<=z.2/\z.2<=9
 m3:∀x∈c.lds,x.2.length<=10
noncomputable def Fr3 (N M:Addr->Prop) (H H':Hp):Prop:=∀c o,H c=some o->¬N c->H' c=some o\/(M c/\∃a kvs,o = .dK kvs/\H' c=some (.frz a (.dK kvs)))
theorem Fr3.at {N:Addr->Prop}(f:Fr3 N M H H') (h:H c=some o) (n:¬N c) (d:∀kvs,o≠.dK kvs):H' c=some o:=by
 rcases f c o h n with h1 | ⟨_,a,kvs,e,_⟩
 ·exact h1
 ·exact absurd e (d kvs)
theorem Fr3.rd {N:Addr->Prop}(f:Fr3 N M H H') {kvs:List (Key×V)}(n:¬N c) (h:Rd H c (.dK kvs)):Rd H' c (.dK kvs):=by
 rcases h with h | ⟨o,h⟩
 ·rcases f c _ h n with h1 | ⟨_,a,b,e,h1⟩
  ·exact .inl h1
  ·cases e
   exact .inr ⟨a,h1⟩
 ·exact .inr ⟨o,f.at h n ↥1⟩
theorem pmM {α β:Type}{F G:α->β->Prop}:∀{l₁:List α}{j:List β},cU F l₁ j->(∀v∈l₁,∀w,F v w->G v w)->cU G l₁ j
 | _,_,.nil,_=>.nil
 | _,_,.cons q r,h=>.cons (h _ (aK ..) _ q) (pmM r λv a=>h v (aH _ a))
theorem ScAt.keep {N:Addr->Prop}{sd:Addr}{c:ScN}(S:ScAt H sd c) (f:Fr3 N M H H') (nT:∀a xs,H a=some (.tup xs)->¬N a) (j:¬N sd) (G:¬M sd) (Y:¬N c.p) (U:¬N c.q) (ng:¬N c.gl) (nl:¬N c.ll) (I:∀a,V.ref a∈c.zs->¬N a) (ns:¬N c.sg) (nd:∀x∈c.lds,¬N x.1):ScAt H' sd c:=by
 have t:∀a xs,H a=some (.tup xs)->H' a=some (.tup xs):=λa xs h=>f.at h (nT a xs h) ↥1
 refine ⟨?_,f.at S.p Y ↥1,S.rv.keep t,f.at S.q U ↥1,S.r3.imp λ_ _ h=>t _ _ h,f.at S.gl ng ↥1,pmM S.gi λv i w ⟨a,d,q⟩=>⟨a,d,f.at q (I a (d ▸ i)) ↥1⟩,f.at S.ll nl ↥1,f.rd ns S.sg,λz e=>?_,λx b=>f.rd (nd x b) (S.ld x b)⟩
 ·rcases f _ _ S.sd j with z | ⟨z,_⟩
  ·exact z
  ·exact absurd z G
 ·obtain ⟨u,k,g⟩:=S.sk z e
  exact ⟨u,t _ _ k,g⟩
theorem ScAt.same {sd:Addr}(S:ScAt H sd c) (s:jm H H'):ScAt H' sd c :=
 S.keep (N:=λ_=>False) (M:=λ_=>False) (λc o h _=>.inl (s c o h)) (λ_ _ _ z=>z) id id id id id id (λ_ _=>id) id (λ_ _=>id)
theorem ScAt.ext {b:Addr}{sd:Addr}(S:ScAt H sd c) (O:ScOk b c) (B:qc L H b) (e:Ext b H H'):ScAt H' sd c:=by
 obtain ⟨_,_,_,_,_,d,_⟩:=B
 have f:∀{a:Addr} {kvs:List (Key×V)},Rd H a (.dK kvs)->¬a=b:=λh z=>by
  rcases h with h | ⟨o,h⟩
  ·exact absurd z (jo h d ↥4)
  ·exact absurd z (jo h d ↥4)
 exact S.keep (N:=λa=>a=b) (M:=λ_=>False) (λc o h n=>.inl (e c o h n)) (λa xs h z=>absurd z (jo h d ↥4)) (jo S.sd d ↥4) id O.pb O.qb O.gb O.lb (λa h z=>O.zb (z ▸ h)) (f S.sg) λx g=>f (S.ld x g)
noncomputable def ScN.D (c:ScN) (a:Addr):Prop:=a=c.sg\/∃x∈c.lds,x.1=a
theorem GF {p q j I G:Addr}{α:Type}{f:α->V}{l:List (Int×α)}:scK p q j I G≠l.map λz=>↥63:=λz=>by
 cases l with
 | nil=>cases z
 | cons u r =>
  have:=congrArg (λl=>l.head?.map (·.1)) z
  cases this
theorem ZS {H:Hp}{sd a p q j G ll:Addr}{α:Type}{f:α->V}{l:List (Int×α)}(h:H sd=some (.dK (scK p q j G ll))) (r:Rd H a (.dK (l.map λz=>↥63))):a≠sd:=λz=>by
 subst z
 rcases r with r | ⟨o,r⟩
 ·rw [r] at h
  have e:l.map (λz=>↥63)=scK p q j G ll:=by injection h with h;injection h
  exact GF e.symm
 ·rw [r] at h
  cases h
theorem ScAt.nD {sd:Addr}(S:ScAt H sd c):¬c.D sd:=λz=>by
 rcases z with z | ⟨x,a,e⟩
 ·exact ZS (f:=V.ref) S.sd S.sg z.symm
 ·exact ZS (f:=V.int) S.sd (S.ld x a) e
structure ScB (L b:Addr) (H H2:Hp) (sd:Addr) (c:ScN):Prop where
 S:ScAt H2 sd c
 O:ScOk b c
 r1:H2 c.sg=some (.dK (c.sk.map kvA))
 r2:∀x∈c.lds,H2 x.1=some (.dK (x.2.map kvI))
 B:qc L H2 b
 X:Ext b H H2
 f1:H c.sg=none
 f2:∀x∈c.lds,H x.1=none
theorem ScB.take {b:Addr}{j:Addr}(S:ScB L b H H2 j c) (B:qc L G b) (X:Ext b H2 G):ScB L b H G j c:=by
 have a:∃xs,H2 b=some (.lst xs):=by
  obtain ⟨_,_,_,_,_,a,_⟩:=S.B
  exact ⟨_,a⟩
 obtain ⟨_,a⟩:=a
 exact ⟨S.S.ext S.O S.B X,S.O,X _ _ S.r1 (jo S.r1 a ↥4),λx d=>X _ _ (S.r2 x d) (jo (S.r2 x d) a ↥4),B,S.X.trans X,S.f1,S.f2⟩
theorem ScB.same {b:Addr}{j:Addr}(S:ScB L b H H2 j c) (s:jm H2 z):ScB L b H z j c:=S.take (S.B.same s) (Ext.of_same s)
theorem zc (B:qc L j b) (e:Ext b j Hb):jp j Hb:=by
 obtain ⟨f,a,r,c,d,h1,_⟩:=B
 exact jp.lst e h1
theorem ScB.single {b:Addr}{G t:Addr}{y:Int}(S:ScB L b H H2 G c) (U:0<=y) (I:y<=99) (Y:H2 t=some (yW r)) (hg:good r=true) (hl:c.sk.length+1<=10) :
  ScB L b H (upd H2 c.sg (.dK (qQ (c.sk.map kvA) (.inl y) (.ref t)))) G { c with sk:=zh c.sk y t }:=by
 have e:qQ (c.sk.map kvA) (.inl y) (.ref t)=(zh c.sk y t).map kvA:=gk V.ref c.sk y t
 rw [e]
 have i:∀{a:Addr} {o:HO},H2 a=some o->(∀kvs,o≠.dK kvs)->(upd H2 c.sg (.dK ((zh c.sk y t).map kvA))) a=some o:=λh n=>by rw [j7 (jo h S.r1 (n _))];exact h
 have s:G≠c.sg:=(ZS (f:=V.ref) S.S.sd S.S.sg).symm
 have k:∃xs,H2 b=some (.lst xs):=by
  obtain ⟨_,_,_,_,_,k,_⟩:=S.B
  exact ⟨_,k⟩
 obtain ⟨_,k⟩:=k
 have l:∃xs,H2 L=some (.lst xs):=by
  obtain ⟨_,_,_,_,_,_,_,l,_⟩:=S.B
  exact ⟨_,l⟩
 obtain ⟨_,l⟩:=l
 refine ⟨⟨by rw [j7 s];exact S.S.sd,i S.S.p ↥1,S.S.rv.keep λ_ _ h=>i h ↥1,i S.S.q ↥1,S.S.r3.imp λ_ _ h=>i h ↥1,i S.S.gl ↥1,pmM S.S.gi λv E w ⟨a,D,q⟩=>⟨a,D,i q ↥1⟩,i S.S.ll ↥1,.inl j6,λz m=>?_,λx j=>.inl (by rw [j7 (S.O.ns x j)];exact S.r2 x j)⟩,?_,j6,λx j=>by rw [j7 (S.O.ns x j)];exact S.r2 x j,S.B.put (jo S.r1 k ↥4) (jo S.r1 l ↥4),λd o A n=>?_,S.f1,S.f2⟩
 ·rcases kH m with z | z
  ·obtain ⟨u,C,g⟩:=S.S.sk _ z
   exact ⟨u,i C ↥1,g⟩
  ·subst z
   exact ⟨r,i Y ↥1,hg⟩
 ·have O:=S.O
  exact ⟨O.gr,O.l1,O.l8,O.t1,O.t2,O.tg,O.ro,O.ldl,O.nd,O.ns,O.pb,O.qb,O.gb,O.lb,O.zb,kW O.k1,λz m=>by
   rcases kH m with q | q
   ·exact O.k2 z q
   ·subst q;exact ⟨U,I⟩,aI (uM _ _ _) hl,O.m1,O.m2,O.m3⟩
 ·rw [j7 (j1 A S.f1)]
  exact S.X d o A n
theorem ux {α β:Type}{l:List (α×β)}{n:Nat}{a:α}{u v:β}(j:(l.map (·.1)).Nodup) (I:l[n]? = some (a,u)) {x:α×β}(G:x∈l.set n (a,v)):x=(a,v)\/(x∈l/\x.1≠a):=by
 obtain ⟨i,hi,e⟩:=List.mem_iff_getElem.mp G
 have b:i<l.length:=by rw [iV] at hi;exact hi
 obtain ⟨d,c⟩:=List.getElem?_eq_some_iff.mp I
 by_cases q:n=i
 ·subst q
  rw [List.getElem_set_self] at e
  exact .inl e.symm
 ·rw [List.getElem_set_ne q] at e
  refine .inr ⟨e ▸ c7 b,λz=>q ?_⟩
  have h1:(l.map (·.1))[n]'(by rw [ah];exact d)=(l.map (·.1))[i]'(by rw [ah];exact b):=by
   rw [cX,cX,c,e,z]
  rcases Nat.lt_trichotomy n i with g | g | g
  ·exact absurd h1 (List.pairwise_iff_getElem.mp j n i _ _ g)
  ·exact g
  ·exact absurd h1.symm (List.pairwise_iff_getElem.mp j i n _ _ g)
theorem ZR {α β:Type}{l:List (α×β)}{n:Nat}{a:α}{u v:β}(j:l[n]? = some (a,u)):(l.set n (a,v)).map (·.1)=l.map (·.1):=by
 obtain ⟨b,c⟩:=List.getElem?_eq_some_iff.mp j
 rw [List.map_set]
 refine il λi=>?_
 rw [ir]
 by_cases q:n=i
 ·subst q
  rw [if_pos rfl,if_pos (by rw [ah];exact b),ay,j]
  rfl
 ·rw [if_neg q]
theorem ScB.leap {b:Addr}{I a:Addr}{n:Nat}{y m:Int}{ns:List (Int×Int)}(S:ScB L b H H2 I c) (G:c.lds[n]? = some (a,ns)) (Y:0<=y) (U:y<=99) (m0:1<=m) (m1:m<=9) (hl:ns.length+1<=10) :
  ScB L b H (upd H2 a (.dK (qQ (ns.map kvI) (.inl y) (.int m)))) I { c with lds:=c.lds.set n (a,zh ns y m) }:=by
 have e:qQ (ns.map kvI) (.inl y) (.int m)=(zh ns y m).map kvI:=gk V.int ns y m
 rw [e]
 have k:=aA G
 have t:=S.r2 _ k
 have j:∀{d:Addr} {o:HO},H2 d=some o->(∀kvs,o≠.dK kvs)->(upd H2 a (.dK ((zh ns y m).map kvI))) d=some o:=λh n=>by rw [j7 (jo h t (n _))];exact h
 have D:I≠a:=(ZS (f:=V.int) S.S.sd (S.S.ld _ k)).symm
 have r:∃xs,H2 b=some (.lst xs):=by
  obtain ⟨_,_,_,_,_,r,_⟩:=S.B
  exact ⟨_,r⟩
 obtain ⟨_,r⟩:=r
 have s:∃xs,H2 L=some (.lst xs):=by
  obtain ⟨_,_,_,_,_,_,_,s,_⟩:=S.B
  exact ⟨_,s⟩
 obtain ⟨_,s⟩:=s
 have fs:=ZR (v:=zh ns y m) G
 have J: (↥148).map (λx=>V.ref x.1)=c.lds.map λx=>V.ref x.1:=by
  have:=congrArg (tD V.ref) fs
  rw [bW,bW] at this
  exact this
 have C:c.sg≠a:=(S.O.ns _ k).symm
 have r2:∀x∈c.lds.set n (a,zh ns y m),(upd H2 a (.dK ((zh ns y m).map kvI))) x.1=some (.dK (x.2.map kvI)):=λx i=>by
  rcases ux S.O.nd G i with z | ⟨z,w⟩
  ·subst z
   exact j6
  ·rw [j7 w]
   exact S.r2 x z
 have mem:∀x∈c.lds.set n (a,zh ns y m),∃l∈c.lds,l.1=x.1:=λx i=>by
  have:x.1∈ (↥148).map (·.1):=bN i
  rw [fs] at this
  exact List.mem_map.mp this
 have O:=S.O
 refine ⟨⟨by rw [j7 D];exact S.S.sd,j S.S.p ↥1,S.S.rv.keep λ_ _ h=>j h ↥1,j S.S.q ↥1,S.S.r3.imp λ_ _ h=>j h ↥1,j S.S.gl ↥1,pmM S.S.gi λv N w ⟨a,M,q⟩=>⟨a,M,j q ↥1⟩,?_,.inl (by show upd _ _ _ c.sg=_;rw [j7 C];exact S.r1),λz K=>?_,λx i=>.inl (r2 x i)⟩,⟨O.gr,O.l1,O.l8,O.t1,O.t2,O.tg,O.ro,?_,?_,?_,O.pb,O.qb,O.gb,O.lb,O.zb,O.k1,O.k2,O.k3,?_,?_,?_⟩,(by show upd _ _ _ c.sg=_;rw [j7 C];exact S.r1),r2,S.B.put (jo t r ↥4) (jo t s ↥4),λd o E n=>?_,S.f1,?_⟩
 ·show _=some (HO.lst ((↥148).map λx=>V.ref x.1))
  rw [J]
  exact j S.S.ll ↥1
 ·obtain ⟨u,A,g⟩:=S.S.sk _ K
  exact ⟨u,j A ↥1,g⟩
 ·show (↥148).length=_
  rw [iV]
  exact O.ldl
 ·show ((↥148).map (·.1)).Nodup
  rw [fs]
  exact O.nd
 ·intro x i
  obtain ⟨l,h1,h2⟩:=mem x i
  rw [<- h2]
  exact O.ns l h1
 ·intro x i
  rcases ux S.O.nd G i with z | ⟨z,w⟩
  ·subst z;exact kW (O.m1 _ k)
  ·exact O.m1 x z
 ·intro x i
  rcases ux S.O.nd G i with z | ⟨z,w⟩
  ·subst z
   intro u A
   rcases kH A with q | q
   ·exact O.m2 _ k u q
   ·subst q;exact ⟨Y,U,m0,m1⟩
  ·exact O.m2 x z
 ·intro x i
  rcases ux S.O.nd G i with z | ⟨z,w⟩
  ·subst z;exact aI (uM _ _ _) hl
  ·exact O.m3 x z
 ·rw [j7 (j1 E (S.f2 _ k))]
  exact S.X d o E n
 ·intro x i
  obtain ⟨l,h1,h2⟩:=mem x i
  rw [<- h2]
  exact S.f2 l h1
theorem put4 :qQ (xy [] [↥30,↥57,↥86]) (.inr "grounds") (.ref z)=[(↥30:Key×V),↥57,↥86,(.inr "grounds",.ref z)]:=by
 have d:(qQ [] (.inr "reaches") (.ref p):List (Key×V))=[↥30]:=yD _ vD
 have c:qQ [(↥30:Key×V)] (.inr "rows") (.ref q)=[↥30,↥57]:=yD _ ((jy (show ↥79≠bt (ak "rows") by decide +kernel)).trans vD)
 have b:qQ [(↥30:Key×V),↥57] (.inr "single") (.ref j)=[↥30,↥57,↥86]:=yD _ ((jy (show ↥79≠bt (ak "single") by decide +kernel)).trans ((jy (show (bt (ak "rows"):Key)≠bt (ak "single") by decide +kernel)).trans vD))
 have a:qQ [(↥30:Key×V),↥57,↥86] (.inr "grounds") (.ref z)=[(↥30:Key×V),↥57,↥86,(.inr "grounds",.ref z)]:=yD _ ((↥117).trans ((↥96).trans ((↥91).trans vD)))
 have e:xy [] [(↥30:Key×V),↥57,↥86]=[↥30,↥57,↥86]:=by
  show qQ (qQ (qQ ([]:List (Key×V)) (.inr "reaches") (.ref p)) (.inr "rows") (.ref q)) (.inr "single") (.ref j)=_
  rw [d,c,b]
 rw [e,a]
theorem put5 :qQ [(↥30:Key×V),↥57,↥86,(.inr "grounds",.ref z)] (.inr "leaps") (.ref ll)=scK p q j z ll :=
 yD _ ((jy (show ↥79≠bt (ak "leaps") by decide +kernel)).trans ((jy (show (bt (ak "rows"):Key)≠bt (ak "leaps") by decide +kernel)).trans ((jy (show (bt (ak "single"):Key)≠bt (ak "leaps") by decide +kernel)).trans ((jy (show (bt (ak "grounds"):Key)≠bt (ak "leaps") by decide +kernel)).trans vD))))
theorem Xl (p q z j:Addr):qh [(↥30:Key×V),↥57,(.inr "single",.ref z),(.inr "grounds",.ref j)] (.inr "grounds")=some (.ref j):=(↥117).trans ((↥96).trans ((↥91).trans xA))
theorem ZQ {rs:List Rch}(G:Grown rs):∀r∈rs,r.2.length<=12:=λr a=>by
 obtain ⟨i,hi,e⟩:=List.mem_iff_getElem.mp a
 have:=Qq G.ok (af hi)
 rw [e] at this
 unfold okR at this
 rw [bp,bp] at this
 have:=of_decide_eq_true this.1.2
 right
theorem W0 {v:Int}(a:0<=v) (b:v<3):∃n,atI [V.int 1,V.int 4,V.int 9] v=some (V.int n)/\0<n/\n<=9:=by
 have h:v=0\/v=1\/v=2:=()
 rcases h with rfl | rfl | rfl
 ·exact ⟨1,rfl,(),()⟩
 ·exact ⟨4,rfl,(),()⟩
 ·exact ⟨9,rfl,(),()⟩
theorem UL {v:Int}(a:0<=v) (b:v<3):∃n,atI [V.int 1,V.int 3,V.int 7] v=some (V.int n)/\0<n/\n<=7:=by
 have h:v=0\/v=1\/v=2:=()
 rcases h with rfl | rfl | rfl
 ·exact ⟨1,rfl,(),()⟩
 ·exact ⟨3,rfl,(),()⟩
 ·exact ⟨7,rfl,(),()⟩
theorem Ek {v:Int}(a:0<=v) (b:v<2):∃n,atI [V.int 2,V.int 9] v=some (V.int n)/\0<n/\n<=9:=by
 have h:v=0\/v=1:=()
 rcases h with rfl | rfl
 ·exact ⟨2,rfl,(),()⟩
 ·exact ⟨9,rfl,(),()⟩
theorem Jx (L:xO rs) (h:1<=rs.length):1<=(jw rs).length:=by
 have:(rs.length-1)∈jw rs:=by
  refine List.mem_filter.mpr ⟨List.mem_range.mpr (),?_⟩
  unfold jZ
  rw [decide_eq_false]
  ·rfl
  ·intro z
   have:=Zy L z
   right
 exact ik this
inductive spScene  (vs:List V) (H:Hp) (Q:VK) (z_3:XK):Prop
 | mk (L b:Addr) (_:vs=[.ref b]) (_:qc L H b) (_:∀sd H' c,qc L H' b->Ext b H H'->ScAt H' sd c->ScOk b c->Q (.ref sd) H')
theorem xv:FnScope ["_law_box_here","_law_reaches_here","_law_scene_here","_law_turn","_law_lane"] ["_law_box_here"] (j8 zw):=by walk_at "s"
theorem VY (nb:Nb2 mg) (j:Cal P w K mg base 2 "_law_take" ["_law_box_here","_law_size"] spTakeL) (Y:Cal P w K mg base 4 "_law_reaches" ["_law_box_here"] spReachesL) (ac:Cal P w K mg base 4 "_law_round" ["_law_box_here"] spRoundMade) (ab:Cal P w K mg base 1 "_law_ground" ["_law_reaches_here","_law_road"] (spGround K)) (ae:Cal P w K mg base 1 "_law_roads" ["_law_reaches_here"] (spRoadsL K)) (G:Cal P w K mg base 3 "_law_year" ["_law_box_here"] spYear) (U:Cal P w K mg base 3 "_law_weather" ["_law_box_here"] spWeather)
  (F:Fun K "_law_scene" "_law_scene" zw f fd):FnOk P w K mg base CX0 5 f fd ["_law_box_here"] spScene:=by
 refine F.ok xv ↥27 (λeh A outer s H vs Q E m h=>?_)
 ·obtain ⟨L,b,rfl,_⟩:=h
  rfl
 ·obtain ⟨L,b,rfl,B,k⟩:=h
  refine ⟨_,(j4 (zS (i:=1) xv.nd rfl (dQ rfl) (je Y (m.mono ⋯) rfl ↥53))
   (j4 (jq 2 xv.nd (UF (kL jt (pv 1) (kL jt (je ac (m.mono ⋯) rfl ↥53) (kL jt yC Ur))) rfl rfl (λz=>by cases z) ⋯))
   (j4 (zN (jR m) (pv 2) jt (qd (osc:=(j8 zw)) (ON:=["_law_box_here","_law_reaches_here","_law_scene_here","_law_turn","_law_lane"]) (N:=["_law_road","_law_reaches_here"]) (own:=1) (caps:=[1]) ⟨rfl,∅,∅,∅,rfl,∅⟩ rfl rfl rfl (jW K (je ae (m.mono ⋯) rfl ↥51)) (λ_ _ _ _ _=>(jb (i:=0) (show bg (["_law_road","_law_reaches_here"]:List Str) by decide +kernel) rfl (aO rfl))) ↥33 (λ_ _ _ _ _=>(je ab (m.mono ⋯) rfl (j0 (pv 1) ↥53)))) rfl)
   (zO (zN (jR m) (pv 2) jt (qd (osc:=(j8 zw)) (ON:=["_law_box_here","_law_reaches_here","_law_scene_here","_law_turn","_law_lane"]) (N:=["_law_ground_here"]) (own:=1) (caps:=[]) ⟨rfl,∅,∅,∅,rfl,∅⟩ rfl rfl rfl (jW K ↥149) (λ_ _ _ _ _=>(jb (i:=0) (show bg (["_law_ground_here"]:List Str) by decide +kernel) rfl (aO rfl))) ↥33 (λ_ _ _ _ _=>yC)) rfl)
   (zO (qy aV rfl (qi rfl nb.b_range (j0 (je j (m.mono ⋯) rfl (j0 (pv 0) (j0 (jr (jf K) (jD (j0 j5 (j0 j5 (j0 j5 j2)))) (je j (m.mono ⋯) rfl ↥15) (λ_ _=>rfl)) j2))) j2)) (jb (i:=3) xv.nd rfl (aO rfl)) (j9 (zN (jR m) ↥149 (je G (m.mono ⋯) rfl ↥53) (je U (m.mono ⋯) rfl ↥53) rfl)))
   (j4 (qy aV rfl (qi rfl nb.b_range (j0 (je j (m.mono ⋯) rfl (j0 (pv 0) (j0 (jr (jf K) (jD (j0 j5 (j0 j5 (j0 j5 j2)))) (je j (m.mono ⋯) rfl ↥15) (λ_ _=>rfl)) j2))) j2)) (jb (i:=3) xv.nd rfl (aO rfl)) (j4 (jq 4 xv.nd (je j (m.mono ⋯) rfl (j0 (pv 0) (j0 (jd (jg K) rfl nb.b_len aP (j0 ↥149 j2)) j2))))
   (j9 (zN (jR m) (jr (jf K) ↥149 (pv 4) (λ_ _=>rfl)) (je G (m.mono ⋯) rfl ↥53) (jk jO j5 (je j (m.mono ⋯) rfl (j0 (pv 0) (j0 (jr (jf K) (jD (j0 j5 (j0 j5 j2))) (je j (m.mono ⋯) rfl ↥15) (λ_ _=>rfl)) j2)))) rfl))))
   (j9 (ji (pv 2))))))))),?_⟩
  walk_at "r"
  refine ⟨L,b,rfl,B,λp H1 xs rs B1 X1 hp b0 r1 g1 l1 l8=>?_⟩
  have pb:p≠b:=B.ne hp
  walk_at "r"
  intro sd C
  have al:sd≠b:=B1.ne C
  have a3:H sd=none:=X1.free C al
  walk_at "r"
  have Ba:qc L (upd H1 sd (.dK [])) b:=B1.put al (B1.neL C)
  refine ⟨L,b,rfl,Ba,λq Hb ys ts Bb Xb hq bv bm a6 dd=>?_⟩
  have qb:q≠b:=Ba.ne hq
  have ct:q≠sd:=λz=>by rw [z,j6] at hq;cases hq
  have am:Hb sd=some (.dK []):=Xb _ _ j6 al
  have pB:Hb p=some (.lst xs):=Xb _ _ (by rw [j7 (j1 b0 C)];exact b0) pb
  have rB:qo Hb xs rs:=(r1.keep (jp.same (jm.new C))).keep (zc Ba Xb)
  have XB:Ext b H Hb:=(X1.trans (Ext.new C)).trans Xb
  walk_at "r"
  intro g as
  have cn:g≠b:=Bb.ne as
  have cr:H g=none:=XB.free as cn
  have ap:g≠sd:=(j1 am as).symm
  walk_at "r"
  refine ⟨by rw [j7 ap.symm];exact am,[↥30,↥57,(.inr "single",.ref g)],rfl,by show 3<=15;decide,?_⟩
  have sC:jm Hb (upd Hb g (.dK [])):=jm.new as
  have nD:∀{a:Addr} {o:HO},Hb a=some o->a≠sd->↥6 a=some o:=λh n=>by rw [j7 n];exact sC _ _ h
  have dD: ↥6 sd=some (.dK (xy [] [↥30,↥57,(.inr "single",.ref g)])):=j6
  have pD:=nD pB (jo pB am ↥4)
  have rD:qo ↥6 xs rs:=rB.keep λ_ _ h=>nD h (jo h am ↥4)
  have qD:=nD bv ct
  have bq:jN ↥6 ys ts:=bm.imp λ_ _ h=>nD h (jo h am ↥4)
  have bl: ↥6 g=some (.dK []):=by rw [j7 ap];exact j6
  have BD:qc L ↥6 b:=(Bb.same sC).put al (B1.neL C)
  have XD:Ext b H ↥6:=λc o h n=>nD (XB c o h n) (j1 h a3)
  clear nD sC as am pB rB XB bv bm Bb Xb hq Ba
  generalize ↥6=Hd at *
  have Ld:=qx g1.ok
  walk_at "r"
  refine ⟨p,xs,rs,rfl,pD,rD,Ld,(),λl He bs ws D J w1 hR s1=>?_⟩
  walk_at "r"
  refine ⟨⟨_,SqL.of J⟩,λgl M=>?_⟩
  have a8:bs.length=ws.length:=aM w1
  have dc:ws.length<=6:=by rw [hR.length];exact g1.heads
  have a9:∀r∈rs,r.2.length<=100:=λr m=>aI (ZQ g1 r m) ⋯
  have BE:=BD.same s1
  have dv:gl≠b:=BE.ne M
  refine qv (K:=K) (a:=l) (xs:=bs) (acc:=gl) (λi σ H2=>∃(x:Option V) (zs:List V),σ=[x,some (.ref p)]/\H2 gl=some (.lst zs)/\zs.length=i/\cU (λv (w:List Int)=>∃a,v=V.ref a/\H2 a=some (.lst (w.map V.int))/\He a=none/\a≠gl) zs ((ws.take i).map (ja rs))/\Ext gl He H2) ?_ ?_ ?_ ?_
  ·exact ⟨none,[],rfl,j6,rfl,.nil,Ext.put⟩
  ·rintro i σ H2 hi ⟨x,zs,rfl,h2,Z,r2,e2⟩
   exact SqL.of (e2 _ _ J (j1 J M))
  ·rintro i v σ H2 hv ⟨x,zs,rfl,h2,Z,r2,e2⟩
   obtain ⟨wy,a5,a,rfl,b1⟩:=Paired.get w1 hv
   have hi:=(List.getElem?_eq_some_iff.mp a5).1
   obtain ⟨x',a4,b4⟩:=hR.mem (aA a5)
   have dt:=e2 _ _ b1 (j1 b1 M)
   have bu:=s1 _ _ pD
   have ed:=ut Ld x' (xS a4)
   have:=xS a4
   walk_at "r"
   refine ⟨p,a,xs,rs,wy,rfl,e2 _ _ bu (j1 bu M),(rD.keep (jp.same s1)).keep (jp.new e2 M),a9,dt,by rw [b4];exact zq Ld x' (xS a4),by rw [b4];right,λt H3 ht dk s3=>?_⟩
   have ta:t≠gl:=(j1 h2 ht).symm
   refine ⟨zs,s3 _ _ h2,jj (),some (.ref a),zs++[.ref t],rfl,j6,by rw [ao,Z];rfl,?_,λc o hc n=>by rw [j7 n];exact s3 _ _ (e2 c o hc n)⟩
   rw [qT (ja rs) ws i wy a5]
   exact bV (Paired.mapP r2 λv wy ⟨a,e,I,h0,na⟩=>⟨a,e,by rw [j7 na];exact s3 _ _ I,h0,na⟩) ⟨t,rfl,by rw [j7 ta];exact dk,e2.free ht ta,ta⟩
  rintro σ H2 ⟨x,zs,rfl,h2,Z,r2,e2⟩
  rw [a8,aY] at r2
  have b3:vg H2 zs (ws.map (ja rs)):=Paired.mapP r2 λv wy ⟨a,e,I,h0,na⟩=>⟨a,e,I⟩
  have zb:V.ref b∉zs:=λz=>by
   obtain ⟨_,a,e,_,h0,_⟩:=pm r2 _ z
   cases e
   exact absurd rfl (BE.ne h0)
  have s2:jm Hd H2:=λc o hc=>e2 _ _ (s1 _ _ hc) (j1 (s1 _ _ hc) M)
  have eg:Hd gl=none:=s1.free M
  walk_at "r"
  refine ⟨sd,_,rfl,ul.k (k:=.inr "grounds") (s2 _ _ dD) (jj (aI (yk _ _) (by show 0+3<=1000;decide))),?_⟩
  rw [put4]
  have nF:∀{a:Addr} {o:HO},H2 a=some o->(∀kvs,o≠.dK kvs)->(upd H2 sd ↥5) a=some o:=λh n=>by rw [j7 (jo h (s2 _ _ dD) (n _))];exact h
  have dF:(upd H2 sd ↥5) sd=some ↥5:=j6
  have pF:=nF (s2 _ _ pD) ↥1
  have qF:=nF (s2 _ _ qD) ↥1
  have rF:qo (upd H2 sd ↥5) xs rs:=rD.keep λ_ _ h=>nF (s2 _ _ h) ↥1
  have bn:jN (upd H2 sd ↥5) ys ts:=bq.imp λ_ _ h=>nF (s2 _ _ h) ↥1
  have gF:=nF h2 ↥1
  have b2:vg (upd H2 sd ↥5) zs (ws.map (ja rs)):=Paired.mapP b3 λv wy ⟨a,e,I⟩=>⟨a,e,nF I ↥1⟩
  have a2:(upd H2 sd ↥5) g=some (.dK []):=by rw [j7 ap];exact s2 _ _ bl
  have BF:qc L (upd H2 sd ↥5) b:=(BD.same s2).put al (B1.neL C)
  have XF:Ext b H (upd H2 sd ↥5):=λc o h n=>by rw [j7 (j1 h a3)];exact s2 _ _ (XD c o h n)
  clear nF b3 s2 h2 r2 e2 BE M s1 w1 J D pD rD qD bq bl BD XD dD a9
  generalize (upd H2 sd ↥5)=Hf at *
  have db:zs.length<=6:=()
  refine ⟨λσ H5=>∃c,σ=[some (.ref b),some (.ref p),some (.ref sd),none,none]/\ScB L b H H5 sd c/\c.sk=[]/\∀x∈c.lds,x.2=[],?_,?_⟩
  ·walk_at "r"
   refine ⟨sd,.ref gl,rfl,by rw [<- Xl p q g gl];exact qU.k (k:=.inr "grounds") dF,?_⟩
   walk_at "r"
   refine ⟨⟨_,SqL.of gF⟩,λle J=>?_⟩
   have c1:le≠b:=BF.ne J
   refine qv (K:=K) (a:=gl) (xs:=zs) (acc:=le) (λi σ He=>∃(x:Option V) (lds:List ↥115),σ=[x]/\He le=some (.lst (lds.map λx=>V.ref x.1))/\lds.length=i/\(∀x∈lds,He x.1=some (.dK [])/\x.2=[]/\Hf x.1=none/\x.1≠le)/\(lds.map (·.1)).Nodup/\Ext le Hf He) ?_ ?_ ?_ ?_
   ·exact ⟨none,[],rfl,j6,rfl,(λx z=>by cases z),fC,Ext.put⟩
   ·rintro i σ He hi ⟨x,lds,rfl,he,D,R,nn,e⟩
    exact SqL.of (e _ _ gF (j1 gF J))
   ·rintro i v σ He hv ⟨x,lds,rfl,he,D,R,nn,e⟩
    have hi:=(List.getElem?_eq_some_iff.mp hv).1
    walk_at "r"
    intro d aL
    have dl:d≠le:=(j1 he aL).symm
    refine ⟨_,(by rw [j7 (cx dl)];exact he),by rw [ah];exact jj (),some v,lds++[(d,[])],rfl,(by rw [j6,aE];rfl),(by rw [ao,D];rfl),λy hy=>?_,?_,λc o hc n=>?_⟩
    ·rcases List.mem_append.mp hy with z | z
     ·obtain ⟨h1,h2,h3,h4⟩:=R y z
      exact ⟨by rw [j7 h4,j7 (j1 h1 aL)];exact h1,h2,h3,h4⟩
     ·obtain rfl:y=(d,[]):=by simpa using z
      exact ⟨by rw [j7 dl];exact j6,rfl,e.free aL dl,dl⟩
    ·rw [aE]
     refine k9 nn λz=>?_
     obtain ⟨y,hy,ey⟩:=List.mem_map.mp z
     have:=(R y hy).1
     rw [ey,aL] at this
     cases this
    ·rw [j7 n,j7 (j1 (e c o hc n) aL)]
     exact e c o hc n
   ·rintro σ He ⟨x,lds,rfl,he,D,R,nn,e⟩
    have T:jm Hf He:=λc o h=>e c o h (j1 h J)
    walk_at "r"
    refine ⟨sd,_,rfl,ul.k (k:=.inr "leaps") (T _ _ dF) (by show 4<sizeLine;decide),?_⟩
    rw [put5]
    have nG:∀{a:Addr} {o:HO},He a=some o->(∀kvs,o≠.dK kvs)->(upd He sd (.dK (scK p q g gl le))) a=some o:=λh n=>by rw [j7 (jo h (T _ _ dF) (n _))];exact h
    have lG:∀x∈lds,(upd He sd (.dK (scK p q g gl le))) x.1=some (.dK (x.2.map kvI)):=λx u=>by
     obtain ⟨h1,h2,h3,h4⟩:=R x u
     rw [j7 (j1 dF h3).symm,h2]
     exact h1
    have bk:(upd He sd (.dK (scK p q g gl le))) g=some (.dK []):=by rw [j7 ap];exact T _ _ a2
    refine ⟨⟨p,q,g,gl,le,xs,ys,zs,rs,ts,ws,[],lds⟩,rfl,⟨⟨j6,nG (T _ _ pF) ↥1,rF.keep λ_ _ h=>nG (T _ _ h) ↥1,nG (T _ _ qF) ↥1,bn.imp λ_ _ h=>nG (T _ _ h) ↥1,nG (T _ _ gF) ↥1,Paired.mapP b2 λv wy ⟨a,e,I⟩=>⟨a,e,nG (T _ _ I) ↥1⟩,nG he ↥1,.inl bk,(λz Z=>by cases Z),λx u=>.inl (lG x u)⟩,
     ⟨g1,l1,l8,a6.1,a6.2,dd,hR,D.trans (Z.trans a8),nn,λx u=>(j1 a2 (R x u).2.2.1).symm,pb,qb,dv,c1,zb,fC,(λz Z=>by cases Z),aG _,(λx u=>by rw [(R x u).2.1];exact fC),(λx u=>by rw [(R x u).2.1];intro z Z;cases Z),(λx u=>by rw [(R x u).2.1];exact aG _)⟩,bk,lG,(BF.same T).put al (B1.neL C),λc o h n=>?_,cr,λx u=>?_⟩,rfl,λx u=>(R x u).2.1⟩
    ·rw [j7 (j1 h a3)]
     exact T _ _ (XF c o h n)
    ·exact XF.free (R x u).2.2.1 (BF.ne (R x u).2.2.1)
  rintro σ H5 ⟨c,rfl,S5,k5,l5⟩
  clear dF pF qF rF bn gF b2 a2 BF XF zb a8 dc Z db
  refine ⟨λσ H6=>∃(x:Option V) (c:ScN),σ=[some (.ref b),some (.ref p),some (.ref sd),x,none]/\ScB L b H H6 sd c/\∀x∈c.lds,x.2=[],?_,?_⟩
  ·walk_at "r"
   refine ⟨by show 3<=sizeLine;decide,λl6 H6 ds ci s6=>?_⟩
   have S6:=S5.same s6
   have c4:l6≠b:=S5.B.ne ds
   walk_at "r"
   refine ⟨L,b,_,rfl,S6.B,⟨⋯,⋯⟩,λv7 H7 p7 q7 B7 X7=>?_⟩
   have S7:=S6.take B7 X7
   obtain ⟨n,hn,n0,n1⟩:=W0 p7 q7
   refine ⟨_,_,_,_,rfl,rfl,SqL.of (X7 _ _ ci c4),hn,?_⟩
   walk_at "r"
   refine ⟨L,b,_,rfl,S7.B,⟨n0,()⟩,λv8 H8 p8 q8 B8 X8=>?_⟩
   have S8:=S7.take B8 X8
   walk_at "r"
   refine ⟨(),(),?_⟩
   refine qK (λi σ H2=>∃(x:Option V) (c:ScN),σ=[some (.ref b),some (.ref p),some (.ref sd),x,none]/\ScB L b H H2 sd c/\c.sk.length<=i/\∀x∈c.lds,x.2=[]) ?_ ?_ ?_
   ·exact ⟨none,c,rfl,S8,by rw [k5];exact ar _,l5⟩
   ·rintro i σ H2 hi ⟨x,c,rfl,S,hk,D⟩
    walk_at "r"
    refine ⟨L,b,rfl,S.B,λt H9 r B9 X9 ht hg=>?_⟩
    have S9:=S.take B9 X9
    walk_at "r"
    refine ⟨sd,.ref c.sg,rfl,by rw [<- yw c.p c.q c.sg c.gl c.ll];exact qU.k (k:=.inr "single") S9.S.sd,?_⟩
    walk_at "r"
    refine ⟨L,b,rfl,S9.B,λy dT y0 y1 bd a0=>?_⟩
    have an:=S9.take bd a0
    refine ⟨c.sg,_,rfl,ul.k (k:=.inl y) an.r1 (by rw [ah];exact jj (by have:=an.O.k3;right)),?_⟩
    exact ⟨_,{ c with sk:=zh c.sk y t },rfl,an.single y0 y1 (a0 _ _ ht (S9.B.ne_tup ht)) hg (),aI (uM _ _ _) (),D⟩
   ·rintro σ H2 ⟨x,c,rfl,S,hk,D⟩
    exact ⟨x,c,rfl,S,D⟩
  clear S5 k5 l5
  rintro σ H6 ⟨x,c,rfl,S6,l6⟩
  walk_at "r"
  refine ⟨by show 3<=sizeLine;decide,λl7 H7 dp ch s7=>?_⟩
  have S7:=S6.same s7
  have c2:l7≠b:=S6.B.ne dp
  walk_at "r"
  refine ⟨L,b,_,rfl,S7.B,⟨⋯,⋯⟩,λv8 H8 p8 q8 B8 X8=>?_⟩
  have S8:=S7.take B8 X8
  obtain ⟨n,hn,n0,n1⟩:=UL p8 q8
  refine ⟨_,_,_,_,rfl,rfl,SqL.of (X8 _ _ ch c2),hn,?_⟩
  walk_at "r"
  refine ⟨L,b,_,rfl,S8.B,⟨n0,()⟩,λv9 H9 p9 q9 B9 X9=>?_⟩
  have S9:=S8.take B9 X9
  walk_at "r"
  refine ⟨(),(),?_⟩
  refine qK (λi σ H2=>∃(x y:Option V) (c:ScN),σ=[some (.ref b),some (.ref p),some (.ref sd),x,y]/\ScB L b H H2 sd c/\∀x∈c.lds,x.2.length<=i) ?_ ?_ ?_
  ·exact ⟨x,none,c,rfl,S9,λx u=>by rw [l6 x u];exact ar _⟩
  ·rintro i σ H2 hi ⟨x,y',c,rfl,S,D⟩
   have ec:1<=c.ws.length:=by
    rw [S.O.ro.length]
    exact Jx (qx S.O.gr.ok) S.O.l1
   have ea:c.zs.length=c.ws.length:=(aM S.S.gi).trans (ah _)
   have eb:c.ws.length<=6:=by rw [S.O.ro.length];exact S.O.gr.heads
   walk_at "r"
   refine ⟨sd,.ref c.gl,rfl,by rw [<- qY c.p c.q c.sg c.gl c.ll];exact qU.k (k:=.inr "grounds") S.S.sd,?_⟩
   walk_at "r"
   refine ⟨c.gl,_,rfl,.inl (SqL.of S.S.gl),?_⟩
   walk_at "r"
   refine ⟨L,b,_,rfl,S.B,⟨(),()⟩,λln dT cL d7 bd a0=>?_⟩
   have an:=S.take bd a0
   walk_at "r"
   refine ⟨by show 2<=sizeLine;decide,λda el cl bi cs=>?_⟩
   have cd:=an.same cs
   have ce:da≠b:=an.B.ne cl
   walk_at "r"
   refine ⟨L,b,_,rfl,cd.B,⟨⋯,⋯⟩,λd2 ek cy cv d1 b5=>?_⟩
   have cb:=cd.take d1 b5
   obtain ⟨n,hn,n0,n1⟩:=Ek cy cv
   refine ⟨_,_,_,_,rfl,rfl,SqL.of (b5 _ _ bi ce),hn,?_⟩
   walk_at "r"
   refine ⟨L,b,_,rfl,cb.B,⟨n0,()⟩,λcm ej d4 d3 d0 dy=>?_⟩
   have a1:=cb.take d0 dy
   walk_at "r"
   have dn:ln.toNat<c.lds.length:=by rw [S.O.ldl];right
   obtain ⟨⟨a,ns⟩,I⟩:∃z,c.lds[ln.toNat]? = some z:=⟨_,af dn⟩
   refine ⟨sd,.ref c.ll,rfl,by rw [<- gW c.p c.q c.sg c.gl c.ll];exact qU.k (k:=.inr "leaps") a1.S.sd,?_⟩
   walk_at "r"
   refine ⟨_,_,_,_,rfl,rfl,SqL.of a1.S.ll,qI cL (v:=V.ref a) (by rw [ay,I];rfl),?_⟩
   walk_at "r"
   refine ⟨L,b,rfl,a1.B,λy ei y0 y1 dV dx=>?_⟩
   have b6:=a1.take dV dx
   have a7:=D _ (aA I)
   refine ⟨a,_,rfl,ul.k (k:=.inl y) (b6.r2 _ (aA I)) (by rw [ah];exact jj (by have:ns.length<=i:=a7;right)),?_⟩
   have a7:ns.length<=i:=a7
   refine ⟨_,_,{ c with lds:=c.lds.set ln.toNat (a,zh ns y (1+cm)) },rfl,b6.leap I y0 y1 () () (),λx u=>?_⟩
   rcases ux S.O.nd I u with z | ⟨z,_⟩
   ·subst z
    exact aI (uM _ _ _) ()
   ·exact lW (D x z)
  ·rintro σ H2 ⟨x,y',c,rfl,S,D⟩
   walk_at "r"
   exact k sd H2 c S.B S.X S.S S.O
theorem IceNew.made {p dx:Addr}{H:Hp}(j:H p=none) (G:H dx=none) (I:IceNew C Pt (upd (upd H dx o) p o') H' p g):IceNew C Pt H H' p g:=by
 have s:jm H (upd (upd H dx o) p o'):=λc u h=>by rw [j7 (j1 h j),j7 (j1 h G)];exact h
 exact ⟨I.at_,λc u h n m=>I.keep c u (s c u h) n m,s.free I.va,s.free I.cy,s.free I.sl,s.free I.ye,s.free I.le,λa z=>s.free (I.zs a z),I.kvs,λx b=>⟨s.free (I.lds x b).1,(I.lds x b).2⟩,I.ll,I.nd,I.ny,I.sl2⟩
structure IceFr (H:Hp) (p:Addr) (g:IceG):Prop where
 p:H p=none
 va:H g.va=none
 cy:H g.cy=none
 sl:H g.sl=none
 ye:H g.ye=none
 le:H g.le=none
 zs:∀a,V.ref a∈g.zs->H a=none
 lds:∀x∈g.lds,H x.1=none
theorem IceAt.stay {p:Addr}{j:Hp}(I:IceAt C H2 p g) (F:IceFr H p g) (f:∀a o,H2 a=some o->H a=none->j a=some o) (t:jp H2 j):IceAt C j p g :=
 ⟨f _ _ I.ob F.p,f _ _ I.va F.va,I.rs.keep t,f _ _ I.cy F.cy,I.rows.imp λ_ _ q=>t _ _ q,f _ _ I.sl F.sl,pmM I.slopes λv d w ⟨a,c,q⟩=>⟨a,c,f _ _ q (F.zs a (c ▸ d))⟩,f _ _ I.ye F.ye,f _ _ I.le F.le,λx b=>f _ _ (I.lds x b) (F.lds x b)⟩
theorem Fr3.ext {N:Addr->Prop}(f:Fr3 N M H H2) (e:Ext a H2 H3) (j:H a=none):Fr3 N M H H3:=λc o h n=>by
 have ca:c≠a:=j1 h j
 rcases f c o h n with q | ⟨m,b,kvs,d,q⟩
 ·exact .inl (e _ _ q ca)
 ·exact .inr ⟨m,b,kvs,d,e _ _ q ca⟩
theorem Fr3.same {N:Addr->Prop}(f:Fr3 N M H H2) (e:jm H2 H3):Fr3 N M H H3:=λc o h n=>by
 rcases f c o h n with q | ⟨m,a,kvs,b,q⟩
 ·exact .inl (e _ _ q)
 ·exact .inr ⟨m,a,kvs,b,e _ _ q⟩
theorem Fr3.frz {N:Addr->Prop}{j:Obj}{kvs:List (Key×V)}(f:Fr3 N M H H2) (h:H2 a=some (.dK kvs)) (m:M a):Fr3 N M H (upd H2 a (.frz j (.dK kvs))):=λc o b n=>by
 by_cases e:c=a
 ·subst e
  rcases f c o b n with q | ⟨_,g,d,i,q⟩
  ·rw [h] at q
   cases q
   exact .inr ⟨m,j,kvs,rfl,j6⟩
  ·rw [h] at q
   cases q
 ·rw [j7 e]
  exact f c o b n
theorem V1 {H:Hp}(h:H a=some (.dK kvs)):jp H (upd H a (.frz j (.dK kvs))):=λc xs q=>by rw [j7 (jo q h ↥4)];exact q
theorem Wh (T:qV H Pt) (h:H a=some (.dK kvs)):qV (upd H a (.frz j (.dK kvs))) Pt:=by
 rcases T with q | ⟨c,q,b⟩
 ·exact .inl (by rw [j7 (jo q h ↥4)];exact q)
 ·exact .inr ⟨c,by rw [j7 (jo q h ↥4)];exact q,by rw [j7 (jo b h ↥4)];exact b⟩
theorem QO (T:qV H Pt) (h:H a=some (.dK kvs)) (e:Ext a H H'):qV H' Pt:=by
 rcases T with q | ⟨c,q,b⟩
 ·exact .inl (e _ _ q (jo q h ↥4))
 ·exact .inr ⟨c,e _ _ q (jo q h ↥4),e _ _ b (jo b h ↥4)⟩
theorem WP {ns:List (Int×Addr)}{i:Nat}(h:(ns.map kvA)[i]? = some q):∃z,ns[i]? = some z/\q=kvA z:=by
 rw [ay] at h
 cases e:ns[i]? with
 | none=>rw [e] at h;cases h
 | some z=>rw [e] at h;cases h;exact ⟨z,rfl,rfl⟩
theorem vF:∀{ns:List (Int×Addr)},(↥108).Nodup->∀{z:Int×Addr},z∈ns->qh (ns.map kvA) (.inl z.1)=some (.ref z.2)
 | [],_,z,h=>by cases h
 | q::r,a,z,h=>by
  rw [aS] at a
  obtain ⟨h1,h2⟩:=List.nodup_cons.mp a
  rw [aS]
  rcases List.mem_cons.mp h with e | e
  ·subst e
   exact xA
  ·have ne:¬q.1=z.1:=λw=>h1 (by rw [w];exact bN e)
   show qh ((.inl q.1,.ref q.2)::r.map kvA) (.inl z.1)=_
   rw [jy (λw=>ne (eC w))]
   exact vF h2 e
theorem VW {α:Type}{l:List (Int×α)}{y:Int}{a:α}(h:y∉l.map (·.1)):zh l y a=l++[(y,a)]:=by
 unfold zh
 rw [if_neg]
 intro z
 obtain ⟨u,b,e⟩:=List.any_eq_true.mp z
 exact h (of_decide_eq_true e ▸ bN b)
theorem ZF {α:Type}{l:List (Int×α)}(G:(l.map (·.1)).Nodup) {i:Nat}{z:Int×α}(h:l[i]? = some z):z.1∉(l.take i).map (·.1):=λm=>by
 obtain ⟨hi,e⟩:=List.getElem?_eq_some_iff.mp h
 obtain ⟨u,b,d⟩:=List.mem_map.mp m
 obtain ⟨j,c,a⟩:=List.mem_iff_getElem.mp b
 rw [aN] at c
 rw [lU] at a
 have h1:(l.map (·.1))[j]'(by rw [ah];right)=(l.map (·.1))[i]'(by rw [ah];exact hi):=by rw [cX,cX,a,e,d]
 exact absurd h1 (List.pairwise_iff_getElem.mp G j i _ _ ())
theorem QC {α:Type}{f:α->V}{l:List (Int×α)}(j:(l.map (·.1)).Nodup) {i:Nat}{z:Int×α}(h:l[i]? = some z):qQ ((l.take i).map λz=>↥63) (.inl z.1) (f z.2)=(l.take (i+1)).map λz=>↥63:=by
 rw [gk f,VW (ZF j h),bI,h]
 rfl
structure LdN (g0:List ↥58) (cl:List ↥115) (i n:Nat) (lds:List ↥58):Prop where
 fst:lds.map (·.1)=g0.map (·.1)
 at_:∀j x,lds[j]? = some x->∃y,cl[j]? = some y/\x.2=(if j<i then y.2 else if j=i then y.2.take n else []).map kvI
theorem LdN.len {j:List ↥58}{G:List ↥115}{i n:Nat}(h:LdN z G i n j):j.length=z.length:=by
 have:=congrArg fm h.fst
 rwa [ah,ah] at this
theorem LdN.next {lds:List ↥58}{z:List ↥115}{i n:Nat}(h:LdN U z i n lds) (G:z[i]? = some y) (I:y.2.length<=n):LdN U z (i+1) 0 lds:=⟨h.fst,λj x d=>by
 obtain ⟨u,c,e⟩:=h.at_ j x d
 refine ⟨u,c,?_⟩
 rw [e]
 by_cases a:j<i
 ·rw [if_pos a,if_pos ()]
 ·rw [if_neg a]
  by_cases b:j=i
  ·subst b
   rw [G] at c
   cases c
   rw [if_pos rfl,if_pos (),bT I]
  ·rw [if_neg b,if_neg ()]
   split
   ·rfl
   ·rfl⟩
theorem LdN.put {G:List ↥58}{U:List ↥115}{i n:Nat}{a:Addr}{kvs:List (Key×V)}(h:LdN g0 U i n G) (Y:U[i]? = some y) (nd:(y.2.map (·.1)).Nodup) (hz:y.2[n]? = some z) (I:G[i]? = some (a,kvs)):LdN g0 U i (n+1) (vA G i (qQ kvs (.inl z.1) (.int z.2))):=by
 obtain ⟨u,g,e⟩:=h.at_ i _ I
 rw [Y] at g
 cases g
 rw [if_neg (cK i),if_pos rfl] at e
 have k:qQ kvs (.inl z.1) (.int z.2)=(y.2.take (n+1)).map kvI:=by
  rw [show kvs=(y.2.take n).map kvI from e]
  exact QC (f:=V.int) nd hz
 refine ⟨?_,λj x d=>?_⟩
 ·rw [<- h.fst]
  unfold vA
  rw [aq,I]
  exact ZR I
 ·unfold vA at d
  rw [ir] at d
  by_cases b:i=j
  ·subst b
   rw [if_pos rfl,if_pos (List.getElem?_eq_some_iff.mp I).1] at d
   cases d
   exact ⟨y,Y,by rw [if_neg (cK i),if_pos rfl];exact k⟩
  ·rw [if_neg b] at d
   obtain ⟨u,g,e⟩:=h.at_ j x d
   refine ⟨u,g,?_⟩
   rw [e]
   by_cases c:j<i
   ·rw [if_pos c,if_pos c]
   ·rw [if_neg c,if_neg c,if_neg (λq=>b q.symm),if_neg (λq=>b q.symm)]
theorem ScAt.fr {Pt sd:Addr}{H H':Hp}{c:ScN}(S:ScAt H sd c) (T:qV H Pt) (f:Fr3 (λa=>a=Pt) c.D H H'):ScAt H' sd c:=by
 obtain ⟨ps,g⟩:=T.ne
 have n:∀{a:Addr} {o:HO},H a=some o->(∀ps,o≠.tbl ps)->¬a=Pt:=λh q=>jo h g (q _)
 have b:∀{a:Addr} {kvs:List (Key×V)},Rd H a (.dK kvs)->¬a=Pt:=λh=>by
  rcases h with h | ⟨o,h⟩
  ·exact n h ↥1
  ·exact n h ↥1
 exact S.keep f (λa xs h=>n h ↥1) (n S.sd ↥1) S.nD (n S.p ↥1) (n S.q ↥1) (n S.gl ↥1) (n S.ll ↥1) (λa h=>by
  obtain ⟨w,i,e,q⟩:=pm S.gi _ h
  cases e
  exact n q ↥1) (b S.sg) λx d=>b (S.ld x d)
theorem ScAt.inD {sd:Addr}(S:ScAt H sd c) (h:c.D a):∃o,H a=some o:=by
 have r:∃kvs,Rd H a (.dK kvs):=by
  rcases h with h | ⟨x,b,e⟩
  ·exact ⟨_,h ▸ S.sg⟩
  ·exact ⟨_,e ▸ S.ld x b⟩
 obtain ⟨_,r | ⟨o,r⟩⟩:=r
 ·exact ⟨_,r⟩
 ·exact ⟨_,r⟩
theorem Vq (f:Fz a kvs o H H4):jp H H4:=λc xs q=>by
 rcases f.2 with rfl | ⟨h,rfl⟩
 ·exact q
 ·exact V1 h c xs q
theorem En (f:Fz a kvs o H2 H4) (r:Fr3 N M H H2) (m:M a):Fr3 N M H H4:=by
 rcases f.2 with rfl | ⟨h,rfl⟩
 ·exact r
 ·exact r.frz h m
theorem GJ (f:Fz a kvs o H j) (T:qV H Pt):qV j Pt:=by
 rcases f.2 with rfl | ⟨h,rfl⟩
 ·exact T
 ·exact Wh T h
structure MdI (C Pt p:Addr) (c:ScN) (H H2:Hp) (g:IceG):Prop where
 I:IceAt C H2 p g
 F:IceFr H p g
 R:Fr3 (λa=>a=Pt) c.D H H2
 T:qV H2 Pt
theorem MdI.frz {p j:Addr}{kvs:List (Key×V)}(M:MdI C Pt p c H H2 g) (S:ScAt H j c) (h:c.D a) (f:Fz a kvs o H2 z):MdI C Pt p c H z g:=by
 obtain ⟨_,e⟩:=S.inD h
 exact ⟨M.I.stay M.F (λb u d n=>f.at d (j1 e n).symm) (Vq f),M.F,En f M.R h,GJ f M.T⟩
theorem MdI.same {p:Addr}(M:MdI C Pt p c H H2 g) (s:jm H2 j):MdI C Pt p c H j g:=⟨M.I.same s,M.F,M.R.same s,M.T.same s⟩
theorem LdN.mem {z j:List ↥58}{I:List ↥115}{i n:Nat}(h:LdN z I i n j) {x:Addr×List (Key×V)}(G:x∈j):∃y∈z,y.1=x.1:=by
 have:x.1∈z.map (·.1):=h.fst ▸ bN G
 obtain ⟨y,a,e⟩:=List.mem_map.mp this
 exact ⟨y,a,e⟩
inductive spMade (C Pt:Addr) (vs:List V) (H:Hp) (Q:VK) (z_3:XK):Prop
 | mk (sd b:Addr) (c:ScN) (_:vs=[.ref sd]) (_:ScAt H sd c) (_:ScOk b c) (_:qV H Pt) (_:∀p H' g,IceAt C H' p g->IceFr H p g->Fr3 (λa=>a=Pt) c.D H H'->qV H' Pt->g.rs=c.rs->g.rows=c.ts->g.slopes=c.ws.map (ja c.rs)->g.kvs=c.sk.map kvA->g.lds.length=c.lds.length->(∀(l:Nat) x,g.lds[l]? = some x->∃y,c.lds[l]? = some y/\x.2=y.2.map kvI)->(∀x∈g.lds,x.1≠g.ye)->(g.lds.map (·.1)).Nodup->Q (.ref p) H')
theorem xN:FnScope ["_law_scene_here","_law_ice","_law_year_here","_law_lane","_law_leaps"] ["_law_scene_here"] (j8 uf):=by walk_at "s"
theorem Wn {CR:Addr}(nb:Nb2 mg) (ac:Cls K C) (aL:MakX P w K mg base 8 C "Ice" ["self","reaches","rows"] (spInit C CV CR Pt)) (Y:CalMX P w K mg base 2 C "tell" ["self","year","row"] (spTell C CY CW)) (U:CalMX P w K mg base 2 C "surge" ["self","lane","year","many"] (spSurge C CN CY CS)) (F:Fun K "_law_made" "_law_made" uf f fd):FnOk P w K mg base CX0 10 f fd ["_law_scene_here"] (spMade C Pt):=by
 refine F.ok xN ↥27 (λb0 A outer s H vs Q E J h=>?_)
 ·obtain ⟨N,b,c,rfl,_⟩:=h
  rfl
 ·obtain ⟨N,b,c,rfl,S,O,T,k⟩:=h
  refine ⟨_,(j4 (jq 1 xN.nd (Uu aL (J.mono ⋯) Qp rfl (j0 (qL (qS K) rfl nb.b_list bZ (j0 ↥103 j2)) (j0 (qL (qS K) rfl nb.b_list bZ (j0 ↥103 j2)) j2))))
   (j4 (qy aV rfl (wT ↥103) (jb (i:=2) xN.nd rfl (aO rfl)) (j9 (jV (yr (pv 1) ac Y (J.mono ⋯) Qp (j0 (pv 2) (j0 (jF (jR J) ↥103 (pv 2) (λ_ _=>rfl)) j2))))))
   (j4 (qy aV rfl (Qa K rfl nb.b_enumerate (j0 ↥103 j2)) (qg (n:=2) K rfl (jh (jb (i:=3) xN.nd rfl (aO rfl)) (jh (jb (i:=4) xN.nd rfl (aO rfl)) qa))) (j9 (qy aV rfl (wT (pv 4)) (jb (i:=2) xN.nd rfl (aO rfl)) (j9 (jV (yr (pv 1) ac U (J.mono ⋯) Qp (j0 (pv 3) (j0 (pv 2) (j0 (jF (jR J) (pv 4) (pv 2) (λ_ _=>rfl)) j2)))))))))
   (j9 (ji (pv 1)))))),?_⟩
  walk_at "r"
  refine ⟨N,.ref c.p,rfl,by rw [<- Zw c.p c.q c.sg c.gl c.ll];exact qU.k (k:=.inr "reaches") S.sd,?_⟩
  refine ⟨_,_,rfl,.inl (SqL.of S.p),λl1 H1 bs as s1=>?_⟩
  have S1:=S.same s1
  walk_at "r"
  refine ⟨N,.ref c.q,rfl,by rw [<- Q8 c.p c.q c.sg c.gl c.ll];exact qU.k (k:=.inr "rows") S1.sd,?_⟩
  refine ⟨_,_,rfl,.inl (SqL.of S1.q),λl2 H2 bq ap s2=>?_⟩
  have S2:=S1.same s2
  have G:=s1.trans s2
  walk_at "r"
  intro p dx hp hd bv
  have s3:jm H2 (upd (upd H2 dx (.own p)) p (.ins C dx [])):=λc u h=>by rw [j7 (j1 h hp),j7 (j1 h hd)];exact h
  have S3:=S2.same s3
  have bn:gr c.ts=true:=by
   have:=O.t1
   have:=O.t2
   unfold gr
   rw [decide_eq_true (),O.tg]
   rfl
  have eg:=O.gr.good O.l1 O.l8
  refine ⟨p,dx,l1,l2,c.xs,c.ys,c.rs,c.ts,rfl,j6,s3 _ _ (s2 _ _ as),S3.rv,s3 _ _ ap,S3.r3,λr J=>aI (ZQ O.gr r J) ⋯,aI O.l8 ⋯,aI O.t2 ⋯,(T.same G).same s3,λH4 g _ _ I e1 e2 e3 e4 T4=>?_,(λH' z _ _=>by rw [eg] at z;cases z),(λH' _ z _ _=>by rw [bn] at z;cases z)⟩
  have I:=I.made hp hd
  obtain ⟨ws,hR,ae⟩:=I.sl2
  rw [e1] at hR ae
  obtain rfl:=hR.unique O.ro
  have d:IceFr H p g:=⟨G.free hp,G.free I.va,G.free I.cy,G.free I.sl,G.free I.ye,G.free I.le,λa z=>G.free (I.zs a z),λx B=>G.free (I.lds x B).1⟩
  have M4:MdI C Pt p c H H4 g:=⟨I.at_,d,λa o h n=>.inl (I.keep a o (G _ _ h) (j1 h d.p) n),T4⟩
  have a1:g.lds.length=c.lds.length:=by rw [I.ll,ae,ah,O.ldl]
  have a0:=I.nd
  have al:=I.ny
  have a7:=I.kvs
  have a6:∀x∈g.lds,x.2=[]:=λx B=>(I.lds x B).2
  clear I S3 s3 S2 ap as S1 T4
  refine ⟨rfl,?_⟩
  have S4:=S.fr T M4.R
  walk_at "r"
  refine ⟨N,.ref c.sg,rfl,by rw [<- yw c.p c.q c.sg c.gl c.ll];exact qU.k (k:=.inr "single") S4.sd,?_⟩
  have an:c.D c.sg:=.inl rfl
  refine uY (kvs:=c.sk.map kvA) S4.sg (λo i σ H5=>∃x:Option V,σ=[some (.ref N),some (.ref p),x,none,none]/\H5 c.sg=some (.frz o (.dK (c.sk.map kvA)))/\MdI C Pt p c H H5 { g with kvs:=(c.sk.take i).map kvA }) ?_ ?_ ?_ ?_
  ·intro o H5 f5
   refine ⟨none,rfl,f5.1,?_⟩
   have:=M4.frz S an f5
   have e:g={ g with kvs:=(c.sk.take 0).map kvA }:=by
    show g={ g with kvs:=[] }
    rw [<- a7]
   rw [<- e]
   exact this
  ·rintro o i σ H5 hi ⟨x,rfl,h5,L⟩
   exact h5
  ·rintro o i u σ H5 hq ⟨x,rfl,h5,L⟩
   obtain ⟨z,hz,rfl⟩:=WP hq
   have X:=aA hz
   have hi:i<c.sk.length:=(List.getElem?_eq_some_iff.mp hz).1
   have bm:=O.k3
   have S5:=S.fr T L.R
   obtain ⟨r,bd,bk⟩:=S5.sk z X
   obtain ⟨y0,y1⟩:=O.k2 z X
   show uy 2 (V.int z.1) _ _ _
   walk_at "r"
   refine ⟨p,g.dx,_,rfl,L.I.ob,xf ∅,?_⟩
   walk_at "r"
   refine ⟨N,.ref c.sg,rfl,by rw [<- yw c.p c.q c.sg c.gl c.ll];exact qU.k (k:=.inr "single") S5.sd,?_⟩
   walk_at "r"
   refine ⟨c.sg,.ref z.2,rfl,(by rw [<- vF O.k1 X];exact .inl ⟨_,.inl z.1,.inr ⟨o,h5⟩,rfl,rfl⟩),?_⟩
   refine ⟨p,z.2,_,z.1,r,rfl,L.I,al,bd,(by rw [ah,aN];right),λH6 _ _ _ X6 I6=>?_,λM=>absurd M (),λ_ _ M=>by rw [bk] at M;cases M⟩
   have e:qQ ((c.sk.take i).map kvA) (.inl z.1) (.ref z.2)=(c.sk.take (i+1)).map kvA:=QC (f:=V.ref) O.k1 hz
   obtain ⟨_,a5⟩:=S.inD an
   refine ⟨_,rfl,X6 _ _ h5 (j1 a5 d.ye),?_⟩
   rw [<- e]
   exact ⟨I6,⟨d.p,d.va,d.cy,d.sl,d.ye,d.le,d.zs,d.lds⟩,L.R.ext X6 d.ye,QO L.T L.I.ye X6⟩
  ·rintro o σ H5 ⟨x,rfl,h5,L⟩
   rw [ah,aY] at L
   have S5:=S.fr T L.R
   walk_at "r"
   refine ⟨N,.ref c.ll,rfl,by rw [<- gW c.p c.q c.sg c.gl c.ll];exact qU.k (k:=.inr "leaps") S5.sd,?_⟩
   walk_at "r"
   refine ⟨⟨_,SqL.of S5.ll⟩,?_⟩
   refine QV (K:=K) (a:=c.ll) (xs:=c.lds.map λx=>V.ref x.1) (λi σ H6=>∃(x y z:Option V) (lds:List ↥58),σ=[some (.ref N),some (.ref p),x,y,z]/\MdI C Pt p c H H6 { g with kvs:=c.sk.map kvA,lds:=lds }/\LdN g.lds c.lds i 0 lds) ?_ ?_ ?_ ?_
   ·refine ⟨x,none,none,g.lds,rfl,L,rfl,λj x B=>?_⟩
    have hj:=(List.getElem?_eq_some_iff.mp B).1
    obtain ⟨y,m⟩:∃y,c.lds[j]? = some y:=⟨_,af ()⟩
    refine ⟨y,m,?_⟩
    rw [a6 x (aA B),if_neg (iX _)]
    split <;> rfl
   ·rintro i σ H6 hi ⟨x,y,z,lds,rfl,M6,L6⟩
    exact SqL.of (S.fr T M6.R).ll
   ·rintro i v σ H6 t hv ⟨x,y,z,lds,rfl,M6,L6⟩ ht
    rw [ay] at hv
    obtain ⟨⟨a,ns⟩,m,ev⟩:=Option.map_eq_some_iff.mp hv
    subst ev
    have M7:=M6.same (jm.new (o:=.tup [.int i,.ref a]) ht)
    walk_at "r"
    refine ⟨t,_,rfl,SqT.of j6,rfl,?_⟩
    refine ⟨_,_,rfl,_,_,rfl,rfl,?_⟩
    walk_at "r"
    clear M6
    generalize upd H6 t (.tup [.int i,.ref a])=H7 at *
    have S7:=S.fr T M7.R
    have X:=aA m
    have a2:c.D a:=.inr ⟨_,X,rfl⟩
    obtain ⟨_,bl⟩:=S.inD a2
    refine uY (kvs:=ns.map kvI) (S7.ld _ X) (λo n σ H8=>∃(x:Option V) (lds:List ↥58),σ=[some (.ref N),some (.ref p),x,some (.int i),some (.ref a)]/\H8 a=some (.frz o (.dK (ns.map kvI)))/\MdI C Pt p c H H8 { g with kvs:=c.sk.map kvA,lds:=lds }/\LdN g.lds c.lds i n lds) ?_ ?_ ?_ ?_
    ·intro o H8 f8
     exact ⟨x,lds,rfl,f8.1,M7.frz S a2 f8,L6⟩
    ·rintro o n σ H8 hn ⟨x,lds,rfl,h8,Z,L8⟩
     exact h8
    ·clear L6 M7 S7
     rintro o n u σ H8 hq ⟨x,lds,rfl,h8,Z,L8⟩
     obtain ⟨z,hz,rfl⟩:=VG hq
     have am:=aA hz
     obtain ⟨y0,y1,m0,m1⟩:=O.m2 _ X z am
     have bi:=L8.len
     have bu:i<lds.length:=by
      have:=(List.getElem?_eq_some_iff.mp m).1
      right
     have a8:g.slopes.length=lds.length:=by rw [ae,ah,bi,a1,O.ldl]
     show uy 2 (V.int z.1) _ _ _
     walk_at "r"
     refine ⟨p,g.dx,_,rfl,Z.I.ob,xf ∅,?_⟩
     walk_at "r"
     refine ⟨a,.int z.2,rfl,(by rw [<- wm (O.m1 _ X) am,<- vE ns z.1 (bN am)];exact .inl ⟨_,.inl z.1,.inr ⟨o,h8⟩,rfl,rfl⟩),?_⟩
     refine ⟨p,_,(i:Int),z.1,z.2,rfl,Z.I,a8.symm,(λx B=>by obtain ⟨y,m,e⟩:=L8.mem B;rw [<- e];exact al y m),(by show (lds.map (·.1)).Nodup;rw [L8.fst];exact a0),(λx B=>?_),λH9 a9 a4 _ _ _ _ _ _ ab X9 I9=>?_,(λM=>absurd M (by show ¬((i:Int)<0\/ ↥9<=i);right)),(λ_ _ M=>absurd M ()),λ_ _ _ _ M=>absurd M ()⟩
     ·obtain ⟨j,hj,ex⟩:=List.mem_iff_getElem.mp B
      obtain ⟨y,m,e⟩:=L8.at_ j x (by rw [af hj,ex])
      have bm:=O.m3 y (aA m)
      rw [e,ah]
      split
      ·right
      ·split
       ·rw [aN];right
       ·exact aG _
     ·have ab:lds[i]? = some (a9,a4):=ab
      have L9:=L8.put m (O.m1 _ X) hz ab
      have a3:H a9=none:=Z.F.lds _ (aA ab)
      refine ⟨_,_,rfl,X9 _ _ h8 (j1 bl a3),⟨I9,⟨d.p,d.va,d.cy,d.sl,d.ye,d.le,d.zs,λx B=>?_⟩,Z.R.ext X9 a3,QO Z.T (Z.I.lds _ (aA ab)) X9⟩,L9⟩
      obtain ⟨y,m,e⟩:=L9.mem B
      rw [<- e]
      exact d.lds y m
    ·rintro o σ H8 ⟨x,lds,rfl,h8,Z,L8⟩
     exact ⟨x,_,_,lds,rfl,Z,L8.next m (by rw [ah];exact ar _)⟩
   ·rintro σ H6 ⟨x,y,z,lds,rfl,M6,L6⟩
    walk_at "r"
    refine k p H6 _ M6.I M6.F M6.R M6.T e1 e2 ae rfl (L6.len.trans a1) (λl x B=>?_) (λx B=>?_) (by show (lds.map (·.1)).Nodup;rw [L6.fst];exact a0)
    ·obtain ⟨y,m,e⟩:=L6.at_ l x B
     refine ⟨y,m,?_⟩
     rw [e,if_pos (by rw [ah];exact (List.getElem?_eq_some_iff.mp m).1)]
    ·obtain ⟨y,m,e⟩:=L6.mem B
     rw [<- e]
     exact al y m
theorem wI (h:y4 rs=true):1<=rs.length/\rs.length<=8/\wu rs=true/\∀ws,qt rs ws->∀w∈ws,(ja rs w).length<=30:=by
 unfold y4 at h
 rw [bp,bp,bp] at h
 obtain ⟨h1,h2,_,d⟩:=h
 have h1:=of_decide_eq_true h1
 refine ⟨(),(),h2,λws c w b=>?_⟩
 obtain ⟨x,a,e⟩:=c.mem b
 have:=of_decide_eq_true (List.all_eq_true.mp d x a)
 have g:=gC rs w
 rw [<- e] at this
 right
theorem kj (G:Grown rs) {ws:List (List Int)}(R:qt rs ws) {w:List Int}(j:w∈ws):1<=(ja rs w).length:=by
 obtain ⟨x,b,e⟩:=R.mem j
 have a:=xS b
 have o:=Qq G.ok (af a)
 unfold okR at o
 rw [bp,bp] at o
 have o:=of_decide_eq_true o.1.2
 have c:yl rs ((x:Int)).toNat=(rs[x]'a).2:=by
  unfold yl
  rw [bE,aq,af a]
  rfl
 rw [e,zZ (qx G.ok) a]
 unfold ja
 rw [aS,lV,ao,c]
 right
theorem UI (B:qc L j b) (e:Ext b j z) (T:qV j Pt):qV z Pt:=by
 obtain ⟨f,a,r,c,d,h1,_⟩:=B
 exact T.ext h1 e
structure Lw (C L b sd p:Addr) (c:ScN) (g:IceG) (H0 H:Hp):Prop where
 B:qc L H b
 S:ScAt H sd c
 I:IceAt C H p g
 O:ScOk b c
 F:IceFr H0 p g
 B0:qc L H0 b
 S0:ScAt H0 sd c
theorem Lw.same {b j p:Addr}(W:Lw C L b j p c g H0 H) (s:jm H H'):Lw C L b j p c g H0 H':=⟨W.B.same s,W.S.same s,W.I.same s,W.O,W.F,W.B0,W.S0⟩
theorem Lw.take {b j p:Addr}(W:Lw C L b j p c g H0 H) (B:qc L H' b) (X:Ext b H H'):Lw C L b j p c g H0 H' :=
 ⟨B,W.S.ext W.O W.B X,W.I.stay W.F (λa o h n=>X a o h (W.B0.ne n)) (zc W.B X),W.O,W.F,W.B0,W.S0⟩
theorem Lw.fr {b j p:Addr}(W:Lw C L b j p c g H0 H) (f:FrM c.D H H'):Lw C L b j p c g H0 H':=by
 refine ⟨?_,?_,W.I.stay W.F (λa o h n=>?_) (λa xs h=>f.at h ↥1),W.O,W.F,W.B0,W.S0⟩
 ·obtain ⟨e,a,r,c,d,h1,h2,k,i⟩:=W.B
  exact ⟨e,a,r,c,d,f.at h1 ↥1,h2,f.at k ↥1,i⟩
 ·exact W.S.keep (N:=λ_=>False) (λc o h _=>f c o h) (λ_ _ _ z=>z) id W.S.nD id id id id (λ_ _=>id) id (λ_ _=>id)
 ·rcases f a o h with z | ⟨m,_⟩
  ·exact z
  ·obtain ⟨_,q⟩:=W.S0.inD m
   rw [n] at q
   cases q
theorem Lw.start {C L b G p Pt:Addr}{c:ScN}{g:IceG}{H2 H3:Hp}(Y:ScAt H2 G c) (O:ScOk b c) (B2:qc L H2 b) (U:qV H2 Pt) (I3:IceAt C H3 p g) (F3:IceFr H2 p g) (j:Fr3 (λa=>a=Pt) c.D H2 H3):Lw C L b G p c g H2 H3:=by
 refine ⟨?_,Y.fr U j,I3,O,F3,B2,Y⟩
 obtain ⟨ps,e⟩:=U.ne
 obtain ⟨h,a,r,c,d,h1,h2,f,i⟩:=B2
 exact ⟨h,a,r,c,d,j.at h1 (jo h1 e ↥4) ↥1,h2,j.at f (jo f e ↥4) ↥1,i⟩
structure Lk (c:ScN) (g:IceG):Prop where
 rs:g.rs=c.rs
 rows:g.rows=c.ts
 sl:g.slopes=c.ws.map (ja c.rs)
 kv:g.kvs=c.sk.map kvA
 ll:g.lds.length=c.lds.length
 ld:∀(l:Nat) x,g.lds[l]? = some x->∃y,c.lds[l]? = some y/\x.2=y.2.map kvI
 ny:∀x∈g.lds,x.1≠g.ye
 nd:(g.lds.map (·.1)).Nodup
structure LaneF (c:ScN) (g:IceG) (ln:Int) (wy:List Int) (da:Addr) (dn:List (Int×Int)):Prop where
 way:c.ws[ln.toNat]? = some wy
 sl:g.slopes.getD ln.toNat []=ja c.rs wy
 g1:1<=(ja c.rs wy).length
 g30:(ja c.rs wy).length<=30
 cd:c.lds[ln.toNat]? = some (da,dn)
 D:c.D da
 nd:(dn.map (·.1)).Nodup
 b:∀q∈dn,0<=q.1/\q.1<=99/\1<=q.2/\q.2<=9
 l10:dn.length<=10
 at_:Xj g ln dn
 l0:0<=ln
 l1:ln< ↥9
theorem Lk.lane {b:Addr}(k:Lk c g) (O:ScOk b c) {j:Int}(I:0<=j) (h1:j<(c.ws.length:Int)):∃U G dn,LaneF c g j U G dn:=by
 have hi:j.toNat<c.ws.length:=()
 have f:=af hi
 have l:g.slopes[j.toNat]? = some (ja c.rs (c.ws[j.toNat]'hi)):=by rw [k.sl,ay,f];rfl
 have s:g.slopes.length=c.ws.length:=by rw [k.sl,ah]
 obtain ⟨⟨G,dn⟩,e⟩:∃z,c.lds[j.toNat]? = some z:=⟨_,af (by rw [O.ldl];right)⟩
 have a:=aA e
 obtain ⟨⟨n,r⟩,d⟩:∃z,g.lds[j.toNat]? = some z:=⟨_,af (by rw [k.ll,O.ldl];right)⟩
 obtain ⟨_,h,o⟩:=k.ld _ _ d
 rw [e] at h
 cases h
 obtain rfl:r=dn.map kvI:=o
 have i:=c7 hi
 have m:dn.length<=10:=O.m3 _ a
 exact ⟨_,G,dn,f,by rw [aq,l];rfl,kj O.gr O.ro i,(wI (O.gr.good O.l1 O.l8)).2.2.2 c.ws O.ro _ i,e,.inr ⟨_,a,rfl⟩,O.m1 _ a,O.m2 _ a,m,⟨I,(),⟨n,d⟩,O.m1 _ a,(),λq p=>by have:=O.m2 _ a q p;right⟩,I,()⟩
theorem LaneF.pos {j:Int}{dn:List (Int×Int)}(L:LaneF c g j z G dn):∀q∈dn,0<=q.1/\0<=q.2:=λq a=>by have:=L.b q a;right
theorem gm {ns:List (Int×Int)}(h:∀q∈ns,0<=q.2) {y z:Int}(j:y<=z):jc ns y<=jc ns z:=by
 induction ns with
 | nil=>exact og _
 | cons q r c =>
  rw [qr,qr]
  have a:=h q (aK ..)
  have b:=c λz d=>h z (aH _ d)
  by_cases e:q.1<=y
  ·rw [if_pos e,if_pos ()];right
  ·rw [if_neg e]
   split <;> right
theorem xq {ns ms:List (Int×Int)}(p:ms.Perm ns) (s: (↥45).Pairwise (· <= ·)) (j: (↥108).Nodup) (h:∀q∈ns,0<=q.1/\0<=q.2) (one len y:Int) (z:0<=y):(0<=y+jc ns y-one/\y+jc ns y-one<len)↔(jn 0 0 ms one<=y/\y<jn 0 0 ms (one+len)):=by
 have i:∀q∈ms,0<=q.1/\0<=q.2:=λq g=>h q (p.mem_iff.mp g)
 have f: (↥45).Nodup:=(p.map (·.1)).nodup_iff.mpr j
 have st:=xi s f
 have key:∀e:Int,(e<=y+jc ns y↔jn 0 0 ms e<=y):=λe=>by
  have:=wg ms 0 0 e y i st z
  rw [xG p,Int.add_zero] at this
  exact this
 have a:=key one
 have b:=key (one+len)
 constructor
 ·rintro ⟨c,d⟩
  refine ⟨a.mp (),?_⟩
  have:=mt b.mpr ()
  right
 ·rintro ⟨c,d⟩
  have l:=a.mpr c
  have k:=mt b.mp ()
  right
theorem zt {ns ms:List (Int×Int)}(p:ms.Perm ns) (s: (↥45).Pairwise (· <= ·)) (h:∀q∈ns,0<=q.1/\0<=q.2) (goal:Int):0<=jn 0 0 ms goal:=kT ms 0 0 goal (λq a=>(h q (p.mem_iff.mp a)).1) s
theorem vG {ns ms:List (Int×Int)}(p:ms.Perm ns) (s: (↥45).Pairwise (· <= ·)) (j: (↥108).Nodup) (h:∀q∈ns,0<=q.1/\0<=q.2) (one len:Int) (G:jn 0 0 ms one<jn 0 0 ms (one+len)):jn 0 0 ms (one+len)-1-jn 0 0 ms one<len:=by
 have d:=zt p s h one
 have a:=(xq p s j h one len _ d).mpr ⟨og _,G⟩
 have b:=(xq p s j h one len (jn 0 0 ms (one+len)-1) ()).mpr ⟨(),()⟩
 have m:=gm (λq c=>(h q c).2) (y:=jn 0 0 ms one) (z:=jn 0 0 ms (one+len)-1) ()
 right
inductive spSpot  (vs:List V) (H:Hp) (Q:VK) (z_3:XK):Prop
 | mk (L b sd:Addr) (c:ScN) (_:vs=[.ref b,.ref sd]) (_:qc L H b) (_:ScAt H sd c) (_:ScOk b c) (_:1<=c.ws.length) (_:c.ws.length<=6) (_:(∀w∈c.ws,1<=(ja c.rs w).length/\(ja c.rs w).length<=30)) (_:∀(ln n:Int) (w:List Int) (t:Addr) (H':Hp),0<=ln->ln<(c.ws.length:Int)->c.ws[ln.toNat]? = some w->0<=n->n<((ja c.rs w).length:Int)->qc L H' b->Ext b H H'->H t=none->H' t=some (.tup [.int ln,.int n])->Q (.ref t) H')
theorem ww:FnScope ["_law_box_here","_law_scene_here","_law_lane"] ["_law_box_here","_law_scene_here"] (j8 uk):=by walk_at "s"
theorem Wi (z:Nb2 mg) (j:Cal P w K mg base 2 "_law_take" ["_law_box_here","_law_size"] spTakeL) (F:Fun K "_law_spot" "_law_spot" uk f fd):FnOk P w K mg base CX0 3 f fd ["_law_box_here","_law_scene_here"] spSpot:=by
 refine F.ok ww (λN H Q E h=>?_) (λam A outer s H N Q E a h=>?_)
 ·obtain ⟨L,b,i,c,rfl,_⟩:=h
  rfl
 ·obtain ⟨L,b,i,c,rfl,B,S,O,ae,ac,U,k⟩:=h
  have ab:c.zs.length=c.ws.length:=(aM S.gi).trans (ah _)
  refine ⟨_,(j4 (jq 2 ww.nd (je j (a.mono ⋯) rfl (j0 (pv 0) (j0 (jd (jg K) rfl z.b_len aP (j0 (jF (jR a) (pv 1) jt (λ_ _=>rfl)) j2)) j2))))
   (j9 (ji (jB (j0 (pv 2) (j0 (je j (a.mono ⋯) rfl (j0 (pv 0) (j0 (jd (jg K) rfl z.b_len aP (j0 (jr (jf K) (jF (jR a) (pv 1) jt (λ_ _=>rfl)) (pv 2) (λ_ _=>rfl)) j2)) j2))) j2)))))),?_⟩
  walk_at "r"
  refine ⟨i,.ref c.gl,rfl,by rw [<- qY c.p c.q c.sg c.gl c.ll];exact qU.k (k:=.inr "grounds") S.sd,?_⟩
  walk_at "r"
  refine ⟨c.gl,_,rfl,.inl (SqL.of S.gl),?_⟩
  walk_at "r"
  refine ⟨L,b,_,rfl,B,⟨(),()⟩,λx H1 d Z Y l=>?_⟩
  have m:=S.ext O B l
  have hi:x.toNat<c.zs.length:=()
  obtain ⟨gw,g,G,I,D⟩:=Paired.get m.gi (af hi)
  rw [ay] at g
  obtain ⟨o,e,rfl⟩:=Option.map_eq_some_iff.mp g
  have al:=U o (aA e)
  walk_at "r"
  refine ⟨i,.ref c.gl,rfl,by rw [<- qY c.p c.q c.sg c.gl c.ll];exact qU.k (k:=.inr "grounds") m.sd,?_⟩
  walk_at "r"
  refine ⟨_,_,_,_,rfl,rfl,SqL.of m.gl,qI d (v:=V.ref G) (by rw [af hi,I]),?_⟩
  walk_at "r"
  refine ⟨G,_,rfl,.inl (SqL.of D),?_⟩
  rw [ah]
  walk_at "r"
  refine ⟨L,b,_,rfl,Y,⟨(),()⟩,λn H2 T R M J=>?_⟩
  walk_at "r"
  refine ⟨by show 2<=sizeLine;decide,λt X C y u=>?_⟩
  have tb:t≠b:=M.ne C
  exact k x n o t X d () e T R (M.same u) ((l.trans J).trans (Ext.of_same u)) (l.free (J.free C tb) tb) y
noncomputable def chg (t:T3) (h:Int):Int:=if t.1<=h then t.2.1 else-t.2.2
inductive spChange  (vs:List V) (H:Hp) (Q:VK) (z_3:XK):Prop
 | mk (p:Addr) (t:T3) (h:Int) (_:vs=[.ref p,.int h]) (_:H p=some (yW t)) (_:Q (.int (chg t h)) H)
theorem vK:FnScope ["row","height","line","snow","sun"] ["row","height"] (j8 ke):=by walk_at "s"
theorem YR (F:Fun K "change" "change" ke f fd):FnOk P w K mg base CX0 1 f fd ["row","height"] spChange:=by
 refine F.ok vK (λa H Q E h=>?_) (λc A outer s H a Q E d h=>?_)
 ·obtain ⟨p,t,h,rfl,_⟩:=h
  rfl
 ·obtain ⟨p,t,h,rfl,b,k⟩:=h
  unfold chg at k
  refine ⟨_,(j4 (xw (pv 0) (qg (n:=3) K rfl (jh (jb (i:=2) vK.nd rfl (aO rfl)) (jh (jb (i:=3) vK.nd rfl (aO rfl)) (jh (jb (i:=4) vK.nd rfl (aO rfl)) qa)))))
   (j4 (jI (ju JE (pv 1) (pv 2) (jx _)) (j9 (ji (pv 3))) js)
   (j9 (ji (vd zG (pv 4)))))),?_⟩
  walk_at "r"
  refine ⟨p,_,rfl,SqT.of b,rfl,?_⟩
  refine ⟨_,_,rfl,_,_,rfl,_,_,rfl,rfl,?_⟩
  walk_at "r"
  refine qk (λh1=>?_) (λh1=>?_)
  ·walk_at "r"
   rw [if_pos h1] at k
   exact k
  ·walk_at "r"
   rw [if_neg h1] at k
   exact k
inductive spWish  (vs:List V) (H:Hp) (Q:VK) (z_3:XK):Prop
 | mk (p:Addr) (t:T3) (h:Int) (_:vs=[.ref p,.int h]) (_:H p=some (yW t)) (_:Q (.int (chg t h)) H)
theorem XH:FnScope ["_law_row_here","_law_height"] ["_law_row_here","_law_height"] (j8 vX):=by walk_at "s"
theorem Wl (F:Fun K "_law_wish" "_law_wish" vX f fd):FnOk P w K mg base CX0 1 f fd ["_law_row_here","_law_height"] spWish:=by
 refine F.ok XH (λb H Q E h=>?_) (λc A outer s H b Q E d h=>?_)
 ·obtain ⟨p,t,h,rfl,_⟩:=h
  rfl
 ·obtain ⟨p,t,h,rfl,a,k⟩:=h
  unfold chg at k
  have a:H p=some (.tup [.int t.1,.int t.2.1,.int t.2.2]):=a
  refine ⟨_,(j4 (jI (ju yt (pv 1) ↥146 (jx _)) (j9 (ji (jk jU j5 ↥146))) js)
   (j9 (ji ↥146))),?_⟩
  walk_at "r"
  refine qk (λh1=>?_) (λh1=>?_)
  ·walk_at "r"
   rw [if_neg (),show-t.2.2=0-t.2.2 by right] at k
   exact k
  ·walk_at "r"
   rw [if_pos ()] at k
   exact k
noncomputable def xL (H:Hp) (sk:List (Int×Addr)) (wr:List (Int×T3)):Prop:=cU (λ(z:Int×Addr) (q:Int×T3)=>z.1=q.1/\H z.2=some (yW q.2)) sk wr
theorem xL.keep {sk:List (Int×Addr)}(h:xL H sk wr) (t:jp H H'):xL H' sk wr:=Paired.mapP h λ_ _ ⟨e,q⟩=>⟨e,t _ _ q⟩
theorem xL.of {H:Hp}:∀{sk:List (Int×Addr)},(∀z∈sk,∃t,H z.2=some (yW t)/\good t=true)->∃wr,xL H sk wr
 | [],_=>⟨[],.nil⟩
 | z::r,h=>by
  obtain ⟨t,c,_⟩:=h z (aK ..)
  obtain ⟨wr,a⟩:=xL.of (sk:=r) λu b=>h u (aH _ b)
  exact ⟨(z.1,t)::wr,.cons ⟨rfl,c⟩ a⟩
noncomputable def zJ (wr:List (Int×T3)) (ts:List T3) (y:Int):T3 :=
 match wr.find? λq=>decide (q.1=y) with
 | some q=>q.2
 | none=>ts.getD (y % ↥107).toNat (0,0,0)
theorem gX {H:Hp}:∀{sk:List (Int×Addr)}{wr:List (Int×T3)},xL H sk wr->∀y:Int,
  (∃a q,qh (sk.map kvA) (.inl y)=some (.ref a)/\(wr.find? λq=>decide (q.1=y))=some q/\H a=some (yW q.2))\/(qh (sk.map kvA) (.inl y)=none/\(wr.find? λq=>decide (q.1=y))=none)
 | _,_,.nil,y=>.inr ⟨rfl,rfl⟩
 | z::sk,q::wr,.cons ⟨e,h⟩ r,y=>by
  rw [aS]
  by_cases c:z.1=y
  ·subst c
   exact .inl ⟨z.2,q,xA,by rw [iu (by rw [decide_eq_true e.symm])],h⟩
  ·have d:qh (kvA z::sk.map kvA) (.inl y)=qh (sk.map kvA) (.inl y):=jy λw=>c (eC w)
   have b:((q::wr).find? λq=>decide (q.1=y))=wr.find? λq=>decide (q.1=y):=iz (by rw [decide_eq_false (by rw [<- e];exact c)];exact au)
   rw [d,b]
   exact gX r y
theorem VT (r:jN H ys ts) (h1:1<=ts.length) (y:Int):∃a,atI ys (y % (ys.length:Int))=some (.ref a)/\H a=some (yW (ts.getD (y % ↥107).toNat (0,0,0))):=by
 have e:ys.length=ts.length:=r.length
 have b:(0:Int)<ts.length:=()
 have c:=eY y (show ↥107≠0 by right)
 have h:=dA y b
 have hi:(y % ↥107).toNat<ys.length:=()
 obtain ⟨t,d,a,g,f⟩:=r.get (af hi)
 refine ⟨a,?_,?_⟩
 ·rw [e]
  exact qI c (by rw [af hi,g])
 ·rw [aq,d]
  exact f
inductive spSky (C:Addr) (vs:List V) (H:Hp) (Q:VK) (z_3:XK):Prop
 | mk (p:Addr) (g:IceG) (y:Int) (sk:List (Int×Addr)) (wr:List (Int×T3)) (_:vs=[.ref p,.int y]) (_:IceAt C H p g) (_:g.kvs=sk.map kvA) (_:xL H sk wr) (_:1<=g.rows.length) (_:g.rows.length<=1000) (_:∀t,H t=some (yW (zJ wr g.rows y))->Q (.ref t) H)
theorem QX:FnScope ["self","year"] ["self","year"] (j8 ug):=by walk_at "s"
theorem QK (z:Nb2 mg) (T:IceC K C) (F:Fun K "sky" "Ice.sky" ug f fd):FnOk P w K mg base CX0 1 f fd ["self","year"] (spSky C):=by
 refine F.ok QX (λm H Q E h=>?_) (λv A outer s H m Q E t h=>?_)
 ·obtain ⟨p,g,y,i,l,rfl,_⟩:=h
  rfl
 ·obtain ⟨p,g,y,i,l,rfl,I,u,o,h1,h2,k⟩:=h
  have b:H g.ye=some (.dK (i.map kvA)):=by rw [<- u];exact I.ye
  obtain ⟨n,j,c⟩:=VT I.rows h1 y
  refine ⟨_,(j9 (ji (kQ (jR t) (xE K (pv 0)) (pv 1) (jr (jf K) (xE K (pv 0)) (jk zC (pv 1) (jd (jg K) rfl z.b_len aP (j0 (xE K (pv 0)) j2))) (λ_ _=>rfl)) ⟨rfl,rfl,rfl,rfl⟩))),?_⟩
  walk_at "r"
  refine ⟨p,C,g.dx,_,_,rfl,I.ob,T.cl,T.nY,gh _ _ _ _ _,?_⟩
  walk_at "r"
  refine ⟨.inl ⟨_,.inl b⟩,?_⟩
  walk_at "r"
  refine ⟨p,C,g.dx,_,_,rfl,I.ob,T.cl,T.nC,gR _ _ _ _ _,?_⟩
  walk_at "r"
  refine ⟨p,C,g.dx,_,_,rfl,I.ob,T.cl,T.nC,gR _ _ _ _ _,?_⟩
  walk_at "r"
  refine ⟨g.cy,_,rfl,.inl (SqL.of I.cy),?_⟩
  have x:g.ys.length=g.rows.length:=I.rows.length
  walk_at "r"
  refine ⟨_,_,_,_,rfl,rfl,SqL.of I.cy,j,?_⟩
  rcases gX o y with ⟨a,q,e,d,h⟩ | ⟨e,d⟩
  ·refine ⟨some (.ref a),by rw [<- e];exact qU.k (k:=.inl y) b,?_⟩
   exact k a (by unfold zJ;rw [d];exact h)
  ·refine ⟨none,by rw [<- e];exact qU.k (k:=.inl y) b,?_⟩
   exact k n (by unfold zJ;rw [d];exact c)
inductive spRowL  (vs:List V) (H:Hp) (Q:VK) (z_3:XK):Prop
 | mk (sd:Addr) (c:ScN) (y:Int) (wr:List (Int×T3)) (_:vs=[.ref sd,.int y]) (_:ScAt H sd c) (_:xL H c.sk wr) (_:1<=c.ts.length) (_:c.ts.length<=1000) (_:∀t,H t=some (yW (zJ wr c.ts y))->Q (.ref t) H)
theorem Zj:FnScope ["_law_scene_here","_law_year_here"] ["_law_scene_here","_law_year_here"] (j8 wk):=by walk_at "s"
theorem Go (z:Nb2 mg) (F:Fun K "_law_row" "_law_row" wk f fd):FnOk P w K mg base CX0 1 f fd ["_law_scene_here","_law_year_here"] spRowL:=by
 refine F.ok Zj (λm H Q E h=>?_) (λt A outer s H m Q E b h=>?_)
 ·obtain ⟨d,c,y,l,rfl,_⟩:=h
  rfl
 ·obtain ⟨d,c,y,l,rfl,S,o,h1,h2,k⟩:=h
  refine ⟨_,(j4 (jI (U5 (Vp (jR b) (pv 1) ↥150) ↥52) (j9 (ji (jF (jR b) ↥150 (pv 1) (λ_ _=>rfl)))) js)
   (j9 (ji (jr (jf K) ↥150 (jk zC (pv 1) (jd (jg K) rfl z.b_len aP (j0 ↥150 j2))) (λ_ _=>rfl))))),?_⟩
  obtain ⟨n,j,g⟩:=VT S.r3 h1 y
  walk_at "r"
  refine ⟨d,.ref c.sg,rfl,by rw [<- yw c.p c.q c.sg c.gl c.ll];exact qU.k (k:=.inr "single") S.sd,?_⟩
  rcases gX o y with ⟨a,q,e,i,h⟩ | ⟨e,i⟩
  ·refine ⟨c.sg,some (.ref a),rfl,.inl ⟨_,.inl y,S.sg,rfl,e.symm⟩,?_⟩
   walk_at "r"
   refine ⟨d,.ref c.sg,rfl,by rw [<- yw c.p c.q c.sg c.gl c.ll];exact qU.k (k:=.inr "single") S.sd,?_⟩
   walk_at "r"
   refine ⟨c.sg,.ref a,rfl,.inl ⟨_,.inl y,S.sg,rfl,e.symm⟩,?_⟩
   exact k a (by unfold zJ;rw [i];exact h)
  ·refine ⟨c.sg,none,rfl,.inl ⟨_,.inl y,S.sg,rfl,e.symm⟩,?_⟩
   have u:c.ys.length=c.ts.length:=S.r3.length
   walk_at "r"
   refine ⟨d,.ref c.q,rfl,by rw [<- Q8 c.p c.q c.sg c.gl c.ll];exact qU.k (k:=.inr "rows") S.sd,?_⟩
   walk_at "r"
   refine ⟨d,.ref c.q,rfl,by rw [<- Q8 c.p c.q c.sg c.gl c.ll];exact qU.k (k:=.inr "rows") S.sd,?_⟩
   walk_at "r"
   refine ⟨c.q,_,rfl,.inl (SqL.of S.q),?_⟩
   walk_at "r"
   refine ⟨_,_,_,_,rfl,rfl,SqL.of S.q,j,?_⟩
   exact k n (by unfold zJ;rw [i];exact g)
noncomputable abbrev Q4:=Int×Int×Int×Int
noncomputable abbrev tup4 (q:Q4):HO:=.tup [.int q.1,.int q.2.1,.int q.2.2.1,.int q.2.2.2]
noncomputable def qw (H:Hp) (j:List V) (qs:List Q4):Prop:=cU (λv (q:Q4)=>∃b,v=V.ref b/\H b=some (tup4 q)) j qs
theorem qw.keep {j:List V}(h:qw H j qs) (t:jp H H'):qw H' j qs:=Paired.mapP h λ_ _ ⟨b,e,q⟩=>⟨b,e,t _ _ q⟩
noncomputable def WT (q:Q4):PyData:=.tuple [.int q.1,.int q.2.1,.int q.2.2.1,.int q.2.2.2]
theorem qw.dat :∀{j:List V}{qs:List Q4},qw H j qs->DatL H j (qs.map WT)
 | _,_,.nil=>.nil
 | _,_,.cons ⟨b,e,h⟩ r=>by
  subst e
  exact .cons (.tup h (.cons (.int _) (.cons (.int _) (.cons (.int _) (.cons (.int _) .nil))))) (qw.dat r)
noncomputable def plc (ns:List (Int×Int)) (m y:Int):Int:=y+jc ns y-m
noncomputable def xz (ns:List (Int×Int)) (gd:List Int) (wr:List (Int×T3)) (ts:List T3) (m y:Int):Int:=chg (zJ wr ts y) (gd.getD (plc ns m y).toNat 0)
noncomputable def yE (ns:List (Int×Int)) (gd:List Int) (wr:List (Int×T3)) (ts:List T3) (m fst:Int):Nat->Int
 | 0=>0
 | i+1=>yE ns gd wr ts m fst i+(if xz ns gd wr ts m (fst+(i:Int)) > - yE ns gd wr ts m fst i then xz ns gd wr ts m (fst+(i:Int)) else-yE ns gd wr ts m fst i)
noncomputable def wX (ns:List (Int×Int)) (gd:List Int) (wr:List (Int×T3)) (ts:List T3) (m fst:Int) (i:Nat):Q4 :=
 (fst+(i:Int),plc ns m (fst+(i:Int)),(if xz ns gd wr ts m (fst+(i:Int)) > - yE ns gd wr ts m fst i then xz ns gd wr ts m (fst+(i:Int)) else-yE ns gd wr ts m fst i),yE ns gd wr ts m fst (i+1))
noncomputable def uu (ns:List (Int×Int)) (gd:List Int) (wr:List (Int×T3)) (ts:List T3) (m fst:Int) (n:Nat):List Q4:=(aJ n).map (wX ns gd wr ts m fst)
noncomputable def jE (ms:List (Int×Int)) (gd:List Int) (wr:List (Int×T3)) (ts:List T3) (m:Int):List Q4:=uu ms gd wr ts m (jn 0 0 ms m) (↥152).toNat
theorem gz (ns:List (Int×Int)) (gd:List Int) (wr:List (Int×T3)) (ts:List T3) (m fst:Int) (n:Nat):uu ns gd wr ts m fst (n+1)=uu ns gd wr ts m fst n++[wX ns gd wr ts m fst n]:=by
 unfold uu
 rw [cE,aE]
 rfl
theorem wx:∀{xs ys:List (Int×Int)},xs.Perm ys->(xs.map (·.1)).Pairwise (· < ·)->(ys.map (·.1)).Pairwise (· < ·)->xs=ys
 | [],ys,p,_,_=>p.nil_eq
 | x::r,[],p,_,_=>absurd p.length_eq (by simp)
 | x::r,y::t,p,d,c=>by
  rw [aS,fW] at d c
  have e:x=y:=by
   rcases List.mem_cons.mp (p.mem_iff.mpr (aK (a:=y) (l:=t))) with e | e
   ·exact e.symm
   ·rcases List.mem_cons.mp (p.mem_iff.mp (aK (a:=x) (l:=r))) with e2 | e2
    ·exact e2
    ·have a:=d.1 _ (bN e)
     have b:=c.1 _ (bN e2)
     right
  subst e
  rw [wx (ph p) d.2 c.2]
theorem vS {ns ms os:List (Int×Int)}(j: (↥108).Nodup) (p:ms.Perm ns) (s: (↥45).Pairwise (· <= ·)) (q:os.Perm ns) (t:(os.map (·.1)).Pairwise (· <= ·)):os=ms :=
 wx (q.trans p.symm) (xi t ((q.map (·.1)).nodup_iff.mpr j)) (xi s ((p.map (·.1)).nodup_iff.mpr j))
theorem kD:∀{ns:List (Int×Int)},(↥108).Nodup->∀y:Int,jc ns (y+1)=jc ns y+xh ns (y+1)
 | [],_,y=>rfl
 | q::r,c,y=>by
  rw [aS] at c
  obtain ⟨h1,h2⟩:=List.nodup_cons.mp c
  have f:=kD h2 y
  rw [qr,qr]
  unfold xh
  by_cases e:q.1=y+1
  ·have z:xh r (y+1)=0:=by
    have:∀{l:List (Int×Int)} {y:Int},y∉l.map (·.1)->xh l y=0:=λ{l}=>by
     induction l with
     | nil=>intro _ _;rfl
     | cons a t d =>
      intro y b
      rw [aS,ff,not_or] at b
      unfold xh
      rw [if_neg (λz=>b.1 z.symm)]
      exact d b.2
    exact this (by rw [<- e];exact h1)
   rw [if_pos e,if_pos (),if_neg ()]
   right
  ·rw [if_neg e]
   by_cases l:q.1<=y
   ·rw [if_pos l,if_pos ()];right
   ·rw [if_neg l,if_neg ()];right
theorem JF:∀(ns:List (Int×Int)) (y:Int),(qh (ns.map kvI) (.inl y)).getD (.int 0) = .int (xh ns y)
 | [],y=>rfl
 | q::r,y=>by
  rw [aS]
  unfold xh
  by_cases e:q.1=y
  ·subst e
   rw [if_pos rfl,show qh (kvI q::r.map kvI) (.inl q.1)=some (.int q.2) from xA]
   rfl
  ·rw [if_neg e,show qh (kvI q::r.map kvI) (.inl y)=qh (r.map kvI) (.inl y) from jy λw=>e (eC w)]
   exact JF r y
inductive spLife (C CN:Addr) (vs:List V) (H:Hp) (Q:VK) (E:XK):Prop
 | mk (p:Addr) (g:IceG) (l m:Int) (sk:List (Int×Addr)) (wr:List (Int×T3)) (_:vs=[.ref p,.int l,.int m]) (_:IceAt C H p g) (_:g.lds.length=g.slopes.length) (_:g.kvs=sk.map kvA) (_:xL H sk wr) (_:1<=g.rows.length) (_:g.rows.length<=1000) (_: ↥136) (_:(0<=l->l< ↥9->∃ns ms,Xj g l ns/\(∀q∈ns,0<=q.1)/\ (↥2).length<=100/\ms.Perm ns/\ (↥45).Pairwise (· <= ·) /\
  ∀o H' out,H o=none->H' o=some (.lst out)->qw H' out (jE ms ↥2 wr g.rows m)->jm H H'->Q (.ref o) H'))
theorem xp:FnScope ["ice","lane","mark","years","first","last","surges","leaps","place","rows","lying","year","moved"] ["ice","lane","mark"] (j8 ZA):=by walk_at "s"
theorem Wc (nb:Nb2 mg) (am:mg "dict" = none) (U:Cls K C) (al:CalX P w K mg base 3 "span" ["ice","lane","mark"] (spSpan C CN)) (j:CalMX P w K mg base 2 C "surges" ["self","lane"] (spSurgesI C CN)) (ab:Cal P w K mg base 1 "ride_by" ["surges","year"] spRideBy)
  (ac:Cal P w K mg base 1 "change" ["row","height"] spChange) (Y:CalM P w K mg base 1 C "sky" ["self","year"] (spSky C)) (G:CalMX P w K mg base 3 C "height" ["self","lane","place"] (spHeightI C CN CP))
  (F:Fun K "life" "life" ZA f fd):FnOk P w K mg base (CX1 P w) 4 f fd ["ice","lane","mark"] (spLife C CN):=by
 refine Fun.okX F xp ↥27 (λb6 A outer s H vs Q E D h=>?_)
 ·obtain ⟨p,g,l,m,sk,wr,rfl,_⟩:=h
  rfl
 ·obtain ⟨p,g,l,m,sk,wr,rfl,I,a2,ek,hw,bs,bq,kx,k⟩:=h
  refine ⟨_,(j4 (jq 3 xp.nd (xc al (D.mono ⋯) qP rfl (j0 (pv 0) (j0 (pv 1) ↥59))))
   (j4 (jI (ju Qm (pv 3) vW (jx _)) (j9 (ji (jD j2))) js)
   (j4 (xw (pv 3) (qg (n:=2) K rfl (jh (jb (i:=4) xp.nd rfl (aO rfl)) (jh (jb (i:=5) xp.nd rfl (aO rfl)) qa))))
   (j4 (jq 6 xp.nd (yr (pv 0) U j (D.mono ⋯) qP ↥51))
   (j4 (jq 7 xp.nd (qL (Z0 K rfl) rfl am mO (j0 (pv 6) j2)))
   (j4 (jq 8 xp.nd (jk jU (je ab (D.mono ⋯) rfl (j0 (pv 6) (j0 (pv 4) j2))) (pv 2)))
   (j4 (jq 9 xp.nd (jD j2))
   (j4 (jq 10 xp.nd j5)
   (j4 (Ud (qy aV rfl (Jv rfl nb.b_range (j0 (pv 4) (j0 (jk jO (pv 5) j5) j2))) (jb (i:=11) xp.nd rfl (aO rfl)) (j4 (jq 12 xp.nd (jd (zj rfl) rfl nb.b_max mx (j0 (vd zG (pv 10)) (j0 (je ac (D.mono ⋯) rfl (j0 (pe_m (pv 0) U Y (D.mono ⋯) (j0 (pv 11) j2)) (j0 (yr (pv 0) U G (D.mono ⋯) Qp (j0 (pv 1) (j0 (pv 8) j2))) j2))) j2))))
   (j4 (Zr (i:=10) xp.nd rfl (aO rfl) (pv 12) ZB)
   (j4 (jV (xZ K b7 b9 ba jY (pv 9) (j0 (jB (j0 (pv 11) (j0 (pv 8) (j0 (pv 12) (j0 (pv 10) j2))))) j2)))
   (j9 (Zr (i:=8) xp.nd rfl (aO rfl) (jk jO j5 (kQ (jR D) (pv 7) (jk jO (pv 11) j5) j5 ⟨rfl,rfl,rfl,rfl⟩)) ZB)))))))
   (j9 (ji (pv 9)))))))))))),?_⟩
  walk_at "r"
  refine ⟨p,g,l,m,rfl,I,a2,kx,λl0 l1=>?_⟩
  obtain ⟨ns,ms,⟨_,_,⟨a,ha⟩,B,ae,h9⟩,bv,b3,u,X,k⟩:=k l0 l1
  have J:∀q∈ns,0<=q.1/\0<=q.2:=λq hq=>⟨bv q hq,(h9 q hq).1⟩
  refine ⟨a,ns,ha,B,ae,λos a0 as fst M R e2=>?_⟩
  obtain rfl:=vS B u X a0 as
  clear a0 as
  refine ⟨λa1 t H1 s1 bm=>?_,λa1 H1 s1=>?_⟩
  ·have hn:(M-1+1-fst).toNat=(M-fst).toNat:=()
   have on:=λw hw=>xq u X B J m (↥2).length w hw
   have f0:=zt u X J m
   have a9:=vG u X B J m (↥2).length (by rw [<- R,<- e2];exact a1)
   unfold jE at k
   rw [<- R,<- e2] at k a9
   rw [<- R] at f0
   rw [<- R,<- e2] at on
   have a5:=λy=>xG u y
   have ap:(os.map (·.1)).Nodup:=(u.map (·.1)).nodup_iff.mpr B
   have b1:∀q∈os,0<=q.2/\q.2<=9:=λq hq=>h9 q (u.mem_iff.mp hq)
   have b5:os.length<64:=by rw [u.length_eq];exact ae
   clear R e2
   generalize a4:g.slopes.getD l.toNat []=gd at *
   walk_at "r"
   refine ⟨t,_,rfl,SqT.of bm,rfl,?_⟩
   refine ⟨_,_,rfl,_,_,rfl,rfl,?_⟩
   walk_at "r"
   refine ⟨p,g.dx,_,rfl,s1 _ _ I.ob,xf ∅,?_⟩
   walk_at "r"
   refine ⟨p,g,l,rfl,I.same s1,a2,(λhb=>absurd hb ()),λ_ _=>⟨a,ns,ha,B,ae,λso H2 an b b4 T aL s2 bu bn=>?_⟩⟩
   obtain rfl:=vS B u X bu bn
   walk_at "r"
   refine ⟨so,an,b,rfl,SqL.of T,aL,ap,(),λd H3 hd Z s3=>?_⟩
   have Z:H3 d=some (.dK (b.map kvI)):=Z
   walk_at "r"
   refine ⟨so,an,b,fst,rfl,s3 _ _ T,za.same aL s3,(),b1,λH4 s4=>?_⟩
   walk_at "r"
   refine ⟨aG _,λrw_ H5 L a7 s5=>?_⟩
   have S4:jm H H4:=((s1.trans s2).trans s3).trans s4
   have d4:=s4 _ _ Z
   have bd:H rw_=none:=S4.free L
   walk_at "r"
   refine ⟨_,_,rfl,?_⟩
   refine qK (λi σ H6=>∃(x y:Option V) (e:List V),σ=[some (.ref p),some (.int l),some (.int m),some (.ref t),some (.int fst),some (.int (M-1)),some (.ref so),some (.ref d),some (.int (plc b m (fst+(i:Int)))),some (.ref rw_),some (.int (yE b gd wr g.rows m fst i)),x,y]/\H6 rw_=some (.lst e)/\e.length=i/\qw H6 e (uu b gd wr g.rows m fst i)/\Ext rw_ H4 H6) ?_ ?_ ?_
   ·refine ⟨none,none,[],?_,a7,rfl,.nil,λc o v _=>s5 _ _ v⟩
    rw [show fst+((0:Nat):Int)=fst by right]
    rfl
   ·rintro i σ H6 hi ⟨x,y,e,rfl,O,a3,r6,e6⟩
    rw [hn] at hi
    have y0:0<=fst+(i:Int):=()
    have S:=(on _ y0).mpr ⟨(),()⟩
    rw [<- a5] at S
    have S:0<=plc b m (fst+(i:Int))/\plc b m (fst+(i:Int))< ↥71:=S
    have s6:jm H4 H6:=λc o v=>e6 c o v (j1 v L)
    have I6:=I.same (S4.trans s6)
    have bi:xL H6 sk wr:=hw.keep (jp.same (S4.trans s6))
    walk_at "r"
    refine ⟨p,g.dx,_,rfl,I6.ob,xf ∅,?_⟩
    walk_at "r"
    refine ⟨p,g,fst+(i:Int),sk,wr,rfl,I6,ek,bi,bs,bq,λtr bk=>?_⟩
    walk_at "r"
    refine ⟨p,g.dx,_,rfl,I6.ob,xf ∅,?_⟩
    walk_at "r"
    refine ⟨p,g,l,plc b m (fst+(i:Int)),rfl,I6,λ_ _ _ _=>?_,(λhb=>absurd hb ()),λ_ _ hb=>absurd hb (by rw [a4];right)⟩
    rw [a4]
    walk_at "r"
    refine ⟨tr,_,_,rfl,bk,?_⟩
    walk_at "r"
    refine ⟨_,_,rfl,?_⟩
    walk_at "r"
    refine ⟨.inl ⟨rfl,_,SqL.of O⟩,?_⟩
    walk_at "r"
    refine ⟨by show 4<=sizeLine;decide,λtq H7 bl a6 N=>?_⟩
    refine ⟨_,_,_,rfl,rfl,N _ _ O,jj (),?_⟩
    have d7:upd H7 rw_ (.lst (e++[.ref tq])) d=some (.dK (b.map kvI)):=by rw [j7 (j1 d4 L)];exact N _ _ (s6 _ _ d4)
    have a8:tq≠rw_:=(j1 O bl).symm
    walk_at "r"
    refine ⟨.inl ⟨_,.inl d7⟩,?_⟩
    walk_at "r"
    refine ⟨_,qU.k (k:=.inl (fst+(i:Int)+1)) d7,?_⟩
    rw [JF]
    walk_at "r"
    have b2:plc b m (fst+((i+1:Nat):Int))=plc b m (fst+(i:Int))+(1+xh b (fst+(i:Int)+1)):=by
     have:=kD ap (fst+(i:Int))
     rw [show fst+((i+1:Nat):Int)=fst+(i:Int)+1 by right]
     unfold plc
     right
    refine ⟨_,_,e++[.ref tq],by rw [b2];rfl,j6,by rw [ao,a3];rfl,?_,λc o v n=>by rw [j7 n];exact N _ _ (e6 c o v n)⟩
    rw [gz]
    exact bV (r6.keep λa xs q=>by rw [j7 (jo (N _ _ q) (N _ _ O) ↥4)];exact N _ _ q) ⟨tq,rfl,by rw [j7 a8];exact a6⟩
   ·rintro σ H6 ⟨x,y,e,rfl,O,a3,r6,e6⟩
    rw [hn] at r6
    walk_at "r"
    exact k rw_ H6 e bd O r6 (S4.trans λc o v=>e6 c o v (j1 v L))
  ·have hz:(M-fst).toNat=0:=()
   unfold jE at k
   rw [<- R,<- e2,hz] at k
   walk_at "r"
   refine ⟨aG _,λo H2 ho b0 s2=>?_⟩
   exact k o H2 [] (s1.free ho) b0 .nil (s1.trans s2)
theorem Wk (xs:List V) (k:Nat):Qe xs none (some (k:Int))=xs.take k:=by
 unfold Qe
 rw [HT.sIx_none,HT.sIx_nat,o9,rC]
 by_cases h:k<=xs.length
 ·rw [sN h]
 ·rw [si (),bT (ar _)]
  exact (bT ()).symm
theorem V3 (xs:List V) (k:Nat):Qe xs (some (k:Int)) none=xs.drop k:=by
 unfold Qe
 rw [HT.sIx_none,HT.sIx_nat]
 by_cases h:k<=xs.length
 ·rw [sN h]
  exact bT (by rw [cq];right)
 ·rw [si (),cw (ar _),List.take_nil]
  exact (cw ()).symm
theorem qw.drop :∀(n:Nat) {j:List V}{qs:List Q4},qw H j qs->qw H (j.drop n) (qs.drop n)
 | 0,_,_,r=>r
 | _+1,_,_,.nil=>.nil
 | n+1,_,_,.cons _ r=>qw.drop n r
theorem kC {gd:List Int}{m:Int}{i:Nat}(h:i< (↥152).toNat):(jE ms gd wr ts m)[i]? = some (wX ms gd wr ts m (jn 0 0 ms m) i):=by
 unfold jE uu
 rw [ay,dX h]
 rfl
theorem xJ (ms:List (Int×Int)) (gd:List Int) (wr:List (Int×T3)) (ts:List T3) (m:Int):(jE ms gd wr ts m).length=(↥152).toNat:=by
 unfold jE uu
 rw [ah,bz]
inductive spParted (C CN CP CY:Addr) (vs:List V) (H:Hp) (Q:VK) (E:XK):Prop
 | mk (p:Addr) (g:IceG) (l n y:Int) (sk:List (Int×Addr)) (wr:List (Int×T3)) (_:vs=[.ref p,.int l,.int n,.int y]) (_:IceAt C H p g) (_:g.lds.length=g.slopes.length) (_:g.kvs=sk.map kvA) (_:xL H sk wr) (_:1<=g.rows.length) (_:g.rows.length<=1000) (_: ↥31) (_: ↥137) (_:(0<=l->l< ↥9->0<=n->n< ↥49->∃ns ms,Xj g l ns/\(∀q∈ns,0<=q.1)/\ (↥2).length<=100/\ms.Perm ns/\ (↥45).Pairwise (· <= ·)/\ ↥60 /\
  (0<=y->y<=10 ^ 40->∀t a1 a2 out H',H t=none->H a1=none->H a2=none->H' t=some (.tup [.ref a1,.ref a2])->H' a1=some (.lst (out.take (y-jn 0 0 ms (y+jc ns y-n)).toNat))->H' a2=some (.lst (out.drop (y-jn 0 0 ms (y+jc ns y-n)).toNat))->qw H' out (jE ms ↥2 wr g.rows (y+jc ns y-n))->jm H H'->Q (.ref t) H')))
theorem uU:FnScope ["ice","lane","place","year","rows","lived"] ["ice","lane","place","year"] (j8 kR):=by walk_at "s"
theorem YH (G:Cls K C) (j:CalMX P w K mg base 2 C "check_place" ["self","lane","place"] (spCheckPlace C CN CP)) (z:CalX P w K mg base 3 "ridden" ["ice","lane","year"] (spRidden C CN CY)) (U:CalX P w K mg base 4 "life" ["ice","lane","mark"] (spLife C CN))
  (F:Fun K "parted" "parted" kR f fd):FnOk P w K mg base (CX1 P w) 5 f fd ["ice","lane","place","year"] (spParted C CN CP CY):=by
 refine Fun.okX F uU ↥27 (λa5 A outer s H vs Q E hr h=>?_)
 ·obtain ⟨p,g,l,n,y,sk,wr,rfl,_⟩:=h
  rfl
 ·obtain ⟨p,g,l,n,y,sk,wr,rfl,I,N,ek,hw,an,am,kl,kp,k⟩:=h
  refine ⟨_,(j4 (jV (yr (pv 0) G j (hr.mono ⋯) qP (j0 (pv 1) ↥59)))
   (j4 (jq 4 uU.nd (xc U (hr.mono ⋯) qP rfl (j0 (pv 0) (j0 (pv 1) (j0 (jk jU (xc z (hr.mono ⋯) qP rfl ↥123) (pv 2)) j2)))))
   (j4 (jq 5 uU.nd (jk jU (pv 3) (jr (qM K) ↥147 j5 (λ_ _=>rfl))))
   (j9 (ji (jB (j0 (Xq (JQ K) (pv 4) Y3 (ZY (pv 5))) (j0 (Xq (JQ K) (pv 4) (ZY (pv 5)) Y3) j2)))))))),?_⟩
  walk_at "r"
  refine ⟨p,g.dx,_,rfl,I.ob,xf ∅,?_⟩
  walk_at "r"
  refine ⟨p,g,l,n,rfl,I,λl0 Z n0 n1=>?_,λc=>kl c,λl0 Z c=>kp l0 Z c⟩
  obtain ⟨a,ms,J,M,ac,hp,hs,ky,k⟩:=k l0 Z n0 n1
  have ab:∀q∈a,0<=q.1/\0<=q.2:=λq hq=>⟨M q hq,(J.2.2.2.2.2 q hq).1⟩
  have nd:(a.map (·.1)).Nodup:=J.2.2.2.1
  walk_at "r"
  refine ⟨p,g,l,y,rfl,I,N,(λc=>absurd c ()),λ_ _=>⟨a,J,ky,λH1 s1 y0 y1=>?_⟩⟩
  have k:=k y0 y1
  have e0:y+jc a y-(y+jc a y-n)=n:=()
  have ae:=(xq hp hs nd ab (y+jc a y-n) (↥2).length y y0).mp (by rw [e0];exact ⟨n0,n1⟩)
  have ap:=xJ ms ↥2 wr g.rows (y+jc a y-n)
  have O:=kC (ms:=ms) (gd:=g.slopes.getD l.toNat []) (wr:=wr) (ts:=g.rows) (m:=y+jc a y-n) (i:=0) ()
  obtain ⟨m,em⟩:∃m,y+jc a y-n=m:=⟨_,rfl⟩
  rw [em] at k ae ap O
  walk_at "r"
  refine ⟨p,g,l,m,sk,wr,by rw [<- em],I.same s1,N,ek,hw.keep (jp.same s1),an,am,(λH' _ c=>absurd c ()),λ_ _=>⟨a,ms,J,M,ac,hp,hs,λo H2 b ho x Y s2=>?_⟩⟩
  have a4:b.length=(jE ms ↥2 wr g.rows m).length:=aM Y
  have h0:0<b.length:=()
  obtain ⟨u,L,b0,a0,R⟩:=Paired.get Y (af h0)
  rw [O] at L
  have a3:u.1=jn 0 0 ms m:=by
   cases L
   show jn 0 0 ms m+((0:Nat):Int)=_
   right
  have R:H2 b0=some (.tup [.int u.1,.int u.2.1,.int u.2.2.1,.int u.2.2.2]):=R
  walk_at "r"
  refine ⟨_,_,_,_,rfl,rfl,SqL.of x,qI ⋯ (v:=V.ref b0) (by show b[0]? = _;rw [af h0,a0]),?_⟩
  walk_at "r"
  have S:y-u.1=(((y-jn 0 0 ms m).toNat:Nat):Int):=by rw [a3];right
  refine ⟨_,_,rfl,SqL.of x,λa1 H3 aL e X=>?_⟩
  walk_at "r"
  refine ⟨_,_,rfl,SqL.of (X _ _ x),λa2 H4 as d D=>?_⟩
  have e:H3 a1=some (.lst (b.take (y-jn 0 0 ms m).toNat)):=by rw [e,<- Wk,<- S]
  have d:H4 a2=some (.lst (b.drop (y-jn 0 0 ms m).toNat)):=by rw [d,<- V3,<- S]
  walk_at "r"
  refine ⟨by show 2<=sizeLine;decide,λt H5 ht al B=>?_⟩
  have t2:=s1.trans s2
  have T:=t2.trans X
  exact k t a1 a2 b H5 ((T.trans D).free ht) (t2.free aL) (T.free as) al (B _ _ (D _ _ e)) (B _ _ d) (Y.keep (jp.same (X.trans (D.trans B)))) (T.trans (D.trans B))
theorem ScAt.frM {sd:Addr}(S:ScAt H sd c) (f:FrM c.D H H'):ScAt H' sd c:=S.keep (N:=λ_=>False) (λc o h _=>f c o h) (λ_ _ _ z=>z) id S.nD id id id id (λ_ _=>id) id (λ_ _=>id)
theorem FrM.keepT (f:FrM M H H'):jp H H':=λa xs h=>f.at h ↥1
theorem FrM.put (f:FrM M H H') (n:H c=none):FrM M H (upd H' c o):=λd u a=>by
 have:d≠c:=λe=>by rw [e,n] at a;cases a
 rw [j7 this]
 exact f d u a
theorem FrM.no (f:FrM M H H') (n:H' c=none):H c=none:=by
 cases e:H c with
 | none=>rfl
 | some o =>
  rcases f c o e with h | ⟨_,_,_,_,h⟩
  ·rw [n] at h;cases h
  ·rw [n] at h;cases h
inductive spLifeAt  (vs:List V) (H:Hp) (Q:VK) (z_3:XK):Prop
 | mk (sd:Addr) (c:ScN) (l n y:Int) (wy:List Int) (da:Addr) (dn ms:List (Int×Int)) (wr:List (Int×T3)) (_:vs=[.ref sd,.int l,.int n,.int y]) (_:ScAt H sd c) (_:0<=l) (_:c.ws[l.toNat]? = some wy) (_:0<=n) (_:n< ↥46) (_:(ja c.rs wy).length<=100) (_:0<=y) (_:c.lds[l.toNat]? = some (da,dn)) (_:dn.length<=100) (_:(dn.map (·.1)).Nodup) (_:(∀q∈dn,0<=q.1/\0<=q.2/\q.2<=9)) (_:ms.Perm dn) (_: (↥45).Pairwise (· <= ·)) (_:xL H c.sk wr) (_:1<=c.ts.length) (_:c.ts.length<=1000) (_:∀o H' out,H o=none->H' o=some (.lst out)->qw H' out (jE ms (ja c.rs wy) wr c.ts (y+jc dn y-n))->FrM c.D H H'->Q (.ref o) H')
theorem jM:FnScope ["_law_scene_here","_law_lane","_law_place","_law_year_here","_law_ground_here","_law_one","_law_first","_law_step","_law_rows","_law_high","_law_when","_law_spot_here","_law_later"] ["_law_scene_here","_law_lane","_law_place","_law_year_here"] (j8 yd):=by walk_at "s"
theorem Z8 (nb:Nb2 mg) (j:Cal P w K mg base 1 "_law_ride" ["_law_scene_here","_law_lane","_law_year_here"] spRide) (G:Cal P w K mg base 1 "_law_wish" ["_law_row_here","_law_height"] spWish) (U:Cal P w K mg base 1 "_law_row" ["_law_scene_here","_law_year_here"] spRowL)
  (F:Fun K "_law_life_at" "_law_life_at" yd f fd):FnOk P w K mg base CX0 2 f fd ["_law_scene_here","_law_lane","_law_place","_law_year_here"] spLifeAt:=by
 refine F.ok jM ↥27 (λcd A outer s H vs Q E hr h=>?_)
 ·obtain ⟨C,c,l,n,y,wy,da,I,b,e,rfl,_⟩:=h
  rfl
 ·obtain ⟨C,c,l,n,y,wy,da,I,b,e,rfl,S,l0,a7,n0,n1,bs,y0,a9,B,Z,Y,M,hs,hw,t1,t2,k⟩:=h
  have T:=aA a9
  have aL:c.D da:=.inr ⟨_,T,rfl⟩
  have a1:c.lds.map (λx=>V.ref x.1)=(c.lds.map (·.1)).map V.ref:=by rw [bW];rfl
  have a3:(c.lds.map (·.1))[l.toNat]? = some da:=by rw [ay,a9];rfl
  have a4:∀q∈I,0<=q.2/\q.2<=9:=λq L=>⟨(Y q L).2.1,(Y q L).2.2⟩
  have X:∀q∈I,0<=q.1/\0<=q.2:=λq L=>⟨(Y q L).1,(Y q L).2.1⟩
  obtain ⟨one,a0⟩:∃one,y+jc I y-n=one:=⟨_,rfl⟩
  rw [a0] at k
  unfold jE at k
  have J:=λy=>xG M y
  have on:=λw hw=>xq M hs Z X one (ja c.rs wy).length w hw
  have a6:∀w,0<=w->(one<=w+jc I w↔jn 0 0 b one<=w):=λw hw=>by
   have:=wg b 0 0 one w (λq L=>X q (M.mem_iff.mp L)) (xi hs ((M.map (·.1)).nodup_iff.mpr Z)) hw
   rw [xG M,Int.add_zero] at this
   exact this
  have f0:=zt M hs X one
  have b6:=(on y y0).mp ⟨(),()⟩
  have b5:=vG M hs Z X one (ja c.rs wy).length ()
  generalize jn 0 0 b one=fst at *
  generalize jn 0 0 b (one+ ↥46)=g at *
  have bu:c.zs.length=c.ws.length:=(aM S.gi).trans (ah _)
  have a8:l.toNat<c.zs.length:=by rw [bu];exact (List.getElem?_eq_some_iff.mp a7).1
  obtain ⟨b3,an,ga,b4,R⟩:=Paired.get S.gi (af a8)
  have:b3=ja c.rs wy:=by
   rw [ay,a7] at an
   exact (aT an).symm
  subst this
  generalize cb:ja c.rs wy=d at *
  refine ⟨_,(j4 (jq 4 jM.nd ↥99)
   (j4 (jq 5 jM.nd (jk jU (je j (hr.mono ⋯) rfl ↥123) (pv 2)))
   (j4 (jq 6 jM.nd (pv 3))
   (j4 (qy aV rfl (qi rfl nb.b_range (j0 (jd (jg K) rfl nb.b_len aP (j0 (pv 4) j2)) j2)) (jb (i:=7) jM.nd rfl (aO rfl)) (j9 (jI (PW.pt (Qj (ju Wq (pv 6) j5 (jx _)) (wS (ju JE (je j (hr.mono ⋯) rfl (j0 (pv 0) (j0 (pv 1) (j0 (jk jU (pv 6) j5) j2)))) (pv 5) (jx _))))) (j9 (jq 6 jM.nd (jk jU (pv 6) j5))) js)))
   (j4 (jq 8 jM.nd (jD j2))
   (j4 (jq 9 jM.nd j5)
   (j4 (qy aV rfl (Jv rfl nb.b_range (j0 (pv 6) (j0 (jk jO (pv 3) (jd (jg K) rfl nb.b_len aP (j0 (pv 4) j2))) j2))) (jb (i:=10) jM.nd rfl (aO rfl)) (j4 (jq 11 jM.nd (jk jU (je j (hr.mono ⋯) rfl (j0 (pv 0) (j0 (pv 1) (j0 (pv 10) j2)))) (pv 5)))
   (j9 (jI (ju yt (pv 11) (jd (jg K) rfl nb.b_len aP (j0 (pv 4) j2)) (jx _)) (j4 (jq 12 jM.nd (jd (zj rfl) rfl nb.b_max mx (j0 j5 (j0 (jk jO (pv 9) (je G (hr.mono ⋯) rfl (j0 (je U (hr.mono ⋯) rfl (j0 (pv 0) (j0 (pv 10) j2))) (j0 (jr (jf K) (pv 4) (pv 11) (λ_ _=>rfl)) j2)))) j2))))
   (j4 (jV (xZ K b7 b9 ba jY (pv 8) (j0 (jB (j0 (pv 10) (j0 (pv 11) (j0 (jk jU (pv 12) (pv 9)) (j0 (pv 12) j2))))) j2)))
   (j9 (jq 9 jM.nd (pv 12))))) js))))
   (j9 (ji (pv 8)))))))))),?_⟩
  walk_at "r"
  refine ⟨C,.ref c.gl,rfl,by rw [<- qY c.p c.q c.sg c.gl c.ll];exact qU.k (k:=.inr "grounds") S.sd,?_⟩
  walk_at "r"
  refine ⟨_,_,_,_,rfl,rfl,SqL.of S.gl,qI l0 (v:=V.ref ga) (by rw [af a8,b4]),?_⟩
  walk_at "r"
  refine ⟨c.D,C,c.p,c.q,c.sg,c.gl,c.ll,da,c.lds.map (·.1),l,_,I,rfl,S.sd,(by rw [<- a1];exact S.ll),l0,a3,S.ld _ T,aL,S.nD,B,Z,a4,λH1 f1=>?_⟩
  walk_at "r"
  refine ⟨_,_,rfl,.inl (SqL.of (f1.at R ↥1)),?_⟩
  rw [ah]
  walk_at "r"
  refine ⟨(),(),?_⟩
  refine qK (lo:=0) (n:=(↥139).toNat) (λi σ H2=>∃x:Option V,σ=[some (.ref C),some (.int l),some (.int n),some (.int y),some (.ref ga),some (.int one),some (.int (max fst (y-(i:Int)))),x,none,none,none,none,none]/\FrM c.D H H2) ?_ ?_ ?_
  ·refine ⟨none,?_,f1⟩
   rw [show max fst (y-((0:Nat):Int))=y by right,<- a0]
   rfl
  ·rintro i σ H2 hi ⟨x,rfl,N⟩
   have S2:=S.frM N
   walk_at "r"
   refine qk (λbi=>?_) (λbi=>?_)
   ·walk_at "r"
    refine ⟨c.D,C,c.p,c.q,c.sg,c.gl,c.ll,da,c.lds.map (·.1),l,_,I,rfl,S2.sd,(by rw [<- a1];exact S2.ll),l0,a3,S2.ld _ T,aL,S2.nD,B,Z,a4,λH3 f3=>?_⟩
    walk_at "r"
    have am:=a6 (max fst (y-(i:Int))-1) ()
    refine qk (λap=>?_) (λap=>?_)
    ·have h1:=am.mp ap
     walk_at "r"
     refine ⟨some (.int (0+(i:Int))),?_,N.trans f3⟩
     rw [show max fst (y-((i+1:Nat):Int))=max fst (y-(i:Int))-1 by right]
     rfl
    ·have h1:=mt am.mpr ap
     walk_at "r"
     refine ⟨some (.int (0+(i:Int))),?_,N.trans f3⟩
     rw [show max fst (y-((i+1:Nat):Int))=max fst (y-(i:Int)) by right]
     rfl
   ·walk_at "r"
    refine ⟨some (.int (0+(i:Int))),?_,N⟩
    rw [show max fst (y-((i+1:Nat):Int))=max fst (y-(i:Int)) by right]
    rfl
  rintro σ H2 ⟨x,rfl,N⟩
  rw [show max fst (y-(((↥139).toNat:Nat):Int))=fst by right]
  walk_at "r"
  refine ⟨aG _,λfo H3 b2 bl s3=>?_⟩
  have as:H fo=none:=N.no b2
  have f3:=N.trans (FrM.of_same s3)
  walk_at "r"
  refine ⟨_,_,rfl,.inl (SqL.of (f3.at R ↥1)),?_⟩
  rw [ah]
  walk_at "r"
  refine ⟨_,_,rfl,?_⟩
  refine qK (λi σ H4=>∃(ae ac ab:Option V) (m:List V),σ=[some (.ref C),some (.int l),some (.int n),some (.int y),some (.ref ga),some (.int one),some (.int fst),x,some (.ref fo),some (.int (yE b d e c.ts one fst (min i (g-fst).toNat))),ae,ac,ab]/\H4 fo=some (.lst m)/\m.length=min i (g-fst).toNat/\qw H4 m (uu b d e c.ts one fst (min i (g-fst).toNat))/\FrM c.D H H4) ?_ ?_ ?_
  ·refine ⟨none,none,none,[],?_,bl,by rw [rE];rfl,by rw [rE];exact .nil,f3⟩
   rw [rE]
   rfl
  ·rintro i σ H4 hi ⟨ae,ac,ab,m,rfl,h4,O,r4,f4⟩
   have w0:0<=fst+(i:Int):=()
   have S4:=S.frM f4
   walk_at "r"
   refine ⟨c.D,C,c.p,c.q,c.sg,c.gl,c.ll,da,c.lds.map (·.1),l,_,I,rfl,S4.sd,(by rw [<- a1];exact S4.ll),l0,a3,S4.ld _ T,aL,S4.nD,B,Z,a4,λH5 f5=>?_⟩
   rw [<- J]
   have t:=f4.trans f5
   have S5:=S.frM t
   have h5:=f5.at h4 ↥1
   have r5:=r4.keep (FrM.keepT f5)
   have bv:=hw.keep (FrM.keepT t)
   have al:=on _ w0
   rw [<- J] at al
   walk_at "r"
   refine ⟨_,_,rfl,.inl (SqL.of (t.at R ↥1)),?_⟩
   rw [ah]
   walk_at "r"
   have bq:=(a6 _ w0).mpr ()
   rw [<- J] at bq
   refine qk (λo=>?_) (λo=>?_)
   ·have o:fst+(i:Int)+jc b (fst+(i:Int))-one< ↥139:=o
    have hN:=(al.mp ⟨(),o⟩).2
    have bk:0<=plc b one (fst+(i:Int))/\plc b one (fst+(i:Int))< ↥139:=⟨by unfold plc;right,o⟩
    have u:min i (g-fst).toNat=i:=()
    have a5:min (i+1) (g-fst).toNat=i+1:=()
    rw [u] at O r5
    rw [u]
    walk_at "r"
    refine ⟨C,c,fst+(i:Int),e,rfl,S5,bv,t1,t2,λtr b0=>?_⟩
    walk_at "r"
    refine ⟨_,_,_,_,rfl,rfl,SqL.of (t.at R ↥1),qI bk.1 (U2 ()),?_⟩
    walk_at "r"
    refine ⟨tr,_,_,rfl,b0,?_⟩
    walk_at "r"
    refine ⟨_,_,rfl,?_⟩
    walk_at "r"
    refine ⟨.inl ⟨rfl,_,SqL.of h5⟩,?_⟩
    walk_at "r"
    refine ⟨by show 4<=sizeLine;decide,λtq H6 b1 bd s6=>?_⟩
    refine ⟨_,_,_,rfl,rfl,s6 _ _ h5,jj (),?_⟩
    have bn:tq≠fo:=(j1 h5 b1).symm
    have a2:yE b d e c.ts one fst (i+1)=(if yE b d e c.ts one fst i+xz b d e c.ts one (fst+(i:Int)) > 0 then yE b d e c.ts one fst i+xz b d e c.ts one (fst+(i:Int)) else 0):=by
     show yE b d e c.ts one fst i+(if xz b d e c.ts one (fst+(i:Int)) > - yE b d e c.ts one fst i then xz b d e c.ts one (fst+(i:Int)) else-yE b d e c.ts one fst i)=_
     split <;> split <;> right
    have bm:(if xz b d e c.ts one (fst+(i:Int)) > - yE b d e c.ts one fst i then xz b d e c.ts one (fst+(i:Int)) else-yE b d e c.ts one fst i)=(if yE b d e c.ts one fst i+xz b d e c.ts one (fst+(i:Int)) > 0 then yE b d e c.ts one fst i+xz b d e c.ts one (fst+(i:Int)) else 0)-yE b d e c.ts one fst i:=by split <;> split <;> right
    walk_at "r"
    rw [a5]
    refine ⟨some (.int (fst+(i:Int))),some (.int (plc b one (fst+(i:Int)))),_,m++[.ref tq],by rw [a2];rfl,j6,by rw [ao,O];rfl,?_,(t.trans (FrM.of_same s6)).put as⟩
    rw [gz]
    refine bV (r5.keep λa xs q=>by rw [j7 (jo (s6 _ _ q) (s6 _ _ h5) ↥4)];exact s6 _ _ q) ⟨tq,rfl,?_⟩
    rw [j7 bn,bd]
    unfold wX
    rw [a2,bm]
    rfl
   ·have o:¬fst+(i:Int)+jc b (fst+(i:Int))-one< ↥139:=o
    have hN:=mt al.mpr (λz=>o z.2)
    have u:min (i+1) (g-fst).toNat=min i (g-fst).toNat:=()
    walk_at "r"
    rw [u]
    exact ⟨_,_,_,m,rfl,h5,O,r5,t⟩
  ·rintro σ H4 ⟨ae,ac,ab,m,rfl,h4,O,r4,f4⟩
   rw [show min (y+ ↥139-fst).toNat (g-fst).toNat=(g-fst).toNat by right] at r4
   walk_at "r"
   exact k fo H4 m as h4 r4 f4
section
variable {L:List Q4}{dp mv pl:Nat->Int}{fst:Int}{n:Nat}
end
theorem yp (ns:List (Int×Int)):∃ms:List (Int×Int),ms.Perm ns/\ (↥45).Pairwise (· <= ·):=by
 refine ⟨ns.mergeSort (λa b=>decide (a.1<=b.1)),List.mergeSort_perm _ _,?_⟩
 rw [List.pairwise_map]
 exact (List.pairwise_mergeSort (λa b c h1 h2=>by simp at *;right) (λa b=>by simp;right) ns).imp λh=>by simpa using h
theorem xL.good :∀{sk:List (Int×Addr)}{wr:List (Int×T3)},xL H sk wr->(∀z∈sk,∃t,H z.2=some (yW t)/\good t=true)->∀q∈wr,good q.2=true
 | _,_,.nil,_,q,f=>by cases f
 | z::r,x::t,.cons ⟨_,h⟩ tl,g,q,f=>by
  rcases List.mem_cons.mp f with e | e
  ·subst e
   obtain ⟨u,i,k⟩:=g z (aK ..)
   rw [h] at i
   have:yW q.2=yW u:=aT i
   have n:q.2.1=u.1:=by injection this with this;injection this with a b;exact V.int.inj a
   have m:q.2.2.1=u.2.1:=by injection this with this;injection this with a b;injection b with b c;exact V.int.inj b
   have l:q.2.2.2=u.2.2:=by injection this with this;injection this with a b;injection b with b c;injection c with c d;exact V.int.inj c
   rw [show q.2=u from Prod.ext n (Prod.ext m l)]
   exact k
  ·exact xL.good tl (λz j=>g z (aH _ j)) q e
theorem VB {wr:List (Int×T3)}{ts:List T3}(h1:∀q∈wr,good q.2=true) (h2:ts.all good=true) (j:1<=ts.length) (y:Int):good (zJ wr ts y)=true:=by
 unfold zJ
 cases e:wr.find? λq=>decide (q.1=y) with
 | some q=>exact h1 q (dG e)
 | none =>
  have b:=eY y (show ↥107≠0 by right)
  have a:=dA y (show (0:Int)<ts.length by right)
  have hi:(y % ↥107).toNat<ts.length:=()
  show good (ts.getD (y % ↥107).toNat (0,0,0))=true
  rw [aq,af hi]
  exact List.all_eq_true.mp h2 _ (c7 hi)
theorem VA {t:T3}(g:good t=true) (h:Int):chg t h<=9:=by
 unfold good at g
 have:=of_decide_eq_true g
 unfold chg
 split <;> right
noncomputable def zP:Int->List Q4->List Q4
 | _,[]=>[]
 | b,q::r=>↥36::(if q.2.2.2=0 then [] else zP (min b q.2.2.2) r)
noncomputable def xB (j:List Q4):List Q4:=zP (j.headD (0,0,0,0)).2.2.2 j
theorem wZ {b:Int}{q:Q4}{r:List Q4}:zP b (q::r)≠[]:=by
 unfold zP
 exact List.cons_ne_nil _ _
theorem gH:∀(j:List Q4) (b:Int),(zP b j).length<=j.length
 | [],_=>ar _
 | q::r,b=>by
  unfold zP
  rw [bf,bf]
  have:=gH r (min b q.2.2.2)
  split
  ·exact cu (aG _)
  ·right
noncomputable def Zb (st:List (Int×Int)) (q:Q4):List (Int×Int) :=
 if q.2.2.1=0 then st else
  match st.getLast? with
  | some p=>if p.2=q.1-1 then st.dropLast++[(p.1,q.1)] else st++[(q.1,q.1)]
  | none=>st++[(q.1,q.1)]
noncomputable def QE (j:List Q4):List (Int×Int):=j.foldl Zb []
noncomputable def Hd (j:List Q4) (t:Int):Prop:=∃q∈j,q.1=t/\q.2.2.1≠0
inductive spWay (C CN CP CY:Addr) (vs:List V) (H:Hp) (Q:VK) (E:XK):Prop
 | mk (p:Addr) (g:IceG) (l n y:Int) (sk:List (Int×Addr)) (wr:List (Int×T3)) (_:vs=[.ref p,.int l,.int n,.int y]) (_:IceAt C H p g) (_:g.lds.length=g.slopes.length) (_:g.kvs=sk.map kvA) (_:xL H sk wr) (_:1<=g.rows.length) (_:g.rows.length<=1000) (_: ↥31) (_: ↥137) (_:(0<=l->l< ↥9->0<=n->n< ↥49->∃ns ms,Xj g l ns/\(∀q∈ns,0<=q.1)/\ (↥2).length<=100/\ms.Perm ns/\ (↥45).Pairwise (· <= ·)/\ ↥60 /\
  (0<=y->y<=10 ^ 40->∀o out H',H o=none->H' o=some (.lst out)->qw H' out (xB ↥80)->jm H H'->Q (.ref o) H')))
theorem yO:FnScope ["ice","lane","place","year","onward","beneath","rows","when","where","moved","lying"] ["ice","lane","place","year"] (j8 Vw):=by walk_at "s"
theorem GL (nb:Nb2 mg) (U:CalX P w K mg base 5 "parted" ["ice","lane","place","year"] (spParted C CN CP CY))
  (F:Fun K "way" "way" Vw f fd):FnOk P w K mg base (CX1 P w) 6 f fd ["ice","lane","place","year"] (spWay C CN CP CY):=by
 refine Fun.okX F yO ↥27 (λcb A outer s H vs Q E hr h=>?_)
 ·obtain ⟨p,g,l,n,y,sk,S,rfl,_⟩:=h
  rfl
 ·obtain ⟨p,g,l,n,y,sk,S,rfl,I,bi,ek,hw,bd,a9,kl,kp,k⟩:=h
  refine ⟨_,(j4 (jq 4 yO.nd (jr (qM K) (xc U (hr.mono ⋯) qP rfl ↥64) j5 (λ_ _=>rfl)))
   (j4 (jq 5 yO.nd (jr (qM K) ↥147 j5 (λ_ _=>rfl)))
   (j4 (jq 6 yO.nd (jD j2))
   (j4 (Ud (qy aV rfl (jW K (pv 4)) (qg (n:=4) K rfl (jh (jb (i:=7) yO.nd rfl (aO rfl)) (jh (jb (i:=8) yO.nd rfl (aO rfl)) (jh (jb (i:=9) yO.nd rfl (aO rfl)) (jh (jb (i:=10) yO.nd rfl (aO rfl)) qa))))) (j4 (jq 5 yO.nd (jd (zQ rfl) rfl nb.b_min om (j0 (pv 5) (j0 (pv 10) j2))))
   (j4 (jV (xZ K b7 b9 ba jY (pv 6) (j0 (jB (j0 (pv 7) (j0 (pv 8) (j0 (jk jU (pv 10) (pv 5)) (j0 (pv 5) j2))))) j2)))
   (j9 (jI (ju x4 (pv 10) j5 (jx _)) (j9 QT) js))))))
   (j9 (ji (pv 6))))))),?_⟩
  walk_at "r"
  refine ⟨p,g,l,n,y,sk,S,rfl,I,bi,ek,hw,bd,a9,kl,kp,λl0 l1 n0 n1=>?_⟩
  obtain ⟨u,J,hL,as,a4,hp,hs,ky,k⟩:=k l0 l1 n0 n1
  refine ⟨u,J,hL,as,a4,hp,hs,ky,λy0 y1 t a1 a2 al H1 ht b6 b5 bv bm D r1 s1=>?_⟩
  have ab:∀q∈u,0<=q.1/\0<=q.2:=λq hq=>⟨as q hq,(hL.2.2.2.2.2 q hq).1⟩
  have nd:(u.map (·.1)).Nodup:=hL.2.2.2.1
  have e0:y+jc u y-(y+jc u y-n)=n:=()
  have bu:=(xq hp hs nd ab (y+jc u y-n) (↥2).length y y0).mp (by rw [e0];exact ⟨n0,n1⟩)
  have b3:=xJ J ↥2 S g.rows (y+jc u y-n)
  have bn:=vG hp hs nd ab (y+jc u y-n) (↥2).length ()
  have k:=k y0 y1
  have r2:qw H1 (al.drop (y-jn 0 0 J (y+jc u y-n)).toNat) ((jE J ↥2 S g.rows (y+jc u y-n)).drop (y-jn 0 0 J (y+jc u y-n)).toNat):=qw.drop _ r1
  generalize y+jc u y-n=m at *
  generalize b4:(y-jn 0 0 J m).toNat=kk at *
  generalize an:(jE J ↥2 S g.rows m).drop kk=rows at *
  have a8:0<rows.length:=by rw [<- an,cq];right
  have bk:rows.length<=100:=by rw [<- an,cq];right
  obtain ⟨G,ap⟩:∃q,rows[0]? = some q:=⟨_,af a8⟩
  generalize b1:al.drop kk=ov at *
  have b2:ov.length=rows.length:=aM r2
  obtain ⟨v0,am⟩:∃v,ov[0]? = some v:=⟨_,af ()⟩
  obtain ⟨bs,Z,b0,rfl,aL⟩:=Paired.get r2 am
  rw [ap] at Z
  cases Z
  have aL:H1 b0=some (.tup [.int G.1,.int G.2.1,.int G.2.2.1,.int G.2.2.2]):=aL
  have a6:xB rows=zP G.2.2.2 rows:=by
   unfold xB
   rw [m9,mP,ap]
   rfl
  rw [a6] at k
  walk_at "r"
  refine ⟨_,_,_,_,rfl,rfl,SqL.of D,qI ⋯ (v:=V.ref b0) am,?_⟩
  walk_at "r"
  refine ⟨aG _,λrw_ H5 B a3 s5=>?_⟩
  have ae:H rw_=none:=s1.free B
  walk_at "r"
  refine ⟨⟨_,SqL.of (s5 _ _ D)⟩,?_⟩
  refine zx (K:=K) (a:=a2) (xs:=ov) (λi σ H6=>∃(x8 x9 N M:Option V) (b:Int) (X:List Q4) (d:List V),σ=[some (.ref p),some (.int l),some (.int n),some (.int y),some (.ref a2),some (.int b),some (.ref rw_),x8,x9,N,M]/\H6 rw_=some (.lst d)/\qw H6 d X/\X.length=i/\zP G.2.2.2 rows=X++zP b (rows.drop i)/\Ext rw_ H1 H6) ?_ ?_ ?_ ?_
  ·exact ⟨_,_,_,_,_,[],[],rfl,a3,.nil,rfl,rfl,λc o x _=>s5 _ _ x⟩
  ·rintro i σ H6 hi ⟨x8,x9,N,M,b,X,d,rfl,L,O,hX,j,R⟩
   exact SqL.of (R _ _ D (j1 D B))
  ·rintro i v σ H6 hv ⟨x8,x9,N,M,b,X,d,rfl,L,O,hX,j,R⟩
   obtain ⟨q,hq,bq,rfl,ac⟩:=Paired.get r2 hv
   have hi:i<rows.length:=(↥109).1
   have ac:H1 bq=some ↥74:=ac
   have s6:jm H1 H6:=λc o x=>R c o x (j1 x B)
   have bl:d.length=X.length:=aM O
   have ed:rows.drop i=q::rows.drop (i+1):=by
    have:=(↥109).2
    rw [<- this]
    exact bO hi
   rw [ed] at j
   have j:zP G.2.2.2 rows=X++(↥36::(if q.2.2.2=0 then [] else zP (min b q.2.2.2) (rows.drop (i+1)))):=j
   walk_at "r"
   refine ⟨bq,_,rfl,SqT.of (s6 _ _ ac),rfl,?_⟩
   refine ⟨_,_,rfl,_,_,rfl,_,_,rfl,_,_,rfl,rfl,?_⟩
   walk_at "r"
   refine ⟨_,_,rfl,?_⟩
   walk_at "r"
   rw [show (if q.2.2.2<b then q.2.2.2 else b)=min b q.2.2.2 by split <;> right]
   refine ⟨.inl ⟨rfl,_,SqL.of L⟩,?_⟩
   walk_at "r"
   refine ⟨by show 4<=sizeLine;decide,λT H7 a7 a0 Y=>?_⟩
   refine ⟨_,_,_,rfl,rfl,Y _ _ L,jj (),?_⟩
   have a5:T≠rw_:=(j1 L a7).symm
   have e8:Ext rw_ H1 (upd H7 rw_ (.lst (d++[.ref T]))):=λc o x n=>by rw [j7 n];exact Y _ _ (R c o x n)
   have r8:qw (upd H7 rw_ (.lst (d++[.ref T]))) (d++[.ref T]) (X++[↥36]):=bV (O.keep λa xs q=>by rw [j7 (jo (Y _ _ q) (Y _ _ L) ↥4)];exact Y _ _ q) ⟨T,rfl,by rw [j7 a5];exact a0⟩
   walk_at "r"
   refine qk (λz=>?_) (λz=>?_)
   ·rw [if_pos (V.int.inj z)] at j
    walk_at "r"
    exact k rw_ _ _ ae j6 (by rw [j];exact r8) (s1.trans λc o x=>e8 c o x (j1 x B))
   ·rw [if_neg λe=>z (congrArg V.int e)] at j
    walk_at "r"
    exact ⟨_,_,_,_,min b q.2.2.2,X++[↥36],_,rfl,j6,r8,by rw [ao,hX];rfl,by rw [j,cA];rfl,e8⟩
  ·rintro σ H6 ⟨x8,x9,N,M,b,X,d,rfl,L,O,hX,j,R⟩
   rw [cw ()] at j
   have j:zP G.2.2.2 rows=X:=by rw [j];exact aF _
   rw [<- j] at O
   walk_at "r"
   exact k rw_ d H6 ae L O (s1.trans λc o x=>R c o x (j1 x B))
inductive ResD where
 | left (y n:Int)
 | off (y:Int)
noncomputable def Yg:ResD->List V
 | .left y n=>[.str "left",.int y,.int n]
 | .off y=>[.str "off",.int y]
noncomputable def uE (W:List Q4):ResD :=
 if (W.getLastD (0,0,0,0)).2.2.1+(W.getLastD (0,0,0,0)).2.2.2=0 then .left (W.getLastD (0,0,0,0)).1 (W.getLastD (0,0,0,0)).2.1 else .off ((W.getLastD (0,0,0,0)).1+1)
inductive spRest (C CN CP CY:Addr) (vs:List V) (H:Hp) (Q:VK) (E:XK):Prop
 | mk (p:Addr) (g:IceG) (l n y:Int) (sk:List (Int×Addr)) (wr:List (Int×T3)) (_:vs=[.ref p,.int l,.int n,.int y]) (_:IceAt C H p g) (_:g.lds.length=g.slopes.length) (_:g.kvs=sk.map kvA) (_:xL H sk wr) (_:1<=g.rows.length) (_:g.rows.length<=1000) (_: ↥31) (_: ↥137) (_:(0<=l->l< ↥9->0<=n->n< ↥49->∃ns ms,Xj g l ns/\(∀q∈ns,0<=q.1)/\ (↥2).length<=100/\ms.Perm ns/\ (↥45).Pairwise (· <= ·)/\ ↥60 /\
  (0<=y->y<=10 ^ 40->∀W,W=xB ↥80->W≠[]/\∀o H',H o=none->H' o=some (.tup (Yg (uE W)))->jm H H'->Q (.ref o) H')))
theorem uQ:FnScope ["ice","lane","place","year","when","where","above","beneath"] ["ice","lane","place","year"] (j8 ZJ):=by walk_at "s"
theorem Uo (G:CalX P w K mg base 6 "way" ["ice","lane","place","year"] (spWay C CN CP CY))
  (F:Fun K "rest" "rest" ZJ f fd):FnOk P w K mg base (CX1 P w) 7 f fd ["ice","lane","place","year"] (spRest C CN CP CY):=by
 refine Fun.okX F uQ ↥27 (λab A outer s H vs Q E hr h=>?_)
 ·obtain ⟨p,g,l,n,y,N,v,rfl,_⟩:=h
  rfl
 ·obtain ⟨p,g,l,n,y,N,v,rfl,I,Z,ek,hw,T,S,kl,kp,k⟩:=h
  refine ⟨_,(j4 (xw (jr (jf K) (xc G (hr.mono ⋯) qP rfl ↥64) (vd zG j5) (λ_ _=>rfl)) (qg (n:=4) K rfl (jh (jb (i:=4) uQ.nd rfl (aO rfl)) (jh (jb (i:=5) uQ.nd rfl (aO rfl)) (jh (jb (i:=6) uQ.nd rfl (aO rfl)) (jh (jb (i:=7) uQ.nd rfl (aO rfl)) qa))))))
   (j4 (jI (ju x4 (jk jO (pv 6) (pv 7)) j5 (jx _)) (j9 (ji (jB (j0 jt (j0 (pv 4) (j0 (pv 5) j2)))))) js)
   (j9 (ji (jB (j0 jt (j0 (jk jO (pv 4) j5) j2))))))),?_⟩
  walk_at "r"
  refine ⟨p,g,l,n,y,N,v,rfl,I,Z,ek,hw,T,S,kl,kp,λl0 l1 n0 n1=>?_⟩
  obtain ⟨D,J,hL,X,L,hp,hs,ky,k⟩:=k l0 l1 n0 n1
  refine ⟨D,J,hL,X,L,hp,hs,ky,λy0 y1 o b H1 ho u O s1=>?_⟩
  obtain ⟨hn,k⟩:=k y0 y1 _ rfl
  generalize xB ((jE J ↥2 v g.rows (y+jc D y-n)).drop (y-jn 0 0 J (y+jc D y-n)).toNat)=W at *
  have t:b.length=W.length:=aM O
  have Y:b≠[]:=λz=>hn (eF (by rw [<- t,z];rfl))
  obtain ⟨c,vl,m⟩:∃c vl,b=c++[vl]:=⟨_,_,(eZ Y).symm⟩
  have R:b[c.length]? = some vl:=by rw [m,bX (ar _),mK];rfl
  obtain ⟨ql,U,bl,rfl,j⟩:=Paired.get O R
  have q:W.getLastD (0,0,0,0)=ql:=by
   have e1:W.length=c.length+1:=by rw [<- t,m,ao];rfl
   rw [List.getLastD_eq_getLast?,List.getLast?_eq_getElem?,e1,px,U]
   rfl
  have j:H1 bl=some (.tup [.int ql.1,.int ql.2.1,.int ql.2.2.1,.int ql.2.2.2]):=j
  unfold uE at k
  rw [q] at k
  rw [m] at u
  walk_at "r"
  refine ⟨_,_,_,_,rfl,rfl,SqL.of u,yF _ _,?_⟩
  refine ⟨bl,_,rfl,SqT.of j,rfl,?_⟩
  refine ⟨_,_,rfl,_,_,rfl,_,_,rfl,_,_,rfl,rfl,?_⟩
  walk_at "r"
  refine qk (λz=>?_) (λz=>?_)
  ·rw [if_pos (V.int.inj z)] at k
   walk_at "r"
   refine ⟨by show 3<=sizeLine;decide,λx M d a B=>?_⟩
   exact k x M (s1.free d) a (s1.trans B)
  ·rw [if_neg λe=>z (congrArg V.int e)] at k
   walk_at "r"
   refine ⟨by show 2<=sizeLine;decide,λx M d a B=>?_⟩
   exact k x M (s1.free d) a (s1.trans B)
theorem gJ {l y:Int}{Q:VK}(S:ScAt H z c) (j:LaneF c g l G da dn) (k:∀H',FrM c.D H H'->Q (.int (y+jc dn y)) H'):spRide [.ref z,.int l,.int y] H Q E:=by
 have a:=aA j.cd
 have d:c.lds.map (λx=>V.ref x.1)=(c.lds.map (·.1)).map V.ref:=by rw [bW];rfl
 have e:(c.lds.map (·.1))[l.toNat]? = some da:=by rw [ay,j.cd];rfl
 have h:=j.l10
 exact ⟨c.D,z,c.p,c.q,c.sg,c.gl,c.ll,da,c.lds.map (·.1),l,_,dn,rfl,S.sd,(by rw [<- d];exact S.ll),j.l0,e,S.ld _ a,j.D,S.nD,(),j.nd,λq f=>by have:=j.b q f;right,k⟩
theorem ScAt.gnd {sd:Addr}{l:Int}(S:ScAt H sd c) (z:LaneF c g l G I dn):∃j,atI c.zs l=some (V.ref j)/\H j=some (.lst ((ja c.rs G).map V.int)):=by
 have b:c.zs.length=c.ws.length:=(aM S.gi).trans (ah _)
 have hi:l.toNat<c.zs.length:=by rw [b];exact (List.getElem?_eq_some_iff.mp z.way).1
 obtain ⟨f,a,j,e,d⟩:=Paired.get S.gi (af hi)
 rw [ay,z.way] at a
 have a:=aT a
 subst a
 exact ⟨j,qI z.l0 (by rw [af hi,e]),d⟩
noncomputable def yh (R:Int) (n:Nat):List Int:=(aJ n).map λp:Nat=>R-(p:Int)
theorem wj (R:Int) (n:Nat):(yh R n).length=n:=by
 unfold yh
 rw [ah,bz]
theorem V8 {R:Int}{n p:Nat}(h:p<n):(yh R n)[p]? = some (R-(p:Int)):=by
 unfold yh
 rw [ay,dX h]
 rfl
inductive spMarks  (vs:List V) (H:Hp) (Q:VK) (z_3:XK):Prop
 | mk (sd:Addr) (c:ScN) (g:IceG) (l y:Int) (wy:List Int) (da:Addr) (dn:List (Int×Int)) (_:vs=[.ref sd,.int l,.int y]) (_:ScAt H sd c) (_:LaneF c g l wy da dn) (_:∀o H',H o=none->H' o=some (.lst ((yh (y+jc dn y) (ja c.rs wy).length).map V.int))->FrM c.D H H'->Q (.ref o) H')
theorem uA:FnScope ["_law_scene_here","_law_lane","_law_year_here","_law_ride_here"] ["_law_scene_here","_law_lane","_law_year_here"] (j8 y9):=by walk_at "s"
theorem U7 (z:Nb2 mg) (j:Cal P w K mg base 1 "_law_ride" ["_law_scene_here","_law_lane","_law_year_here"] spRide)
  (F:Fun K "_law_marks" "_law_marks" y9 f fd):FnOk P w K mg base CX0 2 f fd ["_law_scene_here","_law_lane","_law_year_here"] spMarks:=by
 refine F.ok uA (λI H Q E h=>?_) (λO A outer s H I Q E B h=>?_)
 ·obtain ⟨v,c,g,l,y,u,L,e,rfl,_⟩:=h
  rfl
 ·obtain ⟨v,c,g,l,y,u,L,e,rfl,S,t,k⟩:=h
  have M:=t.g30
  refine ⟨_,(j4 (zS (i:=3) uA.nd rfl (dQ rfl) (je j (B.mono ⋯) rfl (j0 (pv 0) (j0 (pv 1) ↥59))))
   (j9 (ji (qd (osc:=(j8 y9)) (ON:=["_law_scene_here","_law_lane","_law_year_here","_law_ride_here"]) (N:=["_law_place","_law_ride_here"]) (own:=1) (caps:=[3]) ⟨rfl,∅,∅,∅,rfl,∅⟩ rfl rfl rfl (qi rfl z.b_range (j0 (jd (jg K) rfl z.b_len aP (j0 (jr (jf K) (jF (jR B) (pv 0) jt (λ_ _=>rfl)) (pv 1) (λ_ _=>rfl)) j2)) j2)) (λ_ _ _ _ _=>(jb (i:=0) (show bg (["_law_place","_law_ride_here"]:List Str) by decide +kernel) rfl (aO rfl))) ↥33 (λ_ _ _ _ _=>(jk jU (pv 1) (pv 0))))))),?_⟩
  walk_at "r"
  simp only [uP,aF]
  refine gJ S t λH1 b=>?_
  have m:=S.frM b
  obtain ⟨J,G,C⟩:=m.gnd t
  walk_at "r"
  refine ⟨v,.ref c.gl,rfl,by rw [<- qY c.p c.q c.sg c.gl c.ll];exact qU.k (k:=.inr "grounds") m.sd,?_⟩
  walk_at "r"
  refine ⟨_,_,_,_,rfl,rfl,SqL.of m.gl,G,?_⟩
  walk_at "r"
  refine ⟨J,_,rfl,.inl (SqL.of C),?_⟩
  rw [ah]
  walk_at "r"
  refine ⟨(),(),λacc a=>?_⟩
  refine xj (lo:=0) (n:=(((ja c.rs u).length:Nat):Int).toNat) (acc:=acc) (λi σ H2=>∃x:Option V,σ=[x,some (.int (y+jc e y))]/\H2 acc=some (.lst ((yh (y+jc e y) i).map V.int))/\Ext acc H1 H2) ?_ ?_ ?_
  ·exact ⟨none,rfl,j6,Ext.put⟩
  ·rintro i σ H2 hi ⟨x,rfl,h2,d⟩
   walk_at "r"
   refine ⟨_,h2,by rw [ah,wj];exact jj (),_,rfl,?_,d.trans Ext.put⟩
   unfold yh
   rw [j6,cE,aE,aE,eQ]
   rfl
  ·rintro σ H2 ⟨x,rfl,h2,d⟩
   rw [bE] at h2
   walk_at "r"
   exact k acc H2 (b.no a) h2 (b.trans (FrM.of_same λc o D=>d c o D (j1 D a)))
theorem jN.same {ts:List T3}(r:jN H vs ts) (s:jm H H'):jN H' vs ts:=r.imp λ_ _ q=>s _ _ q
theorem jN.keep {ts:List T3}(r:jN H vs ts) (s:jp H H'):jN H' vs ts:=r.imp λ_ _ q=>s _ _ q
noncomputable def yx (t:T3):List Key:=[.inl t.1,.inl t.2.1,.inl t.2.2]
noncomputable def jA (H:Hp) (ps:List (Int×Addr)) (j:List (Int×List T3)):Prop:=cU (λ(z:Int×Addr) (q:Int×List T3)=>z.1=q.1/\∃a,H z.2=some (.lst a)/\jN H a q.2) ps j
noncomputable def qJ (G:List Key->List V->Prop) (H:Hp) (ea:Addr) (n:Nat):Prop:=∃kvs:List (List Key×V),H ea=some (.dT kvs)/\kvs.length<=n/\∀k v,qh kvs k=some v->∃t xs,v=V.ref t/\H t=some (.tup xs)/\G k xs
theorem qJ.mono {n m:Nat}(h:qJ G H ea n) (l:n<=m):qJ G H ea m:=by
 obtain ⟨kvs,h1,h2,a⟩:=h
 exact ⟨kvs,h1,aI h2 l,a⟩
theorem qJ.keep {n:Nat}(h:qJ G H ea n) (t:jp H H') (d:∀kvs,H ea=some (.dT kvs)->H' ea=some (.dT kvs)):qJ G H' ea n:=by
 obtain ⟨kvs,h1,h2,f⟩:=h
 refine ⟨kvs,d _ h1,h2,λk v b=>?_⟩
 obtain ⟨a,xs,e,c,g⟩:=f k v b
 exact ⟨a,xs,e,t _ _ c,g⟩
theorem qJ.put {G:List Key->List V->Prop}{H:Hp}{t:Addr}{n:Nat}{kvs:List (List Key×V)}{k:List Key}{xs:List V}(h1:H ea=some (.dT kvs)) (h2:kvs.length<=n) (I:∀k v,qh kvs k=some v->∃t xs,v=V.ref t/\H t=some (.tup xs)/\G k xs) (j:H t=some (.tup xs)) (g:G k xs):qJ G (upd H ea (.dT (qQ kvs k (.ref t)))) ea (n+1):=by
 have c:∀{a:Addr} {ys:List V},H a=some (.tup ys)->(upd H ea (.dT (qQ kvs k (.ref t)))) a=some (.tup ys):=λh=>by rw [j7 (jo h h1 ↥4)];exact h
 refine ⟨_,j6,aI (y3 _ _ _) (),λd v b=>?_⟩
 rw [VZ] at b
 by_cases e:d=k
 ·rw [if_pos e] at b
  cases b
  subst e
  exact ⟨t,xs,rfl,c j,g⟩
 ·rw [if_neg e] at b
  obtain ⟨f,ys,m,i,l⟩:=I d v b
  exact ⟨f,ys,m,c i,l⟩
theorem jA.keep {ps:List (Int×Addr)}(h:jA H ps cs) (t:jp H H') (l:∀z∈ps,∀j,H z.2=some (.lst j)->H' z.2=some (.lst j)):jA H' ps cs:=pmM h λz a q ⟨e,j,h1,h2⟩=>⟨e,j,l z a j h1,jN.keep h2 t⟩
noncomputable def qH (j:List (Int×List T3)) (m:Int):List T3:=((j.find? λq=>decide (q.1=m)).map (·.2)).getD []
noncomputable def zi (hs:List T3) (y p w:Int):List T3:=if 0<w then hs++(aJ w.toNat).map (λk:Nat=>(y,p,(k:Int))) else hs.take (hs.length-(- w).toNat)
theorem jA.find :∀{ps:List (Int×Addr)}{G:List (Int×List T3)},jA H ps G->∀m:Int,(qh (ps.map kvA) (.inl m)=none/\qH G m=[])\/∃a j,qh (ps.map kvA) (.inl m)=some (.ref a)/\H a=some (.lst j)/\jN H j (qH G m)/\∃q∈G,q.2=qH G m
 | _,_,.nil,m=>.inl ⟨rfl,rfl⟩
 | _,_,.cons (a:=z) (b:=q) ⟨e,j,h1,h2⟩ r,m=>by
  by_cases w:z.1=m
  ·refine .inr ⟨z.2,j,?_,h1,?_⟩
   ·rw [aS]
    show qh (((.inl z.1:Key),V.ref z.2)::_) (.inl m:Key)=_
    rw [w]
    exact xA
   ·have c:∀l,qH (q::l) m=q.2:=λl=>by
     unfold qH
     rw [iu (by rw [decide_eq_true (e ▸ w)])]
     rfl
    rw [c]
    exact ⟨h2,q,aK ..,rfl⟩
  ·have c:∀l,qH (q::l) m=qH l m:=λl=>by
    unfold qH
    rw [iz (by rw [decide_eq_false (λx=>w (e.trans x))];exact au)]
   have p:∀l:List (Int×Addr),qh ((z::l).map kvA) (.inl m)=qh (l.map kvA) (.inl m):=λl=>by
    rw [aS]
    exact jy λx=>w (eC x)
   rw [c,p]
   rcases jA.find r m with h | ⟨a,o,n,k,i,f,d,g⟩
   ·exact .inl h
   ·exact .inr ⟨a,o,n,k,i,f,aH _ d,g⟩
theorem jA.keep2 {H':Hp}{ea pa:Addr}(h:jA H ps cs) (k:∀a u,H a=some u->a≠ea->a≠pa->H' a=some u) (e:∀xs,H ea≠some (.lst xs)/\H ea≠some (.tup xs)) (p:∀xs,H pa≠some (.lst xs)/\H pa≠some (.tup xs)):jA H' ps cs :=
 h.keep (λa xs d=>k a _ d (λz=>(e xs).2 (z ▸ d)) (λz=>(p xs).2 (z ▸ d))) λz _ b c=>k _ _ c (λw=>(e b).1 (w ▸ c)) (λw=>(p b).1 (w ▸ c))
theorem jA.none {m:Int}:∀{ps:List (Int×Addr)}{j:List (Int×List T3)},jA H ps j->(∀q∈j,q.1≠m)->qh (ps.map kvA) (.inl m)=none
 | _,_,.nil,_=>rfl
 | _,_,.cons (a:=z) (b:=q) ⟨e,_⟩ r,n=>by
  rw [aS]
  show qh (((.inl z.1:Key),V.ref z.2)::_) (.inl m:Key)=_
  rw [jy λx=>n q (aK ..) (e.symm.trans (eC x))]
  exact jA.none r λc h=>n c (aH _ h)
theorem jA.snoc :∀{ps:List (Int×Addr)}{z:List (Int×List T3)}{m:Int}{a:Addr}{j:List V}{hs:List T3},jA H ps z->H a=some (.lst j)->jN H j hs->jA H (ps++[(m,a)]) (z++[(m,hs)])
 | _,_,_,_,j,_,.nil,h1,h2=>.cons ⟨rfl,j,h1,h2⟩ .nil
 | _,_,_,_,_,_,.cons h r,h1,h2=>.cons h (jA.snoc r h1 h2)
theorem kZ :∀{vs:List V}{ts:List T3}(n:Nat),jN H vs ts->jN H (vs.take n) (ts.take n)
 | _,_,0,_=>.nil
 | _,_,_+1,.nil=>.nil
 | _,_,n+1,.cons h r=>.cons h (kZ n r)
theorem YV (hs:List T3) (y p w:Int) {cnt:Nat}(h1:0<w->cnt=0) (h2:¬0<w->cnt=min hs.length (- w).toNat):(hs++(aJ w.toNat).map (λk:Nat=>(y,p,(k:Int)))).take ((hs++(aJ w.toNat).map (λk:Nat=>(y,p,(k:Int)))).length-cnt)=zi hs y p w:=by
 unfold zi
 by_cases z:0<w
 ·rw [if_pos z,h1 z,rC,aY]
 ·rw [if_neg z,show w.toNat=0 by right,mY,fJ,aF,h2 z]
  congr 1
  right
theorem Gv {t:T3}(g:good t=true) (h:Int) : -9<=chg t h:=by
 have g:0<=t.1/\t.1<=100/\0<=t.2.1/\t.2.1<=9/\0<=t.2.2/\t.2.2<=9:=of_decide_eq_true g
 unfold chg
 split <;> right
inductive spYearOf  (vs:List V) (H:Hp) (Q:VK) (z_3:XK):Prop
 | mk (sd:Addr) (c:ScN) (g:IceG) (l y:Int) (wy:List Int) (da:Addr) (dn:List (Int×Int)) (wr:List (Int×T3)) (pa ea:Addr) (ps:List (Int×Addr)) (cs:List (Int×List T3)) (n:Nat) (G:List Key->List V->Prop) (_:vs=[.ref sd,.int l,.ref pa,.int y,.ref ea]) (_:ScAt H sd c) (_:LaneF c g l wy da dn) (_:xL H c.sk wr) (_:1<=c.ts.length) (_:c.ts.length<=1000) (_:(∀z,good (zJ wr c.ts z)=true)) (_:H pa=some ↥151) (_:pa≠sd) (_:(ps.map (·.1)).Nodup) (_:ps.length<=100) (_:jA H ps cs) (_:(∀q∈cs,q.2.length<=800)) (_:qJ G H ea n) (_:n<=16000000) (_:(∀q∈cs,¬q.1∈yh (y+jc dn y) (ja c.rs wy).length->∀h∈q.2,G (yx h) [.str "off",.int y])) (_:(∀p:Nat,p<(ja c.rs wy).length->∀k:Nat,k<(- chg (zJ wr c.ts y) ((ja c.rs wy).getD p 0)).toNat->k<(qH cs (y+jc dn y-(p:Int))).length->∀h,(qH cs (y+jc dn y-(p:Int)))[(qH cs (y+jc dn y-(p:Int))).length-1-k]? = some h->G (yx h) [.str "melt",.int y,.int (p:Int),.int (k:Int)])) (_:∀(la:Addr) (ps2:List (Int×Addr)) (H':Hp),H la=none->H' la=some (.dK (ps2.map kvA))->jA H' ps2 ((aJ (ja c.rs wy).length).map λp:Nat=>(y+jc dn y-(p:Int),zi (qH cs (y+jc dn y-(p:Int))) y (p:Int) (chg (zJ wr c.ts y) ((ja c.rs wy).getD p 0))))->(∀z∈ps2,H z.2=none)->qJ G H' ea (n+120000)->Fr3 (λa=>a=ea) (λa=>c.D a\/a=pa) H H'->Q (.ref la) H')
theorem jQ:FnScope ["_law_scene_here","_law_lane","_law_piles","_law_year_here","_law_ends","_law_marks_here","_law_later","_law_gone","_law_hand","_law_place","_law_one","_law_hands","_law_many","_law_layer","_law_turn"] ["_law_scene_here","_law_lane","_law_piles","_law_year_here","_law_ends"] (j8 yg):=by walk_at "s"
theorem ZC (nb:Nb2 mg) (aL:Cal P w K mg base 2 "_law_marks" ["_law_scene_here","_law_lane","_law_year_here"] spMarks) (a4:Cal P w K mg base 1 "_law_wish" ["_law_row_here","_law_height"] spWish) (a9:Cal P w K mg base 1 "_law_row" ["_law_scene_here","_law_year_here"] spRowL)
  (F:Fun K "_law_year_of" "_law_year_of" yg f fd):FnOk P w K mg base CX0 3 f fd ["_law_scene_here","_law_lane","_law_piles","_law_year_here","_law_ends"] spYearOf:=by
 refine F.ok jQ ↥27 (λfz A outer s H vs Q E hr h=>?_)
 ·obtain ⟨sd,c,g,l,y,wy,da,dn,wr,pa,ea,ps,cs,n,G,rfl,_⟩:=h
  rfl
 ·obtain ⟨sd,c,g,l,y,wy,da,dn,wr,pa,ea,ps,cs,n,G,rfl,S,LF,hw,t1,t2,sg,ds,d2,nd,e4,P0,cy,d1,fo,ch,b3,k⟩:=h
  have fw:=LF.g30
  have eD:=λ{H':Hp} (S':ScAt H' sd c)=>S'.gnd LF
  have O:∀{H':Hp} {n':Nat} {xs:List V},qJ G H' ea n'->H' ea≠some (.lst xs)/\H' ea≠some (.tup xs):=λh=>by
   obtain ⟨kvs,h1,_⟩:=h
   rw [h1]
   exact ⟨↥4,↥4⟩
  have a1:∀{H':Hp} {xs:List V},Rd H' pa ↥151->H' pa≠some (.lst xs)/\H' pa≠some (.tup xs):=λh=>by
   rcases h with h | ⟨o,h⟩ <;> (rw [h];exact ⟨(by walk_at "z"),(by walk_at "z")⟩)
  have X:∀{a:Addr} {u:HO},H a=some u->(∀kvs,u≠.dT kvs)->¬a=ea:=λh d w=>by
   obtain ⟨kvs,h1,_⟩:=d1
   rw [w,h1] at h
   exact d kvs (aT h).symm
  generalize eu:ja c.rs wy=gd at *
  refine ⟨_,(j4 (jq 5 jQ.nd (je aL (hr.mono ⋯) rfl ↥123))
   (j4 (jq 6 jQ.nd yC)
   (j4 (qy aV rfl (wT (pv 2)) (jb (i:=7) jQ.nd rfl (aO rfl)) (j9 (jI (ju (zn K) (pv 7) (pv 5) ↥52) (j9 (qy aV rfl (jW K (jF (jR hr) (pv 2) (pv 7) (λ_ _=>rfl))) (jb (i:=8) jQ.nd rfl (aO rfl)) (j9 (zN (jR hr) (pv 4) (pv 8) (jB (j0 jt (j0 (pv 3) j2))) rfl)))) js)))
   (j4 (qy aV rfl (Qa K rfl nb.b_enumerate (j0 (pv 5) j2)) (qg (n:=2) K rfl (jh (jb (i:=9) jQ.nd rfl (aO rfl)) (jh (jb (i:=10) jQ.nd rfl (aO rfl)) qa))) (j4 (jq 11 jQ.nd (qL (qS K) rfl nb.b_list bZ (j0 (kQ (jR hr) (pv 2) (pv 10) (jD j2) ⟨rfl,rfl,rfl,rfl⟩) j2)))
   (j4 (jq 12 jQ.nd (je a4 (hr.mono ⋯) rfl (j0 (je a9 (hr.mono ⋯) rfl (j0 (pv 0) (j0 (pv 3) j2))) (j0 (jr (jf K) ↥99 (pv 9) (λ_ _=>rfl)) j2))))
   (j4 (qy aV rfl (qi rfl nb.b_range (j0 (jd (zj rfl) rfl nb.b_max mx (j0 j5 (j0 (pv 12) j2))) j2)) (jb (i:=13) jQ.nd rfl (aO rfl)) (j9 (jV (xZ K b7 b9 ba jY (pv 11) (j0 (jB (j0 (pv 3) (j0 (pv 9) (j0 (pv 13) j2)))) j2)))))
   (j4 (qy aV rfl (qi rfl nb.b_range (j0 (jd (zQ rfl) rfl nb.b_min om (j0 (jd (jg K) rfl nb.b_len aP (j0 (pv 11) j2)) (j0 (jd (zj rfl) rfl nb.b_max mx (j0 j5 (j0 (jk jU j5 (pv 12)) j2))) j2))) j2)) (jb (i:=14) jQ.nd rfl (aO rfl)) (j9 (zN (jR hr) (pv 4) (Uq K b7 PySem.F.slot_list_pop PySem.F.type_list_pop GH (pv 11)) (jB (j0 jt (j0 (pv 3) (j0 (pv 9) (j0 (pv 14) j2))))) rfl)))
   (j9 (zN (jR hr) (pv 6) (pv 10) (pv 11) rfl)))))))
   (j9 (ji (pv 6))))))),?_⟩
  walk_at "r"
  refine ⟨sd,c,g,l,y,wy,da,dn,rfl,S,LF,λmk H1 fp bl f1=>?_⟩
  rw [eu] at bl
  have E1:qJ G H1 ea n:=d1.keep (FrM.keepT f1) λkvs h=>f1.at h ↥1
  have bk:=f1.rd (.inl ds)
  have P1:jA H1 ps cs:=P0.keep (FrM.keepT f1) λz _ I h=>f1.at h ↥1
  walk_at "r"
  intro la a8
  have a3:H la=none:=f1.no a8
  have s2:jm H1 (upd H1 la (.dK [])):=jm.new a8
  have ci:(upd H1 la (.dK [])) la=some (.dK []):=j6
  have ab:=s2 _ _ bl
  have E2:qJ G (upd H1 la (.dK [])) ea n:=E1.keep (jp.same s2) λkvs h=>s2 _ _ h
  have M:Rd (upd H1 la (.dK [])) pa ↥151:=bk.imp (λh=>s2 _ _ h) λ⟨o,h⟩=>⟨o,s2 _ _ h⟩
  have P2:jA (upd H1 la (.dK [])) ps cs:=P1.keep (jp.same s2) λz _ I h=>s2 _ _ h
  have cb:la≠pa:=λz=>by
   rcases bk with h | ⟨o,h⟩ <;> (rw [<- z,a8] at h;cases h)
  have cd:la≠ea:=λz=>by
   obtain ⟨kvs,h,_⟩:=E1
   rw [<- z,a8] at h
   cases h
  have dD:FrM c.D H (upd H1 la (.dK [])):=f1.put a3
  clear s2 E1 P1 bk bl
  generalize upd H1 la (.dK [])=H2 at *
  generalize hR:y+jc dn y=R at *
  walk_at "r"
  refine uY (kvs:=ps.map kvA) M (λo i σ H3=>∃x7 x8:Option V,σ=[some (.ref sd),some (.int l),some (.ref pa),some (.int y),some (.ref ea),some (.ref mk),some (.ref la),x7,x8,none,none,none,none,none,none]/\H3 pa=some (.frz o ↥151)/\qJ G H3 ea (n+900*i)/\∀a u,H2 a=some u->a≠ea->a≠pa->H3 a=some u) ?_ ?_ ?_ ?_
  ·intro o H3 f3
   exact ⟨_,_,rfl,f3.1,E2.keep (λa xs h=>f3.at h λz=>(a1 M).2 (z ▸ h)) (λkvs h=>f3.at h λz=>by rcases M with q | ⟨o,q⟩ <;> (rw [<- z,h] at q;cases q)),λa u h T Z=>f3.at h Z⟩
  ·rintro o i σ H3 hi ⟨x7,x8,rfl,L,E3,k3⟩
   exact L
  ·rintro o i q σ H3 hq ⟨x7,x8,rfl,L,E3,k3⟩
   rw [ay] at hq
   obtain ⟨z,hz,rfl⟩:=Option.map_eq_some_iff.mp hq
   have hi:i<ps.length:=(List.getElem?_eq_some_iff.mp hz).1
   obtain ⟨q,dk,eq,I,a2,b2⟩:=Paired.get P2 hz
   have e0:=cy q (aA dk)
   have e9:I.length=q.2.length:=aM b2
   have ae:=k3 _ _ ab (λw=>(O E2).1 (w ▸ ab)) (λw=>(a1 M).1 (w ▸ ab))
   show uy 7 (V.int z.1) _ _ _
   walk_at "r"
   refine ⟨mk,_,rfl,.inl (SqL.of ae),rfl,yA _,?_⟩
   walk_at "r"
   rw [vy]
   refine zI (λdx=>?_) (λdx=>?_)
   ·have en:=ch q (aA dk) (by rw [<- eq];exact dx)
    walk_at "r"
    refine ⟨pa,.ref z.2,rfl,by rw [<- vF nd (aA hz)];exact .inl ⟨_,.inl z.1,.inr ⟨o,L⟩,rfl,rfl⟩,?_⟩
    have c4:z.2≠ea:=λw=>(O E2).1 (w ▸ a2)
    have c2:z.2≠pa:=λw=>(a1 M).1 (w ▸ a2)
    refine ⟨z.2,rfl,⟨_,SqL.of (k3 _ _ a2 c4 c2)⟩,?_⟩
    refine zx (K:=K) (a:=z.2) (xs:=I) (λj σ N=>∃x8:Option V,σ=[some (.ref sd),some (.int l),some (.ref pa),some (.int y),some (.ref ea),some (.ref mk),some (.ref la),some (.int z.1),x8,none,none,none,none,none,none]/\N pa=some (.frz o ↥151)/\qJ G N ea (n+900*i+j)/\∀a u,H2 a=some u->a≠ea->a≠pa->N a=some u) ?_ ?_ ?_ ?_
    ·exact ⟨_,rfl,L,E3,k3⟩
    ·rintro j σ N hj ⟨x8,rfl,an,E4,k4⟩
     exact SqL.of (k4 _ _ a2 c4 c2)
    ·rintro j v σ N hv ⟨x8,rfl,an,E4,k4⟩
     obtain ⟨h,hh,b,rfl,hb⟩:=Paired.get b2 hv
     have hj:j<I.length:=(List.getElem?_eq_some_iff.mp hv).1
     have ey:=k4 _ _ hb (λw=>(O E2).2 (w ▸ hb)) (λw=>(a1 M).2 (w ▸ hb))
     walk_at "r"
     refine ⟨by show 2<=sizeLine;decide,λt H5 ht el s5=>?_⟩
     obtain ⟨kvs,e1,e2,e3⟩:=E4.keep (jp.same s5) λkvs h=>s5 _ _ h
     walk_at "r"
     refine ⟨ea,_,rfl,ul.t (k:=yx h) e1 (s5 _ _ ey) (by rw [bD];right),?_⟩
     refine ⟨_,rfl,?_,qJ.put e1 e2 e3 el (en h (aA hh)),λa u J T Z=>by rw [j7 T];exact s5 _ _ (k4 a u J T Z)⟩
     rw [j7 (jo (s5 _ _ an) e1 ↥4)]
     exact s5 _ _ an
    ·rintro σ N ⟨x8,rfl,an,E4,k4⟩
     exact ⟨_,_,rfl,an,E4.mono (),k4⟩
   ·exact ⟨_,_,rfl,L,E3.mono (),k3⟩
  rintro o σ H3 ⟨x7,x8,rfl,L,E3,k3⟩
  rw [ah] at E3
  have bn:=k3 _ _ ci cd cb
  have ae:=k3 _ _ ab (λw=>(O E2).1 (w ▸ ab)) (λw=>(a1 M).1 (w ▸ ab))
  have P3:=P2.keep2 k3 (λxs=>O E2) (λxs=>a1 M)
  have E3:=E3.mono (show n+900*ps.length<=n+90000 by right)
  have cv:Fr3 (λa=>a=ea) (λa=>c.D a\/a=pa) H H3:=λa u J na=>by
   by_cases w:a=pa
   ·subst w
    rw [ds] at J
    cases J
    exact .inr ⟨.inr rfl,o,_,rfl,L⟩
   ·rcases dD a u J with h | ⟨m,ob,kvs,eo,h⟩
    ·exact .inl (k3 a u h na w)
    ·exact .inr ⟨.inl m,ob,kvs,eo,k3 a _ h na w⟩
  have eb:mk≠ea:=λw=>(O E3).1 (w ▸ ae)
  have d7:mk≠la:=jo ae bn ↥4
  have d3:pa≠la:=cb.symm
  have d4:pa≠ea:=by
   obtain ⟨kvs,h1,_⟩:=E3
   exact jo L h1 ↥4
  have ej:∀xs,H3 la≠some (.lst xs)/\H3 la≠some (.tup xs):=λxs=>by
   rw [bn]
   exact ⟨↥4,↥4⟩
  clear E2 P2 ab ci M k3 dD f1 a8
  walk_at "r"
  refine ⟨⟨_,SqL.of ae⟩,?_⟩
  refine QV (K:=K) (a:=mk) (xs:=(yh R gd.length).map V.int) (λp σ N=>∃(x9 b0 bv bu a0 a5:Option V) (ac:List (Int×Addr)),σ=[some (.ref sd),some (.int l),some (.ref pa),some (.int y),some (.ref ea),some (.ref mk),some (.ref la),x7,x8,x9,b0,bv,bu,a0,a5]/\N la=some (.dK (ac.map kvA))/\ac.length=p/\jA N ac ((aJ p).map λp:Nat=>(R-(p:Int),zi (qH cs (R-(p:Int))) y (p:Int) (chg (zJ wr c.ts y) (gd.getD p 0))))/\(∀z∈ac,H z.2=none)/\qJ G N ea (n+90000+1000*p)/\∀a u,H3 a=some u->a≠ea->a≠la->N a=some u) ?_ ?_ ?_ ?_
  ·exact ⟨_,_,_,_,_,_,[],rfl,bn,rfl,.nil,(λz h=>nomatch h),E3,λa u h _ _=>h⟩
  ·rintro p σ N e7 ⟨x9,b0,bv,bu,a0,a5,ac,rfl,as,cl,P4,n4,E4,k4⟩
   exact SqL.of (k4 _ _ ae eb d7)
  ·rintro p v σ N t ek ⟨x9,b0,bv,bu,a0,a5,ac,rfl,as,cl,P4,n4,E4,k4⟩ ht
   obtain ⟨one,rfl,ap⟩:=uh ek
   have bi:p<gd.length:=by have:=(List.getElem?_eq_some_iff.mp ap).1;rw [wj] at this;exact this
   rw [V8 bi] at ap
   have ap:=aT ap
   subst ap
   have sT:jm N (upd N t (.tup [.int (p:Int),.int (R-(p:Int))])):=jm.new ht
   have bm:=sT _ _ as
   have P5:=P4.keep (jp.same sT) λz _ I h=>sT _ _ h
   have E5:=E4.keep (jp.same sT) λkvs h=>sT _ _ h
   have k5:∀a u,H3 a=some u->a≠ea->a≠la->(upd N t (.tup [.int (p:Int),.int (R-(p:Int))])) a=some u:=λa u h T Z=>sT _ _ (k4 a u h T Z)
   walk_at "r"
   refine ⟨t,_,rfl,SqT.of j6,rfl,?_⟩
   refine ⟨_,_,rfl,_,_,rfl,rfl,?_⟩
   walk_at "r"
   clear as P4 E4 k4 ht sT
   generalize upd N t (.tup [.int (p:Int),.int (R-(p:Int))])=H5 at *
   have ce:=k5 _ _ L d4 d3
   refine ⟨.inl ⟨_,.inr ⟨o,ce⟩⟩,?_⟩
   walk_at "r"
   refine ⟨aG _,λez H6 fs eg s6=>?_⟩
   walk_at "r"
   refine ⟨_,.inl ⟨_,.inl (R-(p:Int)),.inr ⟨o,s6 _ _ ce⟩,rfl,rfl⟩,?_⟩
   have eX:jA H6 ps cs:=P3.keep2 (ea:=ea) (pa:=la) (λa u h T Z=>s6 _ _ (k5 a u h T Z)) (λxs=>O E3) ej
   obtain ⟨J,I,ev,et,em,fa⟩:∃(J:Addr) (I:List V),((qh (ps.map kvA) (.inl (R-(p:Int)))).getD (V.ref ez)) = .ref J/\H6 J=some (.lst I)/\jN H6 I (qH cs (R-(p:Int)))/\(qH cs (R-(p:Int))).length<=800:=by
    rcases jA.find eX (R-(p:Int)) with ⟨e1,e2⟩ | ⟨a,I,e1,h1,h2,q,hq,eq⟩
    ·exact ⟨ez,[],by rw [e1];rfl,eg,by rw [e2];exact .nil,by rw [e2];exact aG _⟩
    ·exact ⟨a,I,by rw [e1];rfl,h1,h2,by rw [<- eq];exact cy q hq⟩
   rw [ev]
   walk_at "r"
   refine ⟨J,I,rfl,.inl (SqL.of et),λU H7 al bq s7=>?_⟩
   have am:=s6.trans s7
   have e5:=am _ _ bm
   have P7:=P5.keep (jp.same am) λz _ I h=>am _ _ h
   have E7:=E5.keep (jp.same am) λkvs h=>am _ _ h
   have k7:∀a u,H3 a=some u->a≠ea->a≠la->H7 a=some u:=λa u h T Z=>am _ _ (k5 a u h T Z)
   have r7:=jN.same em s7
   have dy:Fr3 (λa=>a=ea) (λa=>c.D a\/a=pa) H H7:=λa u J na=>by
    have w:a≠la:=j1 J a3
    rcases cv a u J na with h | ⟨m,ob,kvs,eo,h⟩
    ·exact .inl (k7 a u h na w)
    ·exact .inr ⟨m,ob,kvs,eo,k7 a _ h na w⟩
   have S7:=S.keep dy (λa xs h=>X h ↥1) (X S.sd ↥1) (λz=>z.elim S.nD λw=>d2 w.symm) (X S.p ↥1) (X S.q ↥1) (X S.gl ↥1) (X S.ll ↥1) (λa J=>by
    obtain ⟨i,hi⟩:=List.mem_iff_getElem?.mp J
    obtain ⟨w,_,ga,e,b5⟩:=Paired.get S.gi hi
    cases e
    exact X b5 ↥1) (by rcases S.sg with h | ⟨ob,h⟩ <;> exact X h (by walk_at "w")) (λx hx=>by rcases S.ld x hx with h | ⟨ob,h⟩ <;> exact X h (by walk_at "w"))
   have db:xL H7 c.sk wr:=hw.keep λa xs h=>dy.at h (X h ↥1) ↥1
   obtain ⟨ga,dF,b5⟩:=eD S7
   walk_at "r"
   refine ⟨sd,c,y,wr,rfl,S7,db,t1,t2,λtr dd=>?_⟩
   walk_at "r"
   refine ⟨sd,.ref c.gl,rfl,by rw [<- qY c.p c.q c.sg c.gl c.ll];exact qU.k (k:=.inr "grounds") S7.sd,?_⟩
   walk_at "r"
   refine ⟨_,_,_,_,rfl,rfl,SqL.of S7.gl,dF,?_⟩
   walk_at "r"
   refine ⟨_,_,_,_,rfl,rfl,SqL.of b5,qI (v:=V.int (gd.getD p 0)) () (by rw [bE,ay,aq,af bi];rfl),?_⟩
   walk_at "r"
   refine ⟨tr,_,_,rfl,dd,?_⟩
   walk_at "r"
   have er:=b3 p bi
   have fv:=VA (sg y) (gd.getD p 0)
   have fu:=Gv (sg y) (gd.getD p 0)
   clear S7 db dd b5 dF b3 ch
   generalize ec:chg (zJ wr c.ts y) (gd.getD p 0)=C at *
   generalize ed:qH cs (R-(p:Int))=hs at *
   refine ⟨_,_,rfl,?_⟩
   walk_at "r"
   have ep:((if C > 0 then C else 0).toNat)=C.toNat:=by split <;> right
   refine ⟨by split <;> right,by split <;> right,?_⟩
   rw [ep]
   refine qK (λj σ H8=>∃(a0:Option V) (B:List V),σ=[some (.ref sd),some (.int l),some (.ref pa),some (.int y),some (.ref ea),some (.ref mk),some (.ref la),x7,x8,some (.int (p:Int)),some (.int (R-(p:Int))),some (.ref U),some (.int C),a0,a5]/\H8 U=some (.lst B)/\jN H8 B (hs++(aJ j).map (λk:Nat=>(y,(p:Int),(k:Int))))/\Ext U H7 H8) ?_ ?_ ?_
   ·exact ⟨_,I,rfl,bq,by rw [mY,fJ,aF];exact r7,λc o h _=>h⟩
   ·rintro j σ H8 hj ⟨b6,B,rfl,h8,r8,e8⟩
    have ol:=r8.length
    rw [ao,ah,bz] at ol
    walk_at "r"
    refine ⟨.inl ⟨rfl,_,SqL.of h8⟩,?_⟩
    walk_at "r"
    refine ⟨by show 3<=sizeLine;decide,λq H9 hq dp s9=>?_⟩
    rw [eQ] at dp
    walk_at "r"
    refine ⟨U,B,_,rfl,rfl,s9 _ _ h8,jj (),?_⟩
    refine ⟨_,B++[.ref q],rfl,j6,?_,λc u hc nc=>by rw [j7 nc];exact s9 _ _ (e8 c u hc nc)⟩
    rw [cE,aE,<- cA]
    exact bV (jN.keep (jN.same r8 s9) λa xs z=>by rw [j7 (jo z (s9 _ _ h8) ↥4)];exact z) ⟨q,rfl,by rw [j7 (j1 h8 hq).symm];exact dp⟩
   rintro σ H8 ⟨b6,B,rfl,h8,r8,e8⟩
   have ol:=r8.length
   have dt:(hs++(aJ C.toNat).map (λk:Nat=>(y,(p:Int),(k:Int)))).length=hs.length+C.toNat:=by rw [ao,ah,bz]
   rw [dt] at ol
   have E8:qJ G H8 ea (n+90000+1000*p):=E7.keep (λa xs h=>e8 _ _ h (jo h bq ↥4)) λkvs h=>e8 _ _ h (jo h bq ↥4)
   walk_at "r"
   refine ⟨_,_,rfl,.inl (SqL.of h8),?_⟩
   walk_at "r"
   refine ⟨_,_,rfl,?_⟩
   walk_at "r"
   refine ⟨_,_,rfl,?_⟩
   walk_at "r"
   have ex:∃cn:Int,(if (if 0-C > 0 then 0-C else 0)< ↥140 then (if 0-C > 0 then 0-C else 0) else ↥140)=cn/\0<=cn/\cn<=↥140/\(0<C->cn.toNat=0)/\(¬0<C->cn.toNat=min hs.length (- C).toNat):=by
    refine ⟨_,rfl,?_⟩
    by_cases z:0-C > 0
    ·rw [if_pos z]
     split <;> (refine ⟨?_,?_,?_,?_⟩ <;> right)
    ·rw [if_neg z]
     split <;> (refine ⟨?_,?_,?_,?_⟩ <;> right)
   obtain ⟨cn,eH,fy,fx,eW,dV⟩:=ex
   rw [eH]
   refine ⟨(),(),?_⟩
   refine qK (λj σ Y=>∃bd:Option V,σ=[some (.ref sd),some (.int l),some (.ref pa),some (.int y),some (.ref ea),some (.ref mk),some (.ref la),x7,x8,some (.int (p:Int)),some (.int (R-(p:Int))),some (.ref U),some (.int C),b6,bd]/\Y U=some (.lst (B.take (B.length-j)))/\qJ G Y ea (n+90000+1000*p+j)/\∀a u,H8 a=some u->a≠U->a≠ea->Y a=some u) ?_ ?_ ?_
   ·exact ⟨_,rfl,by rw [rC,aY];exact h8,E8,λa u h _ _=>h⟩
   ·rintro j σ Y hj ⟨bd,rfl,ct,c1,a7⟩
    have fr:j<B.length:=()
    have fl:C<0:=()
    have dc:C.toNat=0:=()
    rw [dc] at ol
    rw [dc,mY,fJ,aF] at r8
    obtain ⟨v,hv⟩:∃v,B[B.length-1-j]? = some v:=⟨_,af ()⟩
    obtain ⟨h,hh,b,rfl,hb⟩:=jN.get r8 hv
    have eh:=a7 _ _ hb (jo hb h8 ↥4) (λw=>(O E8).2 (w ▸ hb))
    have dv:j<(- C).toNat/\j<hs.length:=by have:=dV ();right
    have hG:=er j dv.1 dv.2 h (by rw [show hs.length=B.length by right];exact hh)
    walk_at "r"
    refine ⟨by show 4<=sizeLine;decide,λt4 cL e6 b1 a6=>?_⟩
    rw [eQ] at b1
    have cr:=a6 _ _ ct
    have eU:(B.take (B.length-j)).dropLast=B.take (B.length-(j+1)):=by
     rw [List.dropLast_eq_take,aN,tM]
     congr 1
     right
    have eT:(B.take (B.length-j))[(B.take (B.length-j)).length-1]? = some (.ref b):=by
     rw [aN,List.getElem?_take,if_pos (),show min (B.length-j) B.length-1=B.length-1-j by right]
     exact hv
    walk_at "r"
    refine ⟨.inl ⟨rfl,_,SqL.of cr⟩,U,_,_,rfl,rfl,cr,eT,?_⟩
    rw [eU]
    have nT:∀{a:Addr} {u:HO},cL a=some u->(∀xs,u≠.lst xs)->(upd cL U (.lst (B.take (B.length-(j+1))))) a=some u:=λh d=>by
     rw [j7 (jo h cr (d _))]
     exact h
    obtain ⟨kvs,e1,e2,e3⟩:=(c1.keep (jp.same a6) λkvs h=>a6 _ _ h).keep (H':=upd cL U (.lst (B.take (B.length-(j+1))))) (λa xs h=>nT h ↥1) λkvs h=>nT h ↥1
    refine ⟨ea,_,rfl,ul.t (k:=yx h) e1 (nT (a6 _ _ eh) ↥1) (by rw [bD];right),?_⟩
    refine ⟨_,rfl,?_,qJ.put e1 e2 e3 (nT b1 ↥1) hG,λa u J T Z=>by rw [j7 Z,j7 T];exact a6 _ _ (a7 a u J T Z)⟩
    rw [j7 (jo j6 e1 ↥4)]
    exact j6
   rintro σ Y ⟨bd,rfl,ct,c1,a7⟩
   have cm:U≠la:=(j1 (s6 _ _ bm) al).symm
   have bs:U≠ea:=by
    obtain ⟨kvs,h,_⟩:=E5
    exact (j1 (s6 _ _ h) al).symm
   have up:∀{a:Addr} {u:HO},H5 a=some u->a≠ea->Y a=some u:=λh T=>a7 _ _ (e8 _ _ (am _ _ h) (j1 (s6 _ _ h) al)) (j1 (s6 _ _ h) al) T
   have b4:=up bm cd
   have ew:H U=none:=by
    cases e:H U with
    | none=>rfl
    | some u =>
     rcases cv U u e bs with h | ⟨_,ob,kvs,_,h⟩
     ·rw [s6 _ _ (k5 _ _ h bs cm)] at al
      cases al
     ·rw [s6 _ _ (k5 _ _ h bs cm)] at al
      cases al
   have d0:=P5.keep (H':=Y) (λa xs h=>up h λw=>(O E5).2 (w ▸ h)) λz _ I h=>up h λw=>(O E5).1 (w ▸ h)
   have ei:jN Y (B.take (B.length-cn.toNat)) (zi hs y (p:Int) C):=by
    rw [<- YV hs y (p:Int) C eW dV,dt,<- ol]
    exact jN.keep (kZ _ r8) λa xs h=>a7 _ _ h (jo h h8 ↥4) λw=>(O E8).2 (w ▸ h)
   walk_at "r"
   refine ⟨la,_,rfl,ul.k (k:=.inl (R-(p:Int))) b4 (by rw [ah];exact jj ()),?_⟩
   rw [yD _ (jA.none d0 λq hq=>by
    obtain ⟨k',es,rfl⟩:=List.mem_map.mp hq
    have:=List.mem_range.mp es
    show R-(k':Int)≠R-(p:Int)
    right)]
   have nL:∀{a:Addr} {u v:HO},Y a=some u->(∀kvs,u≠.dK kvs)->(upd Y la v) a=some u:=λh d=>by
    rw [j7 (jo h b4 (d _))]
    exact h
   refine ⟨_,_,_,_,_,_,ac++[(R-(p:Int),U)],rfl,by rw [j6,aE];rfl,by rw [ao,cl];rfl,?_,λz hz=>?_,(c1.keep (λa xs h=>nL h ↥1) λkvs h=>nL h ↥1).mono (),λa u h T Z=>by rw [j7 Z];exact up (k5 a u h T Z) T⟩
   ·rw [cE,aE]
    show jA _ _ (_++[(R-(p:Int),zi (qH cs (R-(p:Int))) y (p:Int) (chg (zJ wr c.ts y) (gd.getD p 0)))])
    rw [ed,ec]
    exact jA.snoc (d0.keep (λa xs h=>nL h ↥1) λz _ I h=>nL h ↥1) (nL ct ↥1) (jN.keep ei λa xs h=>nL h ↥1)
   ·rcases List.mem_append.mp hz with h | h
    ·exact n4 z h
    ·rw [List.mem_singleton.mp h]
     exact ew
  ·rintro σ N ⟨x9,b0,bv,bu,a0,a5,ac,rfl,as,cl,P4,n4,E4,k4⟩
   rw [ah,wj] at P4 E4
   walk_at "r"
   exact k la ac N a3 as P4 n4 (E4.mono ()) λa u J na=>by
    have w:a≠la:=j1 J a3
    rcases cv a u J na with h | ⟨m,ob,kvs,eo,h⟩
    ·exact .inl (k4 a u h na w)
    ·exact .inr ⟨m,ob,kvs,eo,k4 a _ h na w⟩
noncomputable def qC (dn:List (Int×Int)) (gd:List Int) (wr:List (Int×T3)) (ts:List T3):Nat->List (Int×List T3)
 | 0=>[]
 | i+1=>(aJ gd.length).map λp:Nat=>((i:Int)+jc dn (i:Int)-(p:Int),zi ↥37 (i:Int) (p:Int) (chg (zJ wr ts (i:Int)) (gd.getD p 0)))
theorem YQ (dn:List (Int×Int)) (gd:List Int) (wr:List (Int×T3)) (ts:List T3):∀i,(qC dn gd wr ts i).length<=gd.length
 | 0=>aG _
 | i+1=>by
  show (tD _ _).length<=_
  rw [ah,bz]
  exact ar _
theorem wH (dn:List (Int×Int)) (gd:List Int) (wr:List (Int×T3)) (ts:List T3):∀i,((qC dn gd wr ts i).map (·.1)).Nodup
 | 0=>.nil
 | i+1=>by
  show ((tD _ _).map _).Nodup
  rw [bW]
  refine ip _ (λa b h=>?_) (mq (n:=gd.length))
  show (i:Int)+jc dn (i:Int)-(a:Int)≠(i:Int)+jc dn (i:Int)-(b:Int)
  right
theorem Vr {y p w:Int}(h:w<=9):(zi hs y p w).length<=hs.length+9:=by
 unfold zi
 split
 ·rw [ao,ah,bz]
  right
 ·rw [aN]
  right
theorem QM {j:List (Int×List T3)}{n:Nat}(h:∀q∈j,q.2.length<=n) (m:Int):(qH j m).length<=n:=by
 unfold qH
 cases e:j.find? λq=>decide (q.1=m) with
 | none=>exact aG _
 | some q=>exact h q (dG e)
theorem Qh {dn:List (Int×Int)}{gd:List Int}{wr:List (Int×T3)}{ts:List T3}(j:∀z,good (zJ wr ts z)=true):∀i,∀q∈qC dn gd wr ts i,q.2.length<=9*i
 | 0,q,h=>nomatch h
 | i+1,q,h=>by
  obtain ⟨p,_,rfl⟩:=List.mem_map.mp h
  have h1:=Vr (hs:=qH (qC dn gd wr ts i) ((i:Int)+jc dn (i:Int)-(p:Int))) (y:=(i:Int)) (p:=(p:Int)) (VA (j (i:Int)) (gd.getD p 0))
  have h2:=QM (Qh (dn:=dn) (gd:=gd) j i) ((i:Int)+jc dn (i:Int)-(p:Int))
  show (zi _ _ _ _).length<=_
  right
theorem jA.keys :∀{ps:List (Int×Addr)}{j:List (Int×List T3)},jA H ps j->ps.map (·.1)=j.map (·.1)
 | _,_,.nil=>rfl
 | _,_,.cons ⟨e,_⟩ r=>by rw [aS,aS,e,jA.keys r]
noncomputable def WJ (G:List Key->List V->Prop) (dn:List (Int×Int)) (gd:List Int) (wr:List (Int×T3)) (ts:List T3) (i:Nat):Prop :=
 (∀q∈qC dn gd wr ts i,¬q.1∈yh ((i:Int)+jc dn (i:Int)) gd.length->∀h∈q.2,G (yx h) [.str "off",.int (i:Int)]) /\
 ∀p:Nat,p<gd.length->∀k:Nat,k<(- chg (zJ wr ts (i:Int)) (gd.getD p 0)).toNat->k< (↥37).length->∀h,(↥37)[(↥37).length-1-k]? = some h->G (yx h) [.str "melt",.int (i:Int),.int (p:Int),.int (k:Int)]
noncomputable def yN (H:Hp) (ds:List V) (n:Nat) (W:Nat->List (Int×List T3)) (ok:Addr->Prop):Prop:=ds.length=n/\∀k<n,∃d ps,ds[k]? = some (V.ref d)/\Rd H d ↥151/\jA H ps (W (k+1))/\∀z∈ps,ok z.2
inductive spWalk  (vs:List V) (H:Hp) (Q:VK) (z_3:XK):Prop
 | mk (sd:Addr) (c:ScN) (g:IceG) (l last:Int) (wy:List Int) (da:Addr) (dn:List (Int×Int)) (wr:List (Int×T3)) (G:List Key->List V->Prop) (_:vs=[.ref sd,.int l,.int last]) (_:ScAt H sd c) (_:LaneF c g l wy da dn) (_:xL H c.sk wr) (_:1<=c.ts.length) (_:c.ts.length<=1000) (_:(∀z,good (zJ wr c.ts z)=true)) (zz8 : -1<=last) (_:last<88) (_:(∀i:Nat,(i:Int)<=last->WJ G dn (ja c.rs wy) wr c.ts i)) (_:∀(t fo ea:Addr) (ds:List V) (H':Hp),H t=none->H fo=none->H ea=none->H' t=some (.tup [.ref fo,.ref ea])->H' fo=some (.lst ds)->yN H' ds (last+1).toNat (qC dn (ja c.rs wy) wr c.ts) (λa=>H a=none)->qJ G H' ea 16000000->FrM c.D H H'->Q (.ref t) H')
theorem xM:FnScope ["_law_scene_here","_law_lane","_law_last","_law_ends","_law_piles","_law_found","_law_year_here"] ["_law_scene_here","_law_lane","_law_last"] (j8 uc):=by walk_at "s"
theorem Uv (nb:Nb2 mg) (j:Cal P w K mg base 3 "_law_year_of" ["_law_scene_here","_law_lane","_law_piles","_law_year_here","_law_ends"] spYearOf)
  (F:Fun K "_law_walk" "_law_walk" uc f fd):FnOk P w K mg base CX0 4 f fd ["_law_scene_here","_law_lane","_law_last"] spWalk:=by
 refine F.ok xM ↥27 (λbn A outer s H vs Q E hr h=>?_)
 ·obtain ⟨sd,c,g,l,last,I,da,X,J,G,rfl,_⟩:=h
  rfl
 ·obtain ⟨sd,c,g,l,last,I,da,X,J,G,rfl,S,LF,hw,t1,t2,sg,bi,bd,hE,k⟩:=h
  have bm:=LF.g30
  refine ⟨_,(j4 (jq 3 xM.nd Vc)
   (j4 (jq 4 xM.nd yC)
   (j4 (jq 5 xM.nd (jD j2))
   (j4 (qy aV rfl (qi rfl nb.b_range (j0 (jk jO (pv 2) j5) j2)) (jb (i:=6) xM.nd rfl (aO rfl)) (j4 (jq 4 xM.nd (je j (hr.mono ⋯) rfl (j0 (pv 0) (j0 (pv 1) (j0 (pv 4) (j0 (pv 6) (j0 (pv 3) j2)))))))
   (j9 (jV (xZ K b7 b9 ba jY (pv 5) (j0 (pv 4) j2))))))
   (j9 (ji (jB (j0 (pv 5) (j0 (pv 3) j2))))))))),?_⟩
  walk_at "r"
  intro ea as
  have T:(upd H ea (.dT [])) ea=some (.dT []):=j6
  have f1:FrM c.D H (upd H ea (.dT [])):=(FrM.of_same (jm.refl H)).put as
  generalize upd H ea (.dT [])=H1 at *
  walk_at "r"
  intro o O
  have Z:=f1.no O
  have ae:(upd H1 o (.dK [])) o=some (.dK []):=j6
  have ap:(upd H1 o (.dK [])) ea=some (.dT []):=by rw [j7 (j1 T O)];exact T
  have f2:FrM c.D H (upd H1 o (.dK [])):=f1.put Z
  clear T O f1
  generalize upd H1 o (.dK [])=H2 at *
  walk_at "r"
  refine ⟨aG _,λfo H3 a4 an s3=>?_⟩
  have am:H fo=none:=f2.no a4
  walk_at "r"
  refine ⟨(),(),?_⟩
  refine qK (λi σ p=>∃(x6:Option V) (pa:Addr) (ps:List (Int×Addr)) (ds:List V),σ=[some (.ref sd),some (.int l),some (.int last),some (.ref ea),some (.ref pa),some (.ref fo),x6]/\H pa=none/\p pa=some ↥151/\jA p ps (qC X (ja c.rs I) J c.ts i)/\p fo=some (.lst ds)/\yN p ds i (qC X (ja c.rs I) J c.ts) (λa=>a≠fo/\H a=none)/\qJ G p ea (120000*i)/\FrM c.D H p) ?_ ?_ ?_
  ·refine ⟨_,o,[],[],rfl,Z,s3 _ _ ae,.nil,an,⟨rfl,λk n=>nomatch n⟩,⟨[],s3 _ _ ap,aG _,λk v h=>nomatch h⟩,f2.trans (FrM.of_same s3)⟩
  ·clear f2 a4 an s3 ae ap
   rintro i σ p hi ⟨x6,pa,ps,ds,rfl,M,N,P6,b,D6,E6,C⟩
   have a3:(i:Int)<=last:=()
   have bl:i<88:=()
   have S6:=S.frM C
   have a0:=hw.keep (FrM.keepT C)
   have n:=jA.keys P6
   have a1:ps.length<=100:=by
    have h1:=congrArg fm n
    have h2:=YQ X (ja c.rs I) J c.ts i
    rw [ah,ah] at h1
    right
   walk_at "r"
   rw [eQ]
   refine ⟨sd,c,g,l,(i:Int),I,da,X,J,pa,ea,ps,_,120000*i,G,rfl,S6,LF,a0,t1,t2,sg,N,(j1 S.sd M).symm,n ▸ wH X (ja c.rs I) J c.ts i,a1,P6,λq hq=>by have:=Qh sg i q hq;right,E6,(),(hE i a3).1,(hE i a3).2,λla ab H7 a2 al P7 n7 E7 U=>?_⟩
   have a6:=C.no a2
   have bk:la≠fo:=(j1 b a2).symm
   have a7:fo≠ea:=by
    obtain ⟨kvs,h,_⟩:=E6
    exact jo b h ↥4
   have Y:∀{a:Addr} {u:HO},p a=some u->(∀kvs,u≠.dT kvs)->¬a=ea:=λh d w=>by
    obtain ⟨kvs,h1,_⟩:=E6
    rw [w,h1] at h
    exact d kvs (aT h).symm
   have R:=U.at b a7 ↥1
   have a9:FrM c.D H H7:=λa u ha=>by
    have w1:a≠ea:=j1 ha as
    have w2:a≠pa:=j1 ha M
    rcases C a u ha with h | ⟨m,B,kvs,eo,h⟩
    ·rcases U a u h w1 with h' | ⟨m,B,kvs,eo,h'⟩
     ·exact .inl h'
     ·exact .inr ⟨m.resolve_right w2,B,kvs,eo,h'⟩
    ·exact .inr ⟨m,B,kvs,eo,U.at h w1 ↥1⟩
   have D7:∀k<i,∃d ps,ds[k]? = some (V.ref d)/\Rd H7 d ↥151/\jA H7 ps (qC X (ja c.rs I) J c.ts (k+1))/\∀z∈ps,z.2≠fo/\H z.2=none:=λk n=>by
    obtain ⟨d,y,h1,h2,h3,h4⟩:=D6.2 k n
    refine ⟨d,y,h1,U.rd (by rcases h2 with h | ⟨B,h⟩ <;> exact Y h (by walk_at "w")) h2,h3.keep (λa xs h=>U.at h (Y h ↥1) ↥1) λz _ aL h=>U.at h (Y h ↥1) ↥1,h4⟩
   have ac:∀z∈ab,z.2≠fo/\H z.2=none:=λz hz=>⟨(j1 b (n7 z hz)).symm,C.no (n7 z hz)⟩
   have a5:=D6.1
   clear D6 U N P6 S6 a0 n a1 Y
   walk_at "r"
   refine ⟨.inl ⟨rfl,_,SqL.of R⟩,?_⟩
   walk_at "r"
   refine ⟨_,_,_,rfl,rfl,R,jj (),?_⟩
   have L:∀{a:Addr} {u v:HO},H7 a=some u->(∀xs,u≠.lst xs)->(upd H7 fo v) a=some u:=λh d=>by
    rw [j7 (jo h R (d _))]
    exact h
   have pF:∀{v:HO} {ps:List (Int×Addr)} {cs:List (Int×List T3)},jA H7 ps cs->(∀z∈ps,z.2≠fo/\H z.2=none)->jA (upd H7 fo v) ps cs:=λh d=>h.keep (λa xs h=>L h ↥1) λz hz aL h=>by rw [j7 (d z hz).1];exact h
   refine ⟨_,la,ab,ds++[.ref la],rfl,a6,L al ↥1,pF P7 ac,j6,⟨by rw [ao,a5];rfl,λk n=>?_⟩,(E7.keep (λa xs h=>L h ↥1) λkvs h=>L h ↥1).mono (),a9.put am⟩
   by_cases z:k<i
   ·obtain ⟨d,y,h1,h2,h3,h4⟩:=D7 k z
    exact ⟨d,y,by rw [cV ()];exact h1,h2.imp (λh=>L h ↥1) λ⟨B,h⟩=>⟨B,L h ↥1⟩,pF h3 h4,h4⟩
   ·have e:k=i:=()
    subst e
    exact ⟨la,ab,by rw [bX (),a5,mK];rfl,.inl (L al ↥1),pF P7 ac,ac⟩
  ·rintro σ p ⟨x6,pa,ps,ds,rfl,M,N,P6,b,D6,E6,C⟩
   walk_at "r"
   refine ⟨by show 2<=sizeLine;decide,λt H7 ht a8 x=>?_⟩
   refine k t fo ea ds H7 (C.no ht) am as a8 (x _ _ b) ⟨D6.1,λk n=>?_⟩ ((E6.keep (jp.same x) λkvs h=>x _ _ h).mono ()) (C.trans (FrM.of_same x))
   obtain ⟨d,y,h1,h2,h3,h4⟩:=D6.2 k n
   exact ⟨d,y,h1,h2.imp (λh=>x _ _ h) λ⟨B,h⟩=>⟨B,x _ _ h⟩,h3.keep (jp.same x) λz _ aL h=>x _ _ h,λz hz=>(h4 z hz).2⟩
theorem XO {R m:Int}{f:Nat->List T3}:∀{n:Nat},qH ((aJ n).map λp:Nat=>(R-(p:Int),f p)) m=if 0<=R-m/\R-m<(n:Int) then f (R-m).toNat else []:=λ{n}=>by
 unfold qH
 by_cases z:0<=R-m/\R-m<(n:Int)
 ·rw [if_pos z]
  have e:((aJ n).map λp:Nat=>(R-(p:Int),f p)).find? (λq=>decide (q.1=m))=some (m,f (R-m).toNat):=by
   rw [List.find?_map]
   have c:(aJ n).find? ((λq:Int×List T3=>decide (q.1=m)) ∘ λp:Nat=>(R-(p:Int),f p))=some (R-m).toNat:=by
    rw [List.find?_range_eq_some]
    refine ⟨?_,List.mem_range.mpr (),λj d=>?_⟩
    ·show decide (R-(((R-m).toNat:Nat):Int)=m)=true
     exact decide_eq_true ()
    ·show (!decide (R-(j:Int)=m))=true
     rw [decide_eq_false ()]
     rfl
   rw [c]
   show some (R-(((R-m).toNat:Nat):Int),_)=_
   rw [show R-(((R-m).toNat:Nat):Int)=m by right]
  rw [e]
  rfl
 ·rw [if_neg z]
  have e:((aJ n).map λp:Nat=>(R-(p:Int),f p)).find? (λq=>decide (q.1=m))=none:=by
   rw [List.find?_eq_none]
   intro q a
   obtain ⟨p,b,rfl⟩:=List.mem_map.mp a
   have:=List.mem_range.mp b
   rw [decide_eq_true_eq]
   show ¬R-(p:Int)=m
   right
  rw [e]
  rfl
theorem J4 (dn:List (Int×Int)) (gd:List Int) (wr:List (Int×T3)) (ts:List T3) (i:Nat) (m:Int):qH (qC dn gd wr ts (i+1)) m=if 0<=(i:Int)+jc dn (i:Int)-m/\(i:Int)+jc dn (i:Int)-m< ↥71 then zi (qH (qC dn gd wr ts i) m) (i:Int) ((i:Int)+jc dn (i:Int)-m) (xz dn gd wr ts m (i:Int)) else []:=by
 show qH ((aJ gd.length).map λp:Nat=>((i:Int)+jc dn (i:Int)-(p:Int),zi ↥37 (i:Int) (p:Int) (chg (zJ wr ts (i:Int)) (gd.getD p 0)))) m=_
 rw [XO (f:=λp:Nat=>zi ↥37 (i:Int) (p:Int) (chg (zJ wr ts (i:Int)) (gd.getD p 0)))]
 by_cases z:0<=(i:Int)+jc dn (i:Int)-m/\(i:Int)+jc dn (i:Int)-m< ↥71
 ·rw [if_pos z,if_pos z]
  have e:((((i:Int)+jc dn (i:Int)-m).toNat:Nat):Int)=(i:Int)+jc dn (i:Int)-m:=()
  show zi (qH (qC dn gd wr ts i) ((i:Int)+jc dn (i:Int)-((((i:Int)+jc dn (i:Int)-m).toNat:Nat):Int))) _ ((((i:Int)+jc dn (i:Int)-m).toNat:Nat):Int) _=_
  rw [e,show (i:Int)+jc dn (i:Int)-((i:Int)+jc dn (i:Int)-m)=m by right]
  rfl
 ·rw [if_neg z,if_neg z]
theorem U9 {hs:List T3}{y p w d:Int}(j:(hs.length:Int)=d):((zi hs y p w).length:Int)=d+(if w > - d then w else-d):=by
 unfold zi
 by_cases z:0<w
 ·rw [if_pos z,if_pos (show w > - d by right),ao,ah,bz]
  right
 ·rw [if_neg z,aN]
  split <;> right
theorem VO {dn ms:List (Int×Int)}{gd:List Int}(G:ms.Perm dn) (hs: (↥45).Pairwise (· <= ·)) (I:(dn.map (·.1)).Nodup) (pos:∀q∈dn,0<=q.1/\0<=q.2) (m:Int) :
  ∀j:Nat,j<=(↥152).toNat->((qH (qC dn gd wr ts ((jn 0 0 ms m).toNat+j)) m).length:Int)=yE ms gd wr ts m (jn 0 0 ms m) j:=by
 have n:=zt G hs pos m
 have b:=λy=>xG G y
 intro j
 induction j with
 | zero =>
  intro _
  have e:qH (qC dn gd wr ts ((jn 0 0 ms m).toNat+0)) m=[]:=by
   rw [Nat.add_zero]
   cases h:(jn 0 0 ms m).toNat with
   | zero=>rfl
   | succ i =>
    rw [J4,if_neg]
    intro z
    have:=(xq G hs I pos m ↥71 (i:Int) ()).mp z
    right
  rw [e]
  rfl
 | succ j f =>
  intro l
  have c:=f ()
  have g:(((jn 0 0 ms m).toNat+j:Nat):Int)=jn 0 0 ms m+(j:Int):=()
  have d:=(xq G hs I pos m ↥71 (((jn 0 0 ms m).toNat+j:Nat):Int) ()).mpr ()
  have a:=J4 dn gd wr ts ((jn 0 0 ms m).toNat+j) m
  rw [if_pos d] at a
  have k:xz dn gd wr ts m (((jn 0 0 ms m).toNat+j:Nat):Int)=xz ms gd wr ts m (jn 0 0 ms m+(j:Int)):=by
   rw [g]
   unfold xz plc
   rw [b]
  rw [<- Nat.add_assoc,a,U9 c,k]
  rfl
theorem Xh {F:List T3->Prop}(z:F []) {j:List (Int×List T3)}(h:∀q∈j,F q.2) (m:Int):F (qH j m):=by
 unfold qH
 cases e:j.find? λq=>decide (q.1=m) with
 | none=>exact z
 | some q=>exact h q (dG e)
theorem XR {hs:List T3}{y p w:Int}(h:hs.Nodup/\∀x∈hs,x.1<y):(zi hs y p w).Nodup/\∀x∈zi hs y p w,x.1<y+1:=by
 unfold zi
 by_cases z:0<w
 ·rw [if_pos z]
  have d:∀x∈(aJ w.toNat).map (λk:Nat=>(y,p,(k:Int))),x.1=y:=λx c=>by
   obtain ⟨k,_,rfl⟩:=List.mem_map.mp c
   rfl
  refine ⟨List.nodup_append.mpr ⟨h.1,?_,λa i b g e=>?_⟩,λx c=>?_⟩
  ·refine ip _ (λa b f e=>f ?_) (mq (n:=w.toNat))
   have:=congrArg (λq:T3=>q.2.2) e
   have this:(a:Int)=(b:Int):=this
   right
  ·have h1:=h.2 a i
   have h2:=d b g
   rw [e] at h1
   right
  ·rcases List.mem_append.mp c with k | k
   ·have:=h.2 x k
    right
   ·have:=d x k
    right
 ·rw [if_neg z]
  refine ⟨h.1.sublist (pO _ _),λx c=>?_⟩
  have:=h.2 x (dO c)
  right
theorem wz (dn:List (Int×Int)) (gd:List Int) (wr:List (Int×T3)) (ts:List T3):∀(i:Nat),∀q∈qC dn gd wr ts i,q.2.Nodup/\∀x∈q.2,x.1<(i:Int)
 | 0,q,h=>nomatch h
 | i+1,q,h=>by
  obtain ⟨p,_,rfl⟩:=List.mem_map.mp h
  exact XR (Xh (F:=λl=>l.Nodup/\∀x∈l,x.1<(i:Int)) ⟨.nil,λx a=>nomatch a⟩ (wz dn gd wr ts i) _)
noncomputable def Und (U:List T3) (Y:Int) (b:Nat) (hs:List T3):Prop:=∃xI,hs=U.take (min b hs.length)++xI/\∀x∈xI,Y<x.1
theorem Und.start {Y:Int}:Und U Y U.length U:=⟨[],by rw [Nat.min_self,aY,aF],λx a=>nomatch a⟩
theorem Und.step {Y y p w:Int}{b:Nat}(h:Und U Y b hs) (G:b<=U.length) (j:Y<y):Und U Y (min b hs.length) (zi hs y p w):=by
 obtain ⟨xI,e,g⟩:=h
 generalize m:min b hs.length=c at *
 have d:(U.take c).length=c:=by rw [aN];right
 by_cases z:0<w
 ·have a:zi hs y p w=U.take c++(xI++(aJ w.toNat).map (λk:Nat=>(y,p,(k:Int)))):=by
   unfold zi
   rw [if_pos z,<- cA,<- e]
  refine ⟨xI++(aJ w.toNat).map (λk:Nat=>(y,p,(k:Int))),?_,λx f=>?_⟩
  ·rw [show min c (zi hs y p w).length=c from ?_]
   ·exact a
   ·rw [a,ao,d]
    right
  ·rcases List.mem_append.mp f with k | k
   ·exact g x k
   ·obtain ⟨k,_,rfl⟩:=List.mem_map.mp k
    exact j
 ·have a:zi hs y p w=hs.take (hs.length-(- w).toNat):=by
   unfold zi
   rw [if_neg z]
  generalize l:hs.length-(- w).toNat=n at a
  have i:(zi hs y p w).length=n:=by rw [a,aN];right
  refine ⟨xI.take (n-c),?_,λx f=>g x (dO f)⟩
  rw [i,a]
  conv=>lhs;rw [e]
  rw [List.take_append,d,tM,Nat.min_comm]
theorem Und.count {U hs:List T3}{Y:Int}{b:Nat}(h:Und U Y b hs) (G:b<=U.length) (j:∀x∈U,x.1<=Y):(hs.filter λx=>decide (x∈U)).length=min b hs.length:=by
 obtain ⟨xI,e,d⟩:=h
 generalize f:min b hs.length=c at *
 rw [e,bL,List.filter_eq_self.mpr λx a=>decide_eq_true (dO a),List.filter_eq_nil_iff.mpr,aF,aN]
 ·right
 ·intro x a z
  have h1:=j x (of_decide_eq_true z)
  have h2:=d x a
  right
theorem Jr (h:yx a=yx b):a=b:=by
 obtain ⟨i,g,f⟩:=a
 obtain ⟨e,d,c⟩:=b
 unfold yx at h
 cases h
 rfl
theorem Ua (U:List T3) (x:T3):(qh ((U.map yx).map λm=>((m,.bl true):List Key×V)) (yx x)).isSome=decide (x∈U):=by
 rw [<- yv,dJ,List.any_eq_true,decide_eq_true_eq]
 constructor
 ·rintro ⟨d,c,e⟩
  obtain ⟨m,b,rfl⟩:=List.mem_map.mp c
  obtain ⟨u,a,rfl⟩:=List.mem_map.mp b
  rw [<- Jr (of_decide_eq_true e)]
  exact a
 ·intro h
  exact ⟨_,List.mem_map.mpr ⟨_,List.mem_map.mpr ⟨x,h,rfl⟩,rfl⟩,decide_eq_true rfl⟩
inductive spStoneWay  (vs:List V) (H:Hp) (Q:VK) (z_3:XK):Prop
 | mk (sd:Addr) (c:ScN) (g:IceG) (l n y:Int) (wy:List Int) (da:Addr) (dn ms:List (Int×Int)) (wr:List (Int×T3)) (_:vs=[.ref sd,.int l,.int n,.int y]) (_:ScAt H sd c) (_:LaneF c g l wy da dn) (_:ms.Perm dn) (_: (↥45).Pairwise (· <= ·)) (_:xL H c.sk wr) (_:1<=c.ts.length) (_:c.ts.length<=1000) (_:(∀z,good (zJ wr c.ts z)=true)) (_:0<=n) (_:n< ↥46) (_:0<=y) (_:y<=50) (_:∀(t ro en:Addr) (out:List V) (H':Hp),H t=none->H ro=none->H' t=some (.tup [.ref ro,.ref en])->H' ro=some (.lst out)->qw H' out ↥38->H' en=some (.tup (Yg (uE ↥38)))->FrM c.D H H'->Q (.ref t) H')
theorem yN.fr {n:Nat}{ok:Addr->Prop}(D:yN H ds n W ok) (f:FrM M H H'):yN H' ds n W ok:=⟨D.1,λk a=>by
 obtain ⟨d,ps,h1,h2,c,b⟩:=D.2 k a
 exact ⟨d,ps,h1,f.rd h2,c.keep (FrM.keepT f) λz _ e h=>f.at h ↥1,b⟩⟩
theorem yN.get {n k:Nat}{ts:List T3}{ok:Addr->Prop}{m:Int}(D:yN H ds n (qC dn gd wr ts) ok) (I:k<n) (U:0<=(k:Int)+jc dn (k:Int)-m) (h1:(k:Int)+jc dn (k:Int)-m< ↥71):∃d G j kvs,ds[k]? = some (V.ref d)/\Rd H d (.dK kvs)/\qh kvs (.inl m)=some (.ref G)/\H G=some (.lst j)/\jN H j (qH (qC dn gd wr ts (k+1)) m):=by
 obtain ⟨d,ps,o,s,g,_⟩:=D.2 k I
 have t:ps.length=gd.length:=by
  have h1:=congrArg fm (jA.keys g)
  rw [ah,ah] at h1
  rw [h1]
  show ((aJ _).map _).length=_
  rw [ah,bz]
 have l:(ps.map (·.1)).Nodup:=jA.keys g ▸ wH dn gd wr ts (k+1)
 obtain ⟨z,h⟩:∃z,ps[((k:Int)+jc dn (k:Int)-m).toNat]? = some z:=⟨_,af ()⟩
 obtain ⟨q,r,b,j,c,a⟩:=Paired.get g h
 have e:qH (qC dn gd wr ts (k+1)) m=_:=XO (R:=(k:Int)+jc dn (k:Int)) (m:=m) (n:=gd.length) (f:=λp:Nat=>zi (qH (qC dn gd wr ts k) ((k:Int)+jc dn (k:Int)-(p:Int))) (k:Int) (p:Int) (chg (zJ wr ts (k:Int)) (gd.getD p 0)))
 rw [if_pos ()] at e
 have i:q=((k:Int)+jc dn (k:Int)-((((k:Int)+jc dn (k:Int)-m).toNat:Nat):Int),qH (qC dn gd wr ts (k+1)) m):=by
  rw [e]
  refine (aT (r.symm.trans ?_))
  show ((aJ gd.length).map _)[_]? = _
  rw [ay,dX ()]
  rfl
 rw [i] at b a
 refine ⟨d,z.2,j,ps.map kvA,o,s,?_,c,a⟩
 have b:z.1=m:=by
  have b:z.1=(k:Int)+jc dn (k:Int)-((((k:Int)+jc dn (k:Int)-m).toNat:Nat):Int):=b
  right
 rw [<- b]
 exact vF l (aA h)
structure StCol (rows:List Q4) (U:Nat->List T3) (pl:Nat->Int) (yn:Nat) (len:Int):Prop where
 row:∀(j:Nat) q,rows[j]? = some q->q.1=(yn:Int)+(j:Int)/\q.2.1=pl j/\q.2.2.2=((U j).length:Int)
 step:∀j,j+1<rows.length->∀b,b<=(U 0).length->Und (U 0) (yn:Int) b (U j)->Und (U 0) (yn:Int) (min b (U j).length) (U (j+1))
 l1:1<=rows.length
 l2:(rows.length:Int)<=len
 on:∀j,j<rows.length↔pl j<len
 nn:∀j,0<=pl j
 nd:(U 0).Nodup
 lt:∀x∈U 0,x.1<=(yn:Int)
 sz:∀j,j<=30->yn<=50->(U j).length<=729
theorem GK {dn ms:List (Int×Int)}{gd:List Int}{wr:List (Int×T3)}{ts:List T3}{yn:Nat}{m:Int}(U:∀z,good (zJ wr ts z)=true) (G:ms.Perm dn) (hs: (↥45).Pairwise (· <= ·)) (I:(dn.map (·.1)).Nodup) (pos:∀q∈dn,0<=q.1/\0<=q.2) (Y:0<=(yn:Int)+jc dn (yn:Int)-m) (h1:(yn:Int)+jc dn (yn:Int)-m< ↥71) :
  StCol ((jE ms gd wr ts m).drop (↥124).toNat) (λj=>qH (qC dn gd wr ts (yn+j+1)) m) (λj=>↥81+jc dn ↥81-m) yn ↥71:=by
 have s:=(xq G hs I pos m ↥71 (yn:Int) ()).mp ⟨Y,h1⟩
 have v:=zt G hs pos m
 have r:=vG G hs I pos m ↥71 ()
 have t:=xJ ms gd wr ts m
 have f:=λy=>xG G y
 have d:((jE ms gd wr ts m).drop (↥124).toNat).length=(jn 0 0 ms (m+ ↥71)-(yn:Int)).toNat:=by rw [cq];right
 have g:∀j:Nat,0<=↥81+jc dn ↥81-m:=λj=>by
  have:=gm (λq a=>(pos q a).2) (show (yn:Int)<=↥81 by right)
  right
 have on:∀j:Nat,j<((jE ms gd wr ts m).drop (↥124).toNat).length↔ ↥81+jc dn ↥81-m< ↥71:=λj=>by
  have:=xq G hs I pos m ↥71 ↥81 ()
  rw [d]
  constructor
  ·intro h
   exact (this.mpr ()).2
  ·intro h
   have:=this.mp ⟨g j,h⟩
   right
 have fr:=Xh (F:=λl=>l.Nodup/\∀x∈l,x.1<((yn+0+1:Nat):Int)) ⟨.nil,λx i=>nomatch i⟩ (wz dn gd wr ts (yn+0+1)) m
 refine ⟨λj q a=>?_,λj c b p o=>?_,(),(),on,g,fr.1,λx i=>?_,λj c u=>?_⟩
 ·have c:=(List.getElem?_eq_some_iff.mp a).1
  rw [d] at c
  rw [eL] at a
  unfold jE uu at a
  rw [ay,dX ()] at a
  have a:=aT a
  subst a
  have n:jn 0 0 ms m+((↥124).toNat+j:Nat)=↥81:=()
  have k:=VO (gd:=gd) (wr:=wr) (ts:=ts) G hs I pos m ((↥124).toNat+j+1) ()
  rw [show (jn 0 0 ms m).toNat+((↥124).toNat+j+1)=yn+j+1 by right] at k
  refine ⟨?_,?_,k.symm⟩
  ·show jn 0 0 ms m+_=_
   rw [n]
   right
  ·show plc ms m (jn 0 0 ms m+_)=_
   unfold plc
   rw [n,f]
 ·have e:=J4 dn gd wr ts (yn+j+1) m
  rw [if_pos ⟨g (j+1),(on (j+1)).mp c⟩] at e
  show Und _ _ _ (qH (qC dn gd wr ts (yn+(j+1)+1)) m)
  rw [show yn+(j+1)+1=yn+j+1+1 by right,e]
  exact o.step p ()
 ·have:=fr.2 x i
  right
 ·have:=QM (Qh (dn:=dn) (gd:=gd) U (yn+j+1)) m
  show (qH (qC dn gd wr ts (yn+j+1)) m).length<=_
  right
theorem YC {X:List Q4}{q:Q4}(h:q.2.2.1+q.2.2.2=0):uE (X++[q]) = .left q.1 q.2.1:=by
 unfold uE
 rw [oo,if_pos h]
theorem Ub {X:List Q4}{q:Q4}(h:q.2.2.1+q.2.2.2≠0):uE (X++[q]) = .off (q.1+1):=by
 unfold uE
 rw [oo,if_neg h]
theorem jG:FnScope ["_law_scene_here","_law_lane","_law_place","_law_year_here","_law_length","_law_one","_law_found","_law_ends","_law_under","_law_rows","_law_when","_law_spot_here","_law_hands","_law_beneath"] ["_law_scene_here","_law_lane","_law_place","_law_year_here"] (j8 qZ):=by walk_at "s"
theorem Qo (nb:Nb2 mg) (b4:mg "dict" = none) (Y:Cal P w K mg base 1 "_law_ride" ["_law_scene_here","_law_lane","_law_year_here"] spRide) (ap:Cal P w K mg base 4 "_law_walk" ["_law_scene_here","_law_lane","_law_last"] spWalk)
  (F:Fun K "_law_stone_way" "_law_stone_way" qZ f fd):FnOk P w K mg base CX0 5 f fd ["_law_scene_here","_law_lane","_law_place","_law_year_here"] spStoneWay:=by
 refine F.ok jG (λB H Q E h=>?_) (λeH A outer s H B Q E hr h=>?_)
 ·obtain ⟨sd,c,g,l,n,y,wy,da,L,ms,wr,rfl,_⟩:=h
  rfl
 ·obtain ⟨sd,c,g,l,n,y,wy,da,L,ms,wr,rfl,S,LF,hp,hs,hw,t1,t2,sg,n0,n1,y0,es,k⟩:=h
  have eD:=LF.g30
  have g1:=LF.g1
  obtain ⟨yn,rfl⟩:∃yn:Nat,y=(yn:Int):=⟨y.toNat,()⟩
  have C:=GK (gd:=ja c.rs wy) (wr:=wr) (ts:=c.ts) (yn:=yn) (m:=(yn:Int)+jc L (yn:Int)-n) sg hp hs LF.nd LF.pos () ()
  refine ⟨_,(j4 (jq 4 jG.nd (jd (jg K) rfl nb.b_len aP (j0 ↥99 j2)))
   (j4 (jq 5 jG.nd (jk jU (je Y (hr.mono ⋯) rfl ↥123) (pv 2)))
   (j4 (xw (je ap (hr.mono ⋯) rfl (j0 (pv 0) (j0 (pv 1) (j0 (jk jO (jk jO (pv 3) (pv 4)) j5) j2)))) (qg (n:=2) K rfl (jh (jb (i:=6) jG.nd rfl (aO rfl)) (jh (jb (i:=7) jG.nd rfl (aO rfl)) qa))))
   (j4 (zS (i:=8) jG.nd rfl (dQ rfl) (qL (XT K hr.units rfl) rfl b4 mO (j0 (qd (osc:=(j8 qZ)) (ON:=["_law_scene_here","_law_lane","_law_place","_law_year_here","_law_length","_law_one","_law_found","_law_ends","_law_under","_law_rows","_law_when","_law_spot_here","_law_hands","_law_beneath"]) (N:=["_law_hand"]) (own:=1) (caps:=[]) ⟨rfl,∅,∅,∅,rfl,∅⟩ rfl rfl rfl (jW K (jF (jR hr) (jr (jf K) (pv 6) (pv 3) (λ_ _=>rfl)) (pv 5) (λ_ _=>rfl))) (λ_ _ _ _ _=>(jb (i:=0) (show bg (["_law_hand"]:List Str) by decide +kernel) rfl (aO rfl))) ↥33 (λ_ _ _ _ _=>(jB (j0 (pv 0) (j0 wv j2))))) j2)))
   (j4 (jq 9 jG.nd (jD j2))
   (j4 (qy aV rfl (JB rfl nb.b_range (j0 (pv 3) (j0 (jk jO (pv 3) (pv 4)) j2))) (jb (i:=10) jG.nd rfl (aO rfl)) (j4 (jq 11 jG.nd (jk jU (je Y (hr.mono ⋯) rfl (j0 (pv 0) (j0 (pv 1) (j0 (pv 10) j2)))) (pv 5)))
   (j9 (jI (ju yt (pv 11) (pv 4) (jx _)) (j4 (jq 12 jG.nd (jF (jR hr) (jr (jf K) (pv 6) (pv 10) (λ_ _=>rfl)) (pv 5) (λ_ _=>rfl)))
   (j4 (jq 13 jG.nd (jd (jg K) rfl nb.b_len aP (j0 (qd (osc:=(j8 qZ)) (ON:=["_law_scene_here","_law_lane","_law_place","_law_year_here","_law_length","_law_one","_law_found","_law_ends","_law_under","_law_rows","_law_when","_law_spot_here","_law_hands","_law_beneath"]) (N:=["_law_hand","_law_under"]) (own:=1) (caps:=[8]) ⟨rfl,∅,∅,∅,rfl,∅⟩ rfl rfl rfl (jW K (pv 12)) (λ_ _ _ _ _=>(jb (i:=0) (show bg (["_law_hand","_law_under"]:List Str) by decide +kernel) rfl (aO rfl))) (λ_ _ _ _ _=>(yq (U5 (Vp (jR hr) (pv 0) (pv 1)) ↥52))) (λ_ _ _ _ _=>(pv 0))) j2)))
   (j4 (jV (xZ K b7 b9 ba jY (pv 9) (j0 (jB (j0 (pv 10) (j0 (pv 11) (j0 (jk jU (jd (jg K) rfl nb.b_len aP (j0 (pv 12) j2)) (pv 13)) (j0 (pv 13) j2))))) j2)))
   (j9 (jI (ju x4 (jd (jg K) rfl nb.b_len aP (j0 (pv 12) j2)) j5 (jx _)) (j9 (ji (jB (j0 (pv 9) (j0 (jB (j0 jt (j0 (pv 10) (j0 (pv 11) j2)))) j2))))) js))))) js))))
   (j9 (ji (jB (j0 (pv 9) (j0 (jB (j0 jt (j0 (jk jO (jr (qM K) (jr (jf K) (pv 9) (vd zG j5) (λ_ _=>rfl)) j5 (λ_ _=>rfl)) j5) j2))) j2))))))))))),?_⟩
  obtain ⟨ga,el,eb⟩:=S.gnd LF
  walk_at "r"
  refine ⟨sd,.ref c.gl,rfl,by rw [<- qY c.p c.q c.sg c.gl c.ll];exact qU.k (k:=.inr "grounds") S.sd,?_⟩
  walk_at "r"
  refine ⟨_,_,_,_,rfl,rfl,SqL.of S.gl,el,?_⟩
  walk_at "r"
  refine ⟨ga,_,rfl,.inl (SqL.of eb),?_⟩
  rw [ah]
  walk_at "r"
  simp only [uP,aF]
  refine gJ S LF λH1 f1=>?_
  have S1:=S.frM f1
  have ce:=hw.keep (FrM.keepT f1)
  walk_at "r"
  simp only [uP,aF]
  refine ⟨sd,c,g,l,(yn:Int)+ ↥46+1,wy,da,L,wr,λ_ _=>True,rfl,S1,LF,ce,t1,t2,sg,(),(),(λi _=>⟨λ_ _ _ _ _=>trivial,λ_ _ _ _ _ _ _=>trivial⟩),λt fo ea ds H2 ht ex ey d2 a0 D2 _ f2=>?_⟩
  have ct:=f1.trans f2
  clear f2 S1 ce
  walk_at "r"
  refine ⟨t,_,rfl,SqT.of d2,rfl,?_⟩
  refine ⟨_,_,rfl,_,_,rfl,rfl,?_⟩
  walk_at "r"
  have dv:=C.nn 0
  have dt:=(C.on 0).mp C.l1
  obtain ⟨d0,cn,aL,ep,dd,ci,dF,an,r0⟩:=D2.get (m:=(yn:Int)+jc L (yn:Int)-n) (k:=yn) () dv dt
  generalize hm:(yn:Int)+jc L (yn:Int)-n=m at *
  refine ⟨_,_,_,_,rfl,rfl,SqL.of a0,qI (v:=V.ref d0) () (by rw [bE];exact dd),?_⟩
  walk_at "r"
  refine ⟨d0,.ref cn,rfl,.inl ⟨_,.inl m,ci,rfl,dF.symm⟩,?_⟩
  walk_at "r"
  refine ⟨⟨_,SqL.of an⟩,λacc I=>?_⟩
  generalize hU:(λj=>qH (qC L (ja c.rs wy) wr c.ts (yn+j+1)) m)=U at *
  have eU:∀j,qH (qC L (ja c.rs wy) wr c.ts (yn+j+1)) m=U j:=λj=>congrFun hU j
  have r0:jN H2 aL (U 0):=by rw [<- eU 0];exact r0
  have er:aL.length=(U 0).length:=aM r0
  have ez:=C.sz 0 () ()
  refine qv (K:=K) (a:=cn) (xs:=aL) (acc:=acc) (λi σ H3=>∃(x:Option V) (B:List V),σ=[x]/\H3 acc=some (.lst B)/\B.length=i/\cU (λv (u:List Key)=>∃b c,v=V.ref b/\H3 b=some (.tup [.ref c,.bl true])/\H3 c=some (.tup (u.map kV))) B (((U 0).map yx).take i)/\Ext acc H2 H3) ?_ ?_ ?_ ?_
  ·exact ⟨none,[],rfl,j6,rfl,.nil,Ext.put⟩
  ·rintro i σ H3 hi ⟨x,B,rfl,h3,bv,p3,e3⟩
   exact SqL.of (e3 _ _ an (j1 an I))
  ·rintro i v σ H3 hv ⟨x,B,rfl,h3,bv,p3,e3⟩
   obtain ⟨u,hu,b,rfl,hb⟩:=jN.get r0 hv
   have hi:=(List.getElem?_eq_some_iff.mp hv).1
   have ej:=e3 _ _ hb (j1 hb I)
   walk_at "r"
   refine ⟨by show 2<=sizeLine;decide,λq H4 hq d4 s4=>?_⟩
   have h4:=s4 _ _ h3
   have nT:∀{a:Addr} {xs ys:List V},H4 a=some (.tup xs)->(upd H4 acc (.lst ys)) a=some (.tup xs):=λh=>by rw [j7 (jo h h4 ↥4)];exact h
   refine ⟨_,h4,jj (),_,B++[.ref q],rfl,j6,by rw [ao,bv];rfl,?_,λc o hc nc=>by rw [j7 nc];exact s4 _ _ (e3 c o hc nc)⟩
   rw [bI,ay,hu]
   exact bV (Paired.mapP p3 λv m ⟨b,c,e1,e2,e3⟩=>⟨b,c,e1,nT (s4 _ _ e2),nT (s4 _ _ e3)⟩) ⟨q,b,rfl,nT d4,nT (s4 _ _ ej)⟩
  rintro σ H3 ⟨x,B,rfl,h3,bv,p3,e3⟩
  have s3:jm H2 H3:=λc o hc=>e3 c o hc (j1 hc I)
  rw [bT (by rw [ah];right)] at p3
  walk_at "r"
  simp only [uP,aF]
  refine ⟨acc,B,_,rfl,SqL.of h3,p3,ip _ (λa b h e=>h (Jr e)) C.nd,by rw [ah];right,λun H4 et cy s4=>?_⟩
  have ae:=ct.trans (FrM.of_same (s3.trans s4))
  have D4:=D2.fr (FrM.of_same (M:=c.D) (s3.trans s4))
  have db:=s4 _ _ (s3 _ _ a0)
  clear e3 p3 h3 s3 s4 D2 a0 ct I ci an r0
  walk_at "r"
  refine ⟨aG _,λro H5 bq c1 s5=>?_⟩
  have bm:H ro=none:=ae.no bq
  walk_at "r"
  refine ⟨_,_,rfl,⟨(),(),(),()⟩,?_⟩
  rw [show ((yn:Int)+ ↥46-(yn:Int)).toNat=(ja c.rs wy).length by right]
  generalize ev:(jE ms (ja c.rs wy) wr c.ts m).drop (↥124).toNat=rows at *
  obtain ⟨q0,ch⟩:∃q,rows[0]? = some q:=⟨_,af C.l1⟩
  have dy:xB rows=zP ((U 0).length:Int) rows:=by
   unfold xB
   rw [m9,mP,ch]
   show zP q0.2.2.2 rows=_
   rw [(C.row 0 q0 ch).2.2]
  have l2:=C.l2
  have dx:∀{kvs:List (List Key×V)} {kvs':List (Key×V)},HO.dT kvs≠.dK kvs':=by intro _ _ z;cases z
  refine qK (λj σ H6=>∃(a8 a7 a6 a5:Option V) (b:Nat) (X:List Q4) (G:List V),σ=[some (.ref sd),some (.int l),some (.int n),some (.int (yn:Int)),some (.int ↥46),some (.int m),some (.ref fo),some (.ref ea),some (.ref un),some (.ref ro),a8,a7,a6,a5]/\H6 ro=some (.lst G)/\qw H6 G X/\X.length<=j/\xB rows=X++zP (b:Int) (rows.drop j)/\(j<rows.length->b<=(U 0).length/\Und (U 0) (yn:Int) b (U j))/\(∀q∈X,q.2.2.1+q.2.2.2≠0)/\FrM c.D H4 H6) ?_ ?_ ?_
  ·exact ⟨_,_,_,_,(U 0).length,[],[],rfl,c1,.nil,aG _,dy,λ_=>⟨ar _,Und.start⟩,(λq hq=>nomatch hq),FrM.of_same s5⟩
  ·rintro j σ H6 hj ⟨a8,a7,a6,a5,b,X,G,rfl,R,r6,hX,J,cs,a2,f6⟩
   have S6:=S.frM (ae.trans f6)
   walk_at "r"
   simp only [uP,aF]
   refine gJ S6 LF λH7 a3=>?_
   have f7:=f6.trans a3
   have bn:=a3.at R ↥1
   have r7:qw H7 G X:=r6.keep (FrM.keepT a3)
   clear f6 a3 R r6 S6
   have a1:(yn:Int)+(j:Int)+jc L ((yn:Int)+(j:Int))-m=(↥81+jc L ↥81-m):=by rw [show ↥81=(yn:Int)+(j:Int) by right]
   have on:=C.on j
   have nn:=C.nn j
   walk_at "r"
   refine qk (λac=>?_) (λac=>?_)
   ·have ac:=a1 ▸ ac
    have b0:=on.mpr ac
    obtain ⟨hb,hu⟩:=cs b0
    obtain ⟨d,ha,oh,kvs,eh,hd,hv,Z,rh⟩:=D4.get (m:=m) (k:=yn+j) () nn ac
    rw [eU j] at rh
    have dk:ha≠ro:=j1 Z bq
    have hd:=f7.rd hd
    have Z:=f7.at Z ↥1
    have rh:jN H7 oh (U j):=jN.keep rh (FrM.keepT f7)
    have eu:=C.sz j () ()
    have ab:oh.length=(U j).length:=aM rh
    obtain ⟨q,hq⟩:∃q,rows[j]? = some q:=⟨_,af b0⟩
    obtain ⟨q1,q2,q3⟩:=C.row j q hq
    have ei:=hu.count hb C.lt
    have bi:=f7.at cy (λkvs=>dx)
    walk_at "r"
    refine ⟨_,_,_,_,rfl,rfl,SqL.of (f7.at db ↥1),qI (v:=V.ref d) () (by rw [show ((yn:Int)+(j:Int)).toNat=yn+j by right];exact eh),?_⟩
    walk_at "r"
    refine ⟨d,.ref ha,rfl,.inl ⟨_,.inl m,hd,rfl,hv.symm⟩,?_⟩
    walk_at "r"
    refine ⟨⟨_,SqL.of Z⟩,λacc I=>?_⟩
    refine qv (K:=K) (a:=ha) (xs:=oh) (acc:=acc) (λi σ H8=>∃(x:Option V) (B:List V),σ=[x,some (.ref un)]/\H8 acc=some (.lst B)/\B.length=(((U j).take i).filter λx=>decide (x∈U 0)).length/\Ext acc H7 H8) ?_ ?_ ?_ ?_
    ·exact ⟨none,[],rfl,j6,rfl,Ext.put⟩
    ·rintro i σ H8 hi ⟨x,B,rfl,h8,T,e8⟩
     exact SqL.of (e8 _ _ Z (j1 Z I))
    ·rintro i v σ H8 hv ⟨x,B,rfl,h8,T,e8⟩
     obtain ⟨u,hu,bu,rfl,cl⟩:=jN.get rh hv
     have cv:(U j).take (i+1)=(U j).take i++[u]:=by rw [bI,hu];rfl
     have ec:=bM (λx=>decide (x∈U 0)) ((U j).take i)
     rw [aN] at ec
     walk_at "r"
     refine ⟨un,_,rfl,qU.t (k:=yx u) (e8 _ _ bi (j1 bi I)) (e8 _ _ cl (j1 cl I)),?_⟩
     rw [Ua]
     refine ⟨_,rfl,?_⟩
     refine qk (λbs=>?_) (λbs=>?_)
     ·walk_at "r"
      refine ⟨_,h8,jj (),some (.ref bu),B++[.ref bu],rfl,j6,?_,e8.trans Ext.put⟩
      rw [cv,bL,ef (by rw [decide_eq_true bs]),ao,ao,T]
      rfl
     ·refine ⟨some (.ref bu),B,rfl,h8,?_,e8⟩
      rw [cv,bL,ee (by rw [decide_eq_false bs];exact au),mX,aF]
      exact T
    rintro σ H8 ⟨x,B,rfl,h8,T,e8⟩
    have s8:jm H7 H8:=λc o hc=>e8 c o hc (j1 hc I)
    rw [bT (),ei] at T
    have am:=s8 _ _ bn
    have r8:qw H8 G X:=r7.keep (jp.same s8)
    have f8:=f7.trans (FrM.of_same (M:=c.D) s8)
    have b1:=s8 _ _ Z
    have ed:rows.drop j=q::rows.drop (j+1):=by
     have:=(↥109).2
     rw [<- this]
     exact bO b0
    have eq:G.length=X.length:=aM r8
    rw [ed] at J
    have c4:min (b:Int) q.2.2.2=↥140:=by rw [q3,T];right
    have J:xB rows=X++((q.1,q.2.1,q.2.2.2-min (b:Int) q.2.2.2,min (b:Int) q.2.2.2)::(if q.2.2.2=0 then [] else zP (min (b:Int) q.2.2.2) (rows.drop (j+1)))):=J
    rw [c4,q1,q2,q3] at J
    walk_at "r"
    refine ⟨acc,B,rfl,.inl (SqL.of h8),?_⟩
    walk_at "r"
    refine ⟨.inl ⟨rfl,_,SqL.of am⟩,?_⟩
    walk_at "r"
    refine ⟨ha,oh,rfl,.inl (SqL.of b1),?_⟩
    walk_at "r"
    refine ⟨by show 4<=sizeLine;decide,λtq H9 dV al s9=>?_⟩
    refine ⟨_,_,_,rfl,rfl,s9 _ _ am,jj (),?_⟩
    have dp:tq≠ro:=(j1 am dV).symm
    have al:H9 tq=some (.tup [.int ((yn:Int)+(j:Int)),.int ((yn:Int)+(j:Int)+jc L ((yn:Int)+(j:Int))-m),.int ((oh.length:Int)- ↥140),.int ↥140]):=al
    rw [ab,a1] at al
    have cd:qw (upd H9 ro (.lst (G++[.ref tq]))) (G++[.ref tq]) (X++[((yn:Int)+(j:Int),↥81+jc L ↥81-m,((U j).length:Int)- ↥140,↥140)]):=bV (r8.keep λa xs q=>by rw [j7 (jo (s9 _ _ q) (s9 _ _ am) ↥4)];exact s9 _ _ q) ⟨tq,rfl,by rw [j7 dp];exact al⟩
    have b2:FrM c.D H4 (upd H9 ro (.lst (G++[.ref tq]))):=(f8.trans (FrM.of_same s9)).put bq
    have b5:(upd H9 ro (.lst (G++[.ref tq]))) ha=some (.lst oh):=by rw [j7 dk];exact s9 _ _ b1
    walk_at "r"
    refine ⟨ha,oh,rfl,.inl (SqL.of b5),?_⟩
    walk_at "r"
    refine qk (λhz=>?_) (λhz=>?_)
    ·have hz:((U j).length:Int)=0:=by rw [<- ab];exact V.int.inj hz
     rw [if_pos hz] at J
     walk_at "r"
     refine ⟨by show 3<=sizeLine;decide,λen eo eg O cb=>?_⟩
     walk_at "r"
     refine ⟨by show 2<=sizeLine;decide,λt' em bk cL b6=>?_⟩
     have bd:=cb.trans b6
     have ek:=ae.trans (b2.trans (FrM.of_same bd))
     have O:eo en=some (.tup [.str "left",.int ((yn:Int)+(j:Int)),.int ((yn:Int)+(j:Int)+jc L ((yn:Int)+(j:Int))-m)]):=O
     rw [a1] at O
     refine k t' ro en _ em ((ae.trans (b2.trans (FrM.of_same cb))).no bk) bm cL (bd _ _ j6) (by rw [J];exact qw.keep cd (jp.same bd)) ?_ ek
     rw [J,YC (show ((U j).length:Int)- ↥140+ ↥140=0 by right)]
     exact b6 _ _ O
    ·have hz:¬((U j).length:Int)=0:=λe=>hz (congrArg V.int (by rw [ab];exact e))
     rw [if_neg hz] at J
     refine ⟨_,_,_,_,B.length,_,_,rfl,j6,cd,by rw [ao];show X.length+1<=_;right,by rw [J,cA];rfl,λh=>⟨(),by have:=C.step j h b hb hu;rw [<- T] at this;exact this⟩,λq hq=>?_,b2⟩
     rcases List.mem_append.mp hq with h | h
     ·exact a2 q h
     ·rw [List.mem_singleton.mp h]
      show ((U j).length:Int)- ↥140+ ↥140≠0
      right
   ·have ew:¬j<rows.length:=λz=>ac (a1 ▸ on.mp z)
    refine ⟨_,_,_,_,b,X,G,rfl,bn,r7,(),?_,(λz=>absurd z ()),a2,f7⟩
    rw [J,cw (),cw ()]
  ·rintro σ H6 ⟨a8,a7,a6,a5,b,X,G,rfl,R,r6,hX,J,cs,a2,f6⟩
   rw [cw ()] at J
   have J:xB rows=X:=by rw [J];exact aF _
   have cr:X≠[]:=λz=>by
    obtain ⟨q,r,e⟩:∃q r,rows=q::r:=by
     cases h:rows with
     | nil=>have:=C.l1;rw [h] at this;exact absurd this ⋯
     | cons q r=>exact ⟨q,r,rfl⟩
    rw [z,e] at J
    exact wZ J
   have ab:G.length=X.length:=aM r6
   have d7:G≠[]:=λz=>cr (eF (by rw [<- ab,z];rfl))
   obtain ⟨as,vl,b3⟩:∃as vl,G=as++[vl]:=⟨_,_,(eZ d7).symm⟩
   have dD:G[as.length]? = some vl:=by rw [b3,bX (ar _),mK];rfl
   obtain ⟨ql,d3,bl,rfl,cm⟩:=Paired.get r6 dD
   have cm:H6 bl=some (.tup [.int ql.1,.int ql.2.1,.int ql.2.2.1,.int ql.2.2.2]):=cm
   have a4:∃Xi,X=Xi++[ql]:=by
    refine ⟨X.dropLast,?_⟩
    have e1:X.length=as.length+1:=by rw [<- ab,b3,ao];rfl
    have e2:X.getLast cr=ql:=by
     rw [List.getLast_eq_getElem]
     have:=(List.getElem?_eq_some_iff.mp d3).2
     simp only [e1,px]
     exact this
    rw [<- e2,eZ]
   obtain ⟨Xi,a4⟩:=a4
   have c2:=a2 ql (by rw [a4];exact aC _ (List.mem_singleton_self _))
   walk_at "r"
   refine ⟨_,_,_,_,rfl,rfl,SqL.of R,(by rw [b3];exact yF as (V.ref bl)),?_⟩
   walk_at "r"
   refine ⟨by show 2<=sizeLine;decide,λen H7 eg dc s7=>?_⟩
   walk_at "r"
   refine ⟨by show 2<=sizeLine;decide,λt' H8 bk d1 s8=>?_⟩
   have a9:=s7.trans s8
   refine k t' ro en G H8 ((ae.trans (f6.trans (FrM.of_same s7))).no bk) bm d1 (a9 _ _ R) (by rw [J];exact qw.keep r6 (jp.same a9)) ?_ (ae.trans (f6.trans (FrM.of_same a9)))
   rw [J,a4,Ub c2]
   exact s8 _ _ dc
theorem YD {W:List Q4}{i:Nat}(h:W[i]? = some q):QE (W.take (i+1))=Zb (QE (W.take i)) q:=by
 unfold QE
 rw [List.take_succ,h,List.foldl_append]
 rfl
theorem Vs {n:Nat}(h:0<n):ixN n (-1)=some (n-1):=by
 unfold ixN
 rw [if_neg ⋯,if_pos ()]
 congr 1
 right
theorem za.concat :∀{xs:List (Int×Int)}{x:Int×Int}{z:List V},za H z (xs++[x])->∃j b,z=j++[V.ref b]/\za H j xs/\H b=some (.tup [.int x.1,.int x.2])
 | [],x,_,.cons ⟨b,e,a⟩ .nil=>⟨[],b,by rw [e];rfl,.nil,a⟩
 | y::r,x,_,.cons h t=>by
  obtain ⟨j,b,e,c,a⟩:=za.concat t
  exact ⟨_::j,b,by rw [e];rfl,.cons h c,a⟩
theorem za.keep {H':Hp}{j:List V}(h:za H j ms) (k:∀(a:Addr) xs,H a=some (.tup xs)->H' a=some (.tup xs)):za H' j ms:=Paired.mapP h λ_ _ ⟨b,e,q⟩=>⟨b,e,k _ _ q⟩
inductive spHidden (C CN CP CY:Addr) (vs:List V) (H:Hp) (Q:VK) (E:XK):Prop
 | mk (p:Addr) (g:IceG) (l n y:Int) (sk:List (Int×Addr)) (wr:List (Int×T3)) (_:vs=[.ref p,.int l,.int n,.int y]) (_:IceAt C H p g) (_:g.lds.length=g.slopes.length) (_:g.kvs=sk.map kvA) (_:xL H sk wr) (_:1<=g.rows.length) (_:g.rows.length<=1000) (_: ↥136) (_:(∀H',jm H H'->0<=l->l< ↥9->n<0\/ ↥49<=n->E (.ref CP) none H')) (_:(0<=l->l< ↥9->0<=n->n< ↥49->∃ns ms,Xj g l ns/\(∀q∈ns,0<=q.1)/\ (↥2).length<=100/\ms.Perm ns/\ (↥45).Pairwise (· <= ·)/\ ↥60 /\
  (0<=y->y<=10 ^ 40->∀W,W=xB ↥80->∀o out H',H o=none->H' o=some (.lst out)->za H' out (QE W)->jm H H'->Q (.ref o) H')))
theorem zR:FnScope ["ice","lane","place","year","stretches","when","where","above","beneath"] ["ice","lane","place","year"] (j8 kg):=by walk_at "s"
theorem Yx (ae:CalX P w K mg base 6 "way" ["ice","lane","place","year"] (spWay C CN CP CY))
  (F:Fun K "hidden" "hidden" kg f fd):FnOk P w K mg base (CX1 P w) 7 f fd ["ice","lane","place","year"] (spHidden C CN CP CY):=by
 refine Fun.okX F zR ↥27 (λbl A outer s H vs Q E hr h=>?_)
 ·obtain ⟨p,g,l,n,y,sk,O,rfl,_⟩:=h
  rfl
 ·obtain ⟨p,g,l,n,y,sk,O,rfl,I,a6,ek,hw,a4,a3,kN,kP,k⟩:=h
  refine ⟨_,(j4 (jq 4 zR.nd (jD j2))
   (j4 (UO rfl (jW K (xc ae (hr.mono ⋯) qP rfl ↥64)) (qg (n:=4) K rfl (jh (jb (i:=5) zR.nd rfl (aO rfl)) (jh (jb (i:=6) zR.nd rfl (aO rfl)) (jh (jb (i:=7) zR.nd rfl (aO rfl)) (jh (jb (i:=8) zR.nd rfl (aO rfl)) qa))))) (j4 (jI (ju x4 (pv 7) j5 (jx _)) (j9 Xm) js)
   (j9 (jI (PW.pt (Qj (Yt K (pv 4)) (wS (ju x4 ↥97 (jk jU (pv 5) j5) (jx _))))) (j9 (xw (jB (j0 ↥97 (j0 (pv 5) j2))) (kJ (pv 4) (vd zG j5) vx))) (j9 (jV (xZ K b7 b9 ba jY (pv 4) (j0 (jB (j0 (pv 5) (j0 (pv 5) j2))) j2))))))))
   (j9 (ji (pv 4))))),?_⟩
  walk_at "r"
  refine ⟨aG _,λst H1 an D s1=>?_⟩
  walk_at "r"
  refine ⟨p,g,l,n,y,sk,O,rfl,I.same s1,a6,ek,hw.keep (jp.same s1),a4,a3,(λhb=>kN H1 s1 hb),(λl0 l1 hb=>kP H1 s1 l0 l1 hb),λl0 l1 n0 n1=>?_⟩
  obtain ⟨d,N,hL,as,a0,hp,hs,kY,k⟩:=k l0 l1 n0 n1
  refine ⟨d,N,hL,as,a0,hp,hs,(λH' s' hb=>kY H' (s1.trans s') hb),λy0 y1 o al H2 ho ab r2 s2=>?_⟩
  have k:=k y0 y1 _ rfl
  have hW:(xB ((jE N ↥2 O g.rows (y+jc d y-n)).drop (y-jn 0 0 N (y+jc d y-n)).toNat)).length<=100:=by
   have Z:∀q∈d,0<=q.1/\0<=q.2:=λq Y=>⟨as q Y,(hL.2.2.2.2.2 q Y).1⟩
   have nd:(d.map (·.1)).Nodup:=hL.2.2.2.1
   have e0:y+jc d y-(y+jc d y-n)=n:=()
   have a9:=(xq hp hs nd Z (y+jc d y-n) (↥2).length y y0).mp (by rw [e0];exact ⟨n0,n1⟩)
   have bk:=xJ N ↥2 O g.rows (y+jc d y-n)
   have a8:=vG hp hs nd Z (y+jc d y-n) (↥2).length ()
   refine aI (gH _ _) ?_
   rw [cq]
   right
  generalize xB ((jE N ↥2 O g.rows (y+jc d y-n)).drop (y-jn 0 0 N (y+jc d y-n)).toNat)=W at *
  have bd:al.length=W.length:=aM r2
  have X:=s2 _ _ D
  walk_at "r"
  refine ⟨⟨_,SqL.of ab⟩,?_⟩
  refine zx (K:=K) (a:=o) (xs:=al) (λi σ G=>∃(x5 x6 x7 x8:Option V) (j:List V),σ=[some (.ref p),some (.int l),some (.int n),some (.int y),some (.ref st),x5,x6,x7,x8]/\G st=some (.lst j)/\za G j (QE (W.take i))/\j.length<=i/\Ext st H2 G) ?_ ?_ ?_ ?_
  ·exact ⟨_,_,_,_,[],rfl,X,.nil,ar _,λc o m _=>m⟩
  ·rintro i σ G hi ⟨x5,x6,x7,x8,j,rfl,b,x,T,t⟩
   exact SqL.of (t _ _ ab (j1 D ho).symm)
  ·rintro i v σ G hv ⟨x5,x6,x7,x8,j,rfl,b,x,T,t⟩
   obtain ⟨q,Y,bq,rfl,J⟩:=Paired.get r2 hv
   have hi:i<W.length:=(List.getElem?_eq_some_iff.mp Y).1
   have J:H2 bq=some ↥74:=J
   have a1:bq≠st:=jo J X ↥4
   rw [YD Y]
   walk_at "r"
   refine ⟨bq,_,rfl,SqT.of (t _ _ J a1),rfl,?_⟩
   refine ⟨_,_,rfl,_,_,rfl,_,_,rfl,_,_,rfl,rfl,?_⟩
   walk_at "r"
   refine qk (λz=>?_) (λz=>?_)
   ·walk_at "r"
    exact ⟨_,_,_,_,j,rfl,b,by rw [show Zb (QE (W.take i)) q=QE (W.take i) from if_pos (V.int.inj z)];exact x,lW T,t⟩
   ·have z:¬q.2.2.1=0:=λe=>z (congrArg V.int e)
    have bi:=t _ _ ab (j1 D ho).symm
    walk_at "r"
    generalize QE (W.take i)=hd at *
    have a2:j.length=hd.length:=aM x
    rcases iF hd with e | ⟨ac,p',e⟩
    ·subst e
     have a7:j=[]:=eF a2
     subst a7
     have eh:Zb [] q=[(q.1,q.1)]:=by unfold Zb;rw [if_neg z];rfl
     refine ⟨false,.inl ⟨_,SqL.of b,rfl⟩,?_⟩
     walk_at "r"
     refine ⟨.inl ⟨rfl,_,SqL.of b⟩,?_⟩
     walk_at "r"
     refine ⟨by show 2<=sizeLine;decide,λM H7 U B u=>?_⟩
     refine ⟨_,_,_,rfl,rfl,u _ _ b,jj (by simp),?_⟩
     have R:M≠st:=(j1 b U).symm
     exact ⟨_,_,_,_,[.ref M],rfl,j6,by rw [eh];exact .cons ⟨M,rfl,by rw [j7 R];exact B⟩ .nil,cu (aG _),λc o m n=>by rw [j7 n];exact u _ _ (t c o m n)⟩
    ·rw [iG] at e
     subst e
     obtain ⟨L,q9,rfl,ri,ap⟩:=za.concat x
     have eh:Zb (ac++[p']) q=if p'.2=q.1-1 then ac++[(p'.1,q.1)] else ac++[p']++[(q.1,q.1)]:=by
      unfold Zb
      rw [if_neg z,List.getLast?_concat,List.dropLast_concat]
     rw [eh]
     have am:L.length+1<=i:=by rw [ao] at T;exact T
     refine ⟨true,.inl ⟨_,SqL.of b,by simp⟩,?_⟩
     walk_at "r"
     refine ⟨_,_,_,_,rfl,rfl,SqL.of b,yF _ _,?_⟩
     refine ⟨_,_,_,_,rfl,rfl,SqT.of ap,rfl,?_⟩
     walk_at "r"
     refine qk (λze=>?_) (λze=>?_)
     ·rw [if_pos (V.int.inj ze)]
      walk_at "r"
      refine ⟨_,_,_,_,rfl,rfl,SqL.of b,yF _ _,?_⟩
      refine ⟨_,_,_,_,rfl,rfl,SqT.of ap,rfl,?_⟩
      walk_at "r"
      refine ⟨by show 2<=sizeLine;decide,λq5 H5 a5 aL S=>?_⟩
      walk_at "r"
      refine ⟨st,_,_,(L++[V.ref q9]).length-1,rfl,rfl,S _ _ b,Vs (by simp),?_⟩
      have lq:st≠q5:=j1 b a5
      rw [show (L++[V.ref q9]).set ((L++[V.ref q9]).length-1) (.ref q5)=L++[.ref q5] by simp]
      exact ⟨_,_,_,_,_,rfl,j6,bV (ri.keep λa xs hh=>by rw [j7 (jo (S _ _ hh) (S _ _ b) ↥4)];exact S _ _ hh) ⟨q5,rfl,by rw [j7 lq.symm];exact aL⟩,by rw [ao];exact lW am,λc o m n=>by rw [j7 n];exact S _ _ (t c o m n)⟩
     ·rw [if_neg λe=>ze (congrArg V.int e)]
      walk_at "r"
      refine ⟨.inl ⟨rfl,_,SqL.of b⟩,?_⟩
      walk_at "r"
      refine ⟨by show 2<=sizeLine;decide,λM H7 U B u=>?_⟩
      refine ⟨_,_,_,rfl,rfl,u _ _ b,jj (by rw [ao];show L.length+1<=_;right),?_⟩
      have R:M≠st:=(j1 b U).symm
      exact ⟨_,_,_,_,_,rfl,j6,bV (za.keep x λa xs hh=>by rw [j7 (jo (u _ _ hh) (u _ _ b) ↥4)];exact u _ _ hh) ⟨M,rfl,by rw [j7 R];exact B⟩,by rw [ao,ao];exact cu am,λc o m n=>by rw [j7 n];exact u _ _ (t c o m n)⟩
  ·rintro σ G ⟨x5,x6,x7,x8,j,rfl,b,x,T,t⟩
   rw [bT ()] at x
   walk_at "r"
   exact k st j G an b x (λc o m=>t c o (s2 _ _ (s1 _ _ m)) (j1 m an))
theorem wK:fE "ValueError" = some (.type "ValueError"):=∅
theorem Y5 (K:ag) (j:PE X l tl) (z:X.K=K:=by rfl):PIH X tg l (ZO K tl):=by subst z;exact U6 j
theorem xP:FnScope ["_law_e","_law_known"] ["_law_e"] (j8 xa):=by walk_at "s"
noncomputable def wn (I G z j:Bool):List (Str×Bool):=[("BadYear",I),("NoLane",G),("NoPlace",z),("BadHand",j),("ValueError",true)]
noncomputable def wG (ws:List (Str×Bool)) (i:Nat):List V:=((ws.take i).filter (·.2)).map λq=>V.str q.1
theorem VP {ws:List (Str×Bool)}{i:Nat}{nm:Str}{b:Bool}(h:ws[i]? = some (nm,b)):wG ws (i+1)=wG ws i++(if b=true then [V.str nm] else []):=by
 unfold wG
 rw [bI,h,dB,bL,aE]
 cases b <;> rfl
theorem JL (ws:List (Str×Bool)) (i:Nat):(wG ws i).length<=i:=by
 unfold wG
 rw [ah]
 exact aI (bM _ _) (List.length_take_le _ _)
structure RefK (K:ag) (C0 C1 C2 C3 D:Addr) (b0 b1 b2 b3:Bool):Prop where
 ek:ExK K D
 k0:bb K (.ref D) (.ref C0)=some b0
 k1:bb K (.ref D) (.ref C1)=some b1
 k2:bb K (.ref D) (.ref C2)=some b2
 k3:bb K (.ref D) (.ref C3)=some b3
 k4:bb K (.ref D) (.type "ValueError")=some true
inductive spRefused (K:ag) (C0 C1 C2 C3:Addr) (a:Addr) (cls:aj) (vs:List V) (H:Hp) (Q:VK):Prop
 | mk (D:_) (b0:_) (b1:_) (b2:_) (b3:_) (_:vs=[.ref a]) (_:cls = .ref D) (_:RefK K C0 C1 C2 C3 D b0 b1 b2 b3) (_:∀t H',H' t=some (.tup (.str "no" :: wG (wn b0 b1 b2 b3) 5))->jm H H'->Q (.ref t) H')
theorem Z5 (nb:Nb2 mg) (j:mg "ValueError" = none) (I:mg "BadYear" = some (.ref C0)) (Y:mg "NoLane" = some (.ref C1)) (G:mg "NoPlace" = some (.ref C2)) (U:mg "BadHand" = some (.ref C3))
  (F:Fun K "_law_refused" "_law_refused" xa f fd):FnH P w K mg base 1 f fd ["_law_e"] (spRefused K C0 C1 C2 C3):=by
 refine F.okH xP (λac A outer s H vs Q a oe cls Z h=>?_)
 obtain ⟨D,L,J,E,C,rfl,rfl,⟨ek,k0,k1,k2,k3,k4⟩,k⟩:=h
 have hu:Hu (cxH P w K mg base ["_law_e","_law_known"] "_law_refused" (j8 xa) f ac A outer s H):=WW Z
 have e:=Vi (X:=cxH P w K mg base ["_law_e","_law_known"] "_law_refused" (j8 xa) f ac A outer s H) K ek Z.at_ Z.free Z.out (λz=>by cases z) Z.ex
 refine ⟨_,(j4 (jq 1 xP.nd (jD (j0 (jB (j0 jt (j0 (jd e rfl nb.b_isinstance bJ (j0 (pv 0) (j0 (qR (v:=V.ref _) rfl I rfl) j2))) j2))) (j0 (jB (j0 jt (j0 (jd e rfl nb.b_isinstance bJ (j0 (pv 0) (j0 (qR (v:=V.ref _) rfl Y rfl) j2))) j2))) j2))))
   (j4 (jq 1 xP.nd (jk Q9 (pv 1) (jD (j0 (jB (j0 jt (j0 (jd e rfl nb.b_isinstance bJ (j0 (pv 0) (j0 (qR (v:=V.ref _) rfl G rfl) j2))) j2))) (j0 (jB (j0 jt (j0 (jd e rfl nb.b_isinstance bJ (j0 (pv 0) (j0 (qR (v:=V.ref _) rfl U rfl) j2))) j2))) j2)))))
   (j4 (jq 1 xP.nd (jk Q9 (pv 1) (jD (j0 (jB (j0 jt (j0 (jd e rfl nb.b_isinstance bJ (j0 (pv 0) (j0 (xF (v:=V.ty "ValueError") rfl j wK rfl) j2))) j2))) j2))))
   (j9 (ji (jk VR (jB (j0 jt j2)) (qL (xW K) rfl nb.b_tuple cJ (j0 (Vb (osc:=(j8 xa)) (ON:=["_law_e","_law_known"]) (N:=["_law_name","_law_so"]) (own:=2) (caps:=[]) ⟨rfl,∅,∅,∅,rfl,∅⟩ hu rfl rfl (Y5 K (pv 1)) (λ_ _ _ _ _ T=>(Wd (n:=2) K T (jh (jb (i:=0) (show bg (["_law_name","_law_so"]:List Str) by decide +kernel) rfl (aO rfl)) (jh (jb (i:=1) (show bg (["_law_name","_law_so"]:List Str) by decide +kernel) rfl (aO rfl)) qa)))) (λ_ _ _ _ _ T=>(yq (zD (pv 1)))) (λ_ _ _ _ _ T=>(pv 0))) j2)))))))),?_⟩
 walk_at "r"
 refine ⟨_,_,_,rfl,λu h=>h,k0,?_⟩
 walk_at "r"
 refine ⟨by show 2<=sizeLine;decide,λt0 H0 n0 h0 s0=>?_⟩
 walk_at "r"
 refine ⟨_,_,_,rfl,λu h=>h,k1,?_⟩
 walk_at "r"
 refine ⟨by show 2<=sizeLine;decide,λt1 H1 n1 h1 s1=>?_⟩
 walk_at "r"
 refine ⟨by show 2<=sizeLine;decide,λl1 H2 n2 h2 s2=>?_⟩
 walk_at "r"
 refine ⟨_,_,_,rfl,λu h=>h,k2,?_⟩
 walk_at "r"
 refine ⟨by show 2<=sizeLine;decide,λt2 H3 n3 g R=>?_⟩
 walk_at "r"
 refine ⟨_,_,_,rfl,λu h=>h,k3,?_⟩
 walk_at "r"
 refine ⟨by show 2<=sizeLine;decide,λt3 H4 n4 h4 s4=>?_⟩
 walk_at "r"
 refine ⟨by show 2<=sizeLine;decide,λl2 H5 n5 h5 O=>?_⟩
 refine ⟨l1,l2,_,_,rfl,rfl,O _ _ (s4 _ _ (R _ _ h2)),h5,by show 4<=sizeLine;decide,λl3 H6 n6 h6 s6=>?_⟩
 walk_at "r"
 refine ⟨_,_,_,rfl,λu h=>h,k4,?_⟩
 walk_at "r"
 refine ⟨by show 2<=sizeLine;decide,λt4 H7 n7 h7 M=>?_⟩
 walk_at "r"
 refine ⟨by show 1<=sizeLine;decide,λl4 H8 n8 h8 B=>?_⟩
 refine ⟨l3,l4,_,_,rfl,rfl,B _ _ (M _ _ h6),h8,by show 5<=sizeLine;decide,λl5 H9 n9 h9 s9=>?_⟩
 walk_at "r"
 refine ⟨by show 1<=sizeLine;decide,λtn H10 a0 ab S=>?_⟩
 walk_at "r"
 have m:∀{p o},H8 p=some o->H10 p=some o:=λh=>S _ _ (s9 _ _ h)
 have q:∀{p o},H3 p=some o->H10 p=some o:=λh=>m (B _ _ (M _ _ (s6 _ _ (O _ _ (s4 _ _ h)))))
 have p0:H10 t0=some (.tup [.str "BadYear",.bl L]):=q (R _ _ (s2 _ _ (s1 _ _ h0)))
 have p1:H10 t1=some (.tup [.str "NoLane",.bl J]):=q (R _ _ (s2 _ _ h1))
 have p2:H10 t2=some (.tup [.str "NoPlace",.bl E]):=q g
 have p3:H10 t3=some (.tup [.str "BadHand",.bl C]):=m (B _ _ (M _ _ (s6 _ _ (O _ _ h4))))
 have p4:H10 t4=some (.tup [.str "ValueError",.bl true]):=m (B _ _ h7)
 have p5:H10 l5=some (.lst [.ref t0,.ref t1,.ref t2,.ref t3,.ref t4]):=S _ _ h9
 have all:jm H H10:=((((((((((s0.trans s1).trans s2).trans R).trans s4).trans O).trans s6).trans M).trans B).trans s9).trans S)
 clear m q h0 h1 h2 g h4 h5 h6 h7 h8 h9 s0 s1 s2 R s4 O s6 M B s9 n0 n1 n2 n3 n4 n5 n6 n7 n8 n9
 have pr:∀(i:Nat) (v:V),[V.ref t0,.ref t1,.ref t2,.ref t3,.ref t4][i]? = some v->∃t nm b,v = .ref t/\(wn L J E C)[i]? = some (nm,b)/\H10 t=some (.tup [.str nm,.bl b]):=λi v c=>by
  match i,c with
  | 0,c=>cases c;exact ⟨_,_,_,rfl,rfl,p0⟩
  | 1,c=>cases c;exact ⟨_,_,_,rfl,rfl,p1⟩
  | 2,c=>cases c;exact ⟨_,_,_,rfl,rfl,p2⟩
  | 3,c=>cases c;exact ⟨_,_,_,rfl,rfl,p3⟩
  | 4,c=>cases c;exact ⟨_,_,_,rfl,rfl,p4⟩
  | n+5,c=>cases c
 refine ⟨⟨_,SqL.of p5⟩,λacc d=>?_⟩
 refine qv (K:=K) (a:=l5) (acc:=acc) (xs:=[V.ref t0,.ref t1,.ref t2,.ref t3,.ref t4]) (λi σ H'=>∃x y:Option V,σ=[x,y]/\H' acc=some (.lst (wG (wn L J E C) i))/\Ext acc H10 H') ?_ ?_ ?_ ?_
 ·exact ⟨none,none,rfl,j6,Ext.put⟩
 ·rintro i σ H' hi ⟨x,y,rfl,g,l⟩
  exact SqL.of (l _ _ p5 (j1 p5 d))
 ·rintro i v σ H' c ⟨x,y,rfl,g,l⟩
  obtain ⟨t,nm,b,rfl,hw,ht⟩:=pr i v c
  have kk:=VP hw
  have a1:i<5:=(List.getElem?_eq_some_iff.mp c).1
  have kl:=JL (wn L J E C) i
  refine ⟨t,_,rfl,SqT.of (l _ _ ht (j1 ht d)),rfl,?_⟩
  cases b with
  | false =>
   rw [if_neg au,aF] at kk
   refine ⟨_,_,rfl,_,_,rfl,rfl,_,rfl,_,rfl,?_⟩
   try dsimp only
   rw [if_neg au]
   exact ⟨_,_,rfl,by rw [kk];exact g,l⟩
  | true =>
   rw [if_pos rfl] at kk
   refine ⟨_,_,rfl,_,_,rfl,rfl,_,rfl,_,rfl,?_⟩
   try dsimp only
   rw [if_pos rfl]
   refine ⟨_,rfl,_,g,bU kl (by show i<16777216;right),_,_,rfl,?_,l.trans Ext.put⟩
   rw [j6,kk]
 ·rintro σ H' ⟨x,y,rfl,g,l⟩
  refine ⟨acc,_,rfl,SqL.of g,λtt H11 aL ap am=>?_⟩
  have z:Ext acc H10 H11:=l.trans (Ext.of_same am)
  refine ⟨tn,tt,_,_,rfl,rfl,z _ _ ab (j1 ab d),ap,by have:=JL (wn L J E C) 5;show 1+(wG (wn L J E C) 5).length<=16777216;right,λtf as al an=>?_⟩
  refine k tf as an λb o hb=>al _ _ (z _ _ (all _ _ hb) (j1 (all _ _ hb) d))
noncomputable def noT (w:Str):List V:=[.str "no",.str w,.str "ValueError"]
noncomputable def yI (c:ScN) (l n y:Int):Option Str :=
 if 0<=l/\l<(c.ws.length:Int) then (if 0<=n/\n<((ja c.rs (c.ws.getD l.toNat [])).length:Int) then (if 0<=y/\y<=10 ^ 40 then none else some "BadYear") else some "NoPlace") else some "NoLane"
inductive spDue  (vs:List V) (H:Hp) (Q:VK) (z_3:XK):Prop
 | mk (sd:Addr) (c:ScN) (l n y:Int) (_:vs=[.ref sd,.int l,.int n,.int y]) (_:ScAt H sd c) (_:(yI c l n y=none->Q .non H)) (_:∀w t H',yI c l n y=some w->H t=none->H' t=some (.tup (noT w))->jm H H'->Q (.ref t) H')
theorem wO:FnScope ["_law_scene_here","_law_lane","_law_place","_law_year_here"] ["_law_scene_here","_law_lane","_law_place","_law_year_here"] (j8 zT):=by walk_at "s"
theorem Gx (I:Nb2 mg) (F:Fun K "_law_due_spot" "_law_due_spot" zT f fd):FnOk P w K mg base CX0 1 f fd ["_law_scene_here","_law_lane","_law_place","_law_year_here"] spDue:=by
 refine F.ok wO (λU H Q E h=>?_) (λX A outer s H U Q E N h=>?_)
 ·obtain ⟨i,c,l,n,y,rfl,_⟩:=h
  rfl
 ·obtain ⟨i,c,l,n,y,rfl,S,k,C⟩:=h
  have L:c.zs.length=c.ws.length:=(aM S.gi).trans (ah _)
  have u:qU H i (.str "grounds") (some (.ref c.gl)):=by rw [<- qY c.p c.q c.sg c.gl c.ll];exact qU.k (k:=.inr "grounds") S.sd
  have D:¬(0<=l/\l<(c.ws.length:Int))->∀t H',H t=none->H' t=some (.tup (noT "NoLane"))->jm H H'->Q (.ref t) H':=λz t H'=>C _ t H' (by unfold yI;rw [if_neg z])
  refine ⟨_,(j4 (jI (qX (xk qB yt j5 (pv 1) (jd (jg K) rfl I.b_len aP (j0 (jF (jR N) (pv 0) jt (λ_ _=>rfl)) j2)))) (j9 (ji (jB (j0 jt (j0 jt (j0 jt j2)))))) js)
   (j4 (jI (qX (xk qB yt j5 (pv 2) (jd (jg K) rfl I.b_len aP (j0 (jr (jf K) (jF (jR N) (pv 0) jt (λ_ _=>rfl)) (pv 1) (λ_ _=>rfl)) j2)))) (j9 (ji (jB (j0 jt (j0 jt (j0 jt j2)))))) js)
   (j4 (jI (qX (xk qB qB j5 (pv 3) (jk yf j5 j5))) (j9 (ji (jB (j0 jt (j0 jt (j0 jt j2)))))) js)
   (j9 (ji vW))))),?_⟩
  walk_at "r"
  refine qk (λg=>?_) (λg=>?_)
  ·walk_at "r"
   refine ⟨i,.ref c.gl,rfl,u,?_⟩
   walk_at "r"
   refine ⟨c.gl,_,rfl,.inl (SqL.of S.gl),?_⟩
   rw [L]
   walk_at "r"
   refine zI (λh1=>?_) (λh1=>?_)
   ·walk_at "r"
    refine ⟨by show 3<=sizeLine;decide,λt e d a b=>?_⟩
    exact D (λz=>h1 z.2) t e d a b
   ·clear D
    have hi:l.toNat<c.zs.length:=()
    obtain ⟨Y,o,R,T,O⟩:=Paired.get S.gi (af hi)
    rw [ay] at o
    obtain ⟨wy,M,rfl⟩:=Option.map_eq_some_iff.mp o
    have G:c.ws.getD l.toNat []=wy:=by rw [aq,M];rfl
    have kp:¬(0<=n/\n< ↥46)->∀t H',H t=none->H' t=some (.tup (noT "NoPlace"))->jm H H'->Q (.ref t) H':=λz t H'=>C _ t H' (by unfold yI;rw [G,if_pos ⟨g,h1⟩,if_neg z])
    walk_at "r"
    refine qk (λm=>?_) (λm=>?_)
    ·walk_at "r"
     refine ⟨i,.ref c.gl,rfl,u,?_⟩
     walk_at "r"
     refine ⟨_,_,_,_,rfl,rfl,SqL.of S.gl,qI g (v:=V.ref R) (by rw [af hi,T]),?_⟩
     walk_at "r"
     refine ⟨R,_,rfl,.inl (SqL.of O),?_⟩
     rw [ah]
     walk_at "r"
     refine zI (λj=>?_) (λj=>?_)
     ·walk_at "r"
      refine ⟨by show 3<=sizeLine;decide,λt e d a b=>?_⟩
      exact kp (λz=>j z.2) t e d a b
     ·clear kp
      have J:¬(0<=y/\y<=10 ^ 40)->∀t H',H t=none->H' t=some (.tup (noT "BadYear"))->jm H H'->Q (.ref t) H':=λz t H'=>C _ t H' (by unfold yI;rw [G,if_pos ⟨g,h1⟩,if_pos ⟨m,j⟩,if_neg z])
      walk_at "r"
      refine qk (λB=>?_) (λB=>?_)
      ·walk_at "r"
       refine zI (λx=>?_) (λx=>?_)
       ·walk_at "r"
        refine ⟨by show 3<=sizeLine;decide,λt e d a b=>?_⟩
        exact J (λz=>x z.2) t e d a b
       ·walk_at "r"
        exact k (by unfold yI;rw [G,if_pos ⟨g,h1⟩,if_pos ⟨m,j⟩,if_pos ⟨B,x⟩])
      ·walk_at "r"
       refine ⟨by show 3<=sizeLine;decide,λt e d a b=>?_⟩
       exact J (λz=>B z.1) t e d a b
    ·walk_at "r"
     refine ⟨by show 3<=sizeLine;decide,λt e d a b=>?_⟩
     exact kp (λz=>m z.1) t e d a b
  ·walk_at "r"
   refine ⟨by show 3<=sizeLine;decide,λt e d a b=>?_⟩
   exact D (λz=>g z.1) t e d a b
inductive spBent  (vs:List V) (H:Hp) (Q:VK) (z_3:XK):Prop
 | mk (L b sd:Addr) (c:ScN) (y:Int) (_:vs=[.ref b,.ref sd,.int y]) (_:qc L H b) (_:ScAt H sd c) (_:ScOk b c) (_:1<=c.ws.length) (_:c.ws.length<=6) (_:(∀w∈c.ws,1<=(ja c.rs w).length/\(ja c.rs w).length<=30)) (_:∀(l n y':Int) (t:Addr) (H':Hp),qc L H' b->Ext b H H'->H t=none->H' t=some (.tup [.int l,.int n,.int y'])->Q (.ref t) H')
theorem qp:FnScope ["_law_box_here","_law_scene_here","_law_year_here","_law_lane","_law_place","_law_pick"] ["_law_box_here","_law_scene_here","_law_year_here"] (j8 zE):=by walk_at "s"
theorem Wm (Y:Nb2 mg) (j:Cal P w K mg base 2 "_law_take" ["_law_box_here","_law_size"] spTakeL) (U:Cal P w K mg base 3 "_law_odd" ["_law_box_here"] spOdd) (G:Cal P w K mg base 3 "_law_spot" ["_law_box_here","_law_scene_here"] spSpot)
  (F:Fun K "_law_bent_spot" "_law_bent_spot" zE f fd):FnOk P w K mg base CX0 4 f fd ["_law_box_here","_law_scene_here","_law_year_here"] spBent:=by
 refine F.ok qp ↥27 (λa7 A outer s H vs Q E C h=>?_)
 ·obtain ⟨L,b,d,c,y,rfl,_⟩:=h
  rfl
 ·obtain ⟨L,b,d,c,y,rfl,B,S,O,an,am,hg,k⟩:=h
  have a4:c.zs.length=c.ws.length:=(aM S.gi).trans (ah _)
  have Xp:∀{z a b c:Int},0<=z->z<3->∃n,atI [V.int a,V.int b,V.int c] z=some (V.int n):=λ{z a b c} h0 h1=>by
   have:z=0\/z=1\/z=2:=()
   rcases this with rfl | rfl | rfl
   ·exact ⟨a,rfl⟩
   ·exact ⟨b,rfl⟩
   ·exact ⟨c,rfl⟩
  have Z:∀{H':Hp},ScAt H' d c->qU H' d (.str "grounds") (some (.ref c.gl)):=λS'=>by rw [<- qY c.p c.q c.sg c.gl c.ll];exact qU.k (k:=.inr "grounds") S'.sd
  refine ⟨_,(j4 (xw (je G (C.mono ⋯) rfl (j0 (pv 0) ↥51)) (qg (n:=2) K rfl (jh (jb (i:=3) qp.nd rfl (aO rfl)) (jh (jb (i:=4) qp.nd rfl (aO rfl)) qa))))
   (j4 (jq 5 qp.nd (je j (C.mono ⋯) rfl ↥15))
   (zO (jI (PW.pt (Jt ↥110 (gS ↥110))) (j9 (jq 3 qp.nd (jr (jf K) (jD (j0 (jk jU j5 j5) (j0 (jd (jg K) rfl Y.b_len aP (j0 (jF (jR C) (pv 1) jt (λ_ _=>rfl)) j2)) (j0 (je U (C.mono ⋯) rfl ↥53) j2)))) (je j (C.mono ⋯) rfl ↥15) (λ_ _=>rfl)))) js)
   (zO (jI (PW.pt (Jt ↥110 (Jt ↥110 (gS ↥110)))) (j9 (jq 4 qp.nd (jr (jf K) (jD (j0 (jk jU j5 j5) (j0 (jd (jg K) rfl Y.b_len aP (j0 (jr (jf K) (jF (jR C) (pv 1) jt (λ_ _=>rfl)) (jd (zQ rfl) rfl Y.b_min om (j0 (jd (zj rfl) rfl Y.b_max mx (j0 (pv 3) (j0 j5 j2))) (j0 (jk jU (jd (jg K) rfl Y.b_len aP (j0 (jF (jR C) (pv 1) jt (λ_ _=>rfl)) j2)) j5) j2))) (λ_ _=>rfl)) j2)) (j0 j5 j2)))) (je j (C.mono ⋯) rfl ↥15) (λ_ _=>rfl)))) js)
   (zO (jI (PW.pt (Jt ↥110 (gS ↥110))) (j9 (jq 2 qp.nd (jr (jf K) (jD (j0 (jk jU j5 j5) (j0 (jk jO (jk yf j5 j5) j5) (j0 (jk yf j5 j5) j2)))) (je j (C.mono ⋯) rfl ↥15) (λ_ _=>rfl)))) js)
   (j9 (ji (jB (j0 (pv 3) (j0 (pv 4) ↥59)))))))))),?_⟩
  walk_at "r"
  refine ⟨L,b,d,c,rfl,B,S,O,an,am,hg,λln n wy t H1 a3 a2 a5 n0 n1 B1 X1 ht ae=>?_⟩
  walk_at "r"
  refine ⟨t,_,rfl,SqT.of ae,rfl,?_⟩
  refine ⟨_,_,rfl,_,_,rfl,rfl,?_⟩
  walk_at "r"
  refine ⟨L,b,_,rfl,B1,⟨⋯,⋯⟩,λx H2 a1 a0 B2 X2=>?_⟩
  have S1:=S.ext O B X1
  have S2:=S1.ext O B1 X2
  have ab:=X1.trans X2
  clear B1 X1 X2 S1 ae
  walk_at "r"
  refine ⟨λσ H3=>∃l:Int,σ=[some (.ref b),some (.ref d),some (.int y),some (.int l),some (.int n),some (.int x)]/\qc L H3 b/\Ext b H H3/\ScAt H3 d c,?_,?_⟩
  ·have I:∃l:Int,[some (V.ref b),some (.ref d),some (.int y),some (.int ln),some (.int n),some (.int x)]=[some (.ref b),some (.ref d),some (.int y),some (.int l),some (.int n),some (.int x)]/\qc L H2 b/\Ext b H H2/\ScAt H2 d c:=⟨ln,rfl,B2,ab,S2⟩
   walk_at "r"
   refine qk (λ_=>?_) (λ_=>?_)
   rotate_left
   walk_at "r"
   refine qk (λ_=>?_) (λ_=>I)
   all_goals
    walk_at "r"
    refine ⟨d,.ref c.gl,rfl,Z S2,?_⟩
    walk_at "r"
    refine ⟨c.gl,_,rfl,.inl (SqL.of S2.gl),?_⟩
    walk_at "r"
    refine ⟨L,b,rfl,B2,λz H3 g J=>?_⟩
    walk_at "r"
    refine ⟨by show 3<=sizeLine;decide,λlq H4 D o e=>?_⟩
    walk_at "r"
    refine ⟨L,b,_,rfl,g.same e,⟨⋯,⋯⟩,λv H5 R N B5 u=>?_⟩
    obtain ⟨m,X⟩:=Xp (a:=0-1) (b:=(c.zs.length:Int)) (c:=z) R N
    refine ⟨_,_,_,_,rfl,rfl,SqL.of (u _ _ o (g.ne D)),X,?_⟩
    exact ⟨m,rfl,B5,(ab.trans J).trans ((Ext.of_same e).trans u),((S2.ext O B2 J).same e).ext O (g.same e) u⟩
  rintro σ H3 ⟨l,rfl,g,J,M⟩
  clear B2 ab S2
  refine ⟨λσ H3=>∃l n:Int,σ=[some (.ref b),some (.ref d),some (.int y),some (.int l),some (.int n),some (.int x)]/\qc L H3 b/\Ext b H H3/\ScAt H3 d c,?_,?_⟩
  ·have I:∃l' n':Int,[some (V.ref b),some (.ref d),some (.int y),some (.int l),some (.int n),some (.int x)]=[some (.ref b),some (.ref d),some (.int y),some (.int l'),some (.int n'),some (.int x)]/\qc L H3 b/\Ext b H H3/\ScAt H3 d c:=⟨l,n,rfl,g,J,M⟩
   walk_at "r"
   refine qk (λ_=>?_) (λ_=>?_)
   rotate_left
   walk_at "r"
   refine qk (λ_=>?_) (λ_=>?_)
   rotate_left
   walk_at "r"
   refine qk (λ_=>?_) (λ_=>I)
   all_goals
    walk_at "r"
    refine ⟨d,.ref c.gl,rfl,Z M,?_⟩
    walk_at "r"
    refine ⟨_,_,rfl,?_⟩
    walk_at "r"
    refine ⟨d,.ref c.gl,rfl,Z M,?_⟩
    walk_at "r"
    refine ⟨c.gl,_,rfl,.inl (SqL.of M.gl),?_⟩
    walk_at "r"
    refine ⟨_,_,rfl,?_⟩
    obtain ⟨T,as,x0,x1⟩:∃T:Int,(if (c.zs.length:Int)-1<if 0 > l then 0 else l then (c.zs.length:Int)-1 else if 0 > l then 0 else l)=T/\0<=T/\T<(c.zs.length:Int):=⟨_,rfl,by split <;> split <;> right,by split <;> split <;> right⟩
    rw [as]
    have hi:T.toNat<c.zs.length:=()
    obtain ⟨gw,a6,ga,aL,ap⟩:=Paired.get M.gi (af hi)
    refine ⟨_,_,_,_,rfl,rfl,SqL.of M.gl,qI x0 (v:=V.ref ga) (by rw [af hi,aL]),?_⟩
    walk_at "r"
    refine ⟨ga,_,rfl,.inl (SqL.of ap),?_⟩
    walk_at "r"
    refine ⟨by show 3<=sizeLine;decide,λlq H4 D o e=>?_⟩
    walk_at "r"
    refine ⟨L,b,_,rfl,g.same e,⟨⋯,⋯⟩,λv H5 R N B5 u=>?_⟩
    obtain ⟨m,X⟩:=Xp (a:=0-1) (b:=((gw.map V.int).length:Int)) (c:=31) R N
    refine ⟨_,_,_,_,rfl,rfl,SqL.of (u _ _ o (g.ne D)),X,?_⟩
    exact ⟨l,m,rfl,B5,J.trans ((Ext.of_same e).trans u),(M.same e).ext O (g.same e) u⟩
  rintro σ H3 ⟨l,n,rfl,g,J,M⟩
  refine ⟨λσ H3=>∃l n y:Int,σ=[some (.ref b),some (.ref d),some (.int y),some (.int l),some (.int n),some (.int x)]/\qc L H3 b/\Ext b H H3,?_,?_⟩
  ·have I:∃l' n' y':Int,[some (V.ref b),some (.ref d),some (.int y),some (.int l),some (.int n),some (.int x)]=[some (.ref b),some (.ref d),some (.int y'),some (.int l'),some (.int n'),some (.int x)]/\qc L H3 b/\Ext b H H3:=⟨l,n,y,rfl,g,J⟩
   walk_at "r"
   refine qk (λ_=>?_) (λ_=>?_)
   rotate_left
   walk_at "r"
   refine qk (λ_=>?_) (λ_=>I)
   all_goals
    walk_at "r"
    refine ⟨by show 3<=sizeLine;decide,λlq H4 D o e=>?_⟩
    walk_at "r"
    refine ⟨L,b,_,rfl,g.same e,⟨⋯,⋯⟩,λv H5 R N B5 u=>?_⟩
    obtain ⟨m,X⟩:=Xp (a:=0-1) (b:=10 ^ (40:Int).toNat+1) (c:=10 ^ (40:Int).toNat) R N
    refine ⟨_,_,_,_,rfl,rfl,SqL.of (u _ _ o (g.ne D)),X,?_⟩
    exact ⟨l,n,m,rfl,B5,J.trans ((Ext.of_same e).trans u)⟩
  rintro σ H4 ⟨l,n,y',rfl,B4,X4⟩
  walk_at "r"
  refine ⟨by show 3<=sizeLine;decide,λt' H5 ac al s5=>?_⟩
  have tb:t'≠b:=B4.ne ac
  exact k l n y' t' H5 (B4.same s5) (X4.trans (Ext.of_same s5)) (X4.free ac tb) al
noncomputable def gA:List Q4->ResD
 | []=>.off 0
 | [q]=>if q.2.2.2=0 then .left q.1 q.2.1 else .off (q.1+1)
 | q::r::t=>if q.2.2.2=0 then .left q.1 q.2.1 else gA (r::t)
theorem Yz {x:Q4}:∀{W:List Q4},W≠[]->uE (x::W)=uE W
 | [],h=>absurd rfl h
 | a::r,_=>rfl
theorem XC (a n h b:Int):uE [(a,n,h-min b h,min b h)]=if h=0 then .left a n else .off (a+1):=by
 show (if h-min b h+min b h=0 then ResD.left a n else .off (a+1))=_
 rw [Int.sub_add_cancel]
theorem Ej:∀(D:List Q4) (b:Int),D≠[]->uE (zP b D)=gA D
 | [],b,h=>absurd rfl h
 | [q],b,_=>by
  have e:zP b [q]=[↥36]:=by
   show ↥36::(if q.2.2.2=0 then [] else [])=_
   split <;> rfl
  rw [e,XC]
  rfl
 | q::r::t,b,_=>by
  have e:zP b (q::r::t)=↥36::(if q.2.2.2=0 then [] else zP (min b q.2.2.2) (r::t)):=rfl
  have d:gA (q::r::t)=if q.2.2.2=0 then .left q.1 q.2.1 else gA (r::t):=rfl
  rw [e,d]
  by_cases z:q.2.2.2=0
  ·rw [if_pos z,if_pos z,XC,if_pos z]
  ·rw [if_neg z,if_neg z,Yz wZ]
   exact Ej (r::t) _ (by intro h;cases h)
theorem QZ:∀(m:Nat) {D:List Q4}{q:Q4},D[m]? = some q->q.2.2.2=0->(∀(j:Nat) x,j<m->D[j]? = some x->x.2.2.2≠0)->gA D = .left q.1 q.2.1
 | m,[],q,h,_,_=>by cases h
 | 0,[a],q,h,z,_=>by
  cases h
  exact if_pos z
 | 0,a::b::t,q,h,z,_=>by
  cases h
  exact if_pos z
 | m+1,[a],q,h,_,_=>by cases h
 | m+1,a::b::t,q,h,z,c=>by
  have d:gA (a::b::t)=if a.2.2.2=0 then .left a.1 a.2.1 else gA (b::t):=rfl
  rw [d,if_neg (c 0 a (Nat.succ_pos _) rfl)]
  exact QZ m (D:=b::t) h z λj x f e=>c (j+1) x (Nat.succ_lt_succ f) e
theorem Jm:∀{D:List Q4}{X:List Q4}{q:Q4},D=X++[q]->(∀x∈D,x.2.2.2≠0)->gA D = .off (q.1+1)
 | [],X,q,h,_=>by cases X <;> cases h
 | [a],X,q,h,c=>by
  cases X with
  | nil =>
   cases h
   exact if_neg (c _ (aK ..))
  | cons x X=>cases X <;> cases h
 | a::b::t,X,q,h,c=>by
  have d:gA (a::b::t)=if a.2.2.2=0 then .left a.1 a.2.1 else gA (b::t):=rfl
  rw [d,if_neg (c a (aK ..))]
  cases X with
  | nil=>cases h
  | cons x X=>exact Jm (X:=X) (List.cons.inj h).2 λy e=>c y (aH _ e)
theorem ku {m:Int}{i:Nat}(h:(jE ms gd wr ts m)[i]? = some q):q.1=jn 0 0 ms m+(i:Int):=by
 have hi:=(List.getElem?_eq_some_iff.mp h).1
 rw [xJ] at hi
 rw [kC hi] at h
 cases h
 rfl
structure ByL (H:Hp) (sd:Addr) (c:ScN) (g:IceG) (l n y:Int) (wy:List Int) (da:Addr) (dn ms:List (Int×Int)) (wr:List (Int×T3)):Prop where
 S:ScAt H sd c
 LF:LaneF c g l wy da dn
 p:ms.Perm dn
 s: (↥45).Pairwise (· <= ·)
 w:xL H c.sk wr
 t1:1<=c.ts.length
 t2:c.ts.length<=1000
 n0:0<=n
 n1:n< ↥46
 y0:0<=y
theorem ByL.on {z:Addr}{l n y:Int}(B:ByL H z c g l n y j G dn ms wr):jn 0 0 ms (y+jc dn y-n)<=y/\(y-jn 0 0 ms (y+jc dn y-n)).toNat<(jE ms (ja c.rs j) wr c.ts (y+jc dn y-n)).length/\(jE ms (ja c.rs j) wr c.ts (y+jc dn y-n)).length<=100:=by
 have a:y+jc dn y-(y+jc dn y-n)=n:=()
 have d:=(xq B.p B.s B.LF.nd B.LF.pos (y+jc dn y-n) ((ja c.rs j).length:Int) y B.y0).mp (by rw [a];exact ⟨B.n0,B.n1⟩)
 have b:=vG B.p B.s B.LF.nd B.LF.pos (y+jc dn y-n) ((ja c.rs j).length:Int) ()
 have e:=B.LF.g30
 rw [xJ]
 right
inductive spRestL  (vs:List V) (H:Hp) (Q:VK) (z_3:XK):Prop
 | mk (sd:Addr) (c:ScN) (g:IceG) (l n y:Int) (wy:List Int) (da:Addr) (dn ms:List (Int×Int)) (wr:List (Int×T3)) (_:vs=[.ref sd,.int l,.int n,.int y]) (_:ByL H sd c g l n y wy da dn ms wr) (_:∀t H',H' t=some (.tup (Yg (uE ↥38)))->FrM c.D H H'->Q (.ref t) H')
theorem qj:FnScope ["_law_scene_here","_law_lane","_law_place","_law_year_here","_law_rows","_law_when","_law_spot_here","_law_more","_law_high"] ["_law_scene_here","_law_lane","_law_place","_law_year_here"] (j8 xK):=by walk_at "s"
theorem wL (G:Cal P w K mg base 2 "_law_life_at" ["_law_scene_here","_law_lane","_law_place","_law_year_here"] spLifeAt)
  (F:Fun K "_law_rest_by_life" "_law_rest_by_life" xK f fd):FnOk P w K mg base CX0 3 f fd ["_law_scene_here","_law_lane","_law_place","_law_year_here"] spRestL:=by
 refine F.ok qj ↥27 (λa5 A outer s H vs Q E hr h=>?_)
 ·obtain ⟨sd,c,g,l,n,y,wy,da,O,N,wr,rfl,_⟩:=h
  rfl
 ·obtain ⟨sd,c,g,l,n,y,wy,da,O,N,wr,rfl,B,k⟩:=h
  obtain ⟨aL,U,as⟩:=B.on
  have L:=B.LF
  have a4:=L.g30
  have a0:=L.l10
  refine ⟨_,(j4 (jq 4 qj.nd (je G (hr.mono ⋯) rfl ↥64))
   (j4 (qy aV rfl (jW K (pv 4)) (qg (n:=4) K rfl (jh (jb (i:=5) qj.nd rfl (aO rfl)) (jh (jb (i:=6) qj.nd rfl (aO rfl)) (jh (jb (i:=7) qj.nd rfl (aO rfl)) (jh (jb (i:=8) qj.nd rfl (aO rfl)) qa))))) (j9 (jI (PW.pt (Qj (ju JE (pv 5) (pv 3) (jx _)) (wS (ju x4 (pv 8) j5 (jx _))))) (j9 (ji (jB (j0 jt (j0 (pv 5) (j0 (pv 6) j2)))))) js)))
   (j9 (ji (jB (j0 jt (j0 (jk jO ↥97 j5) j2))))))),?_⟩
  walk_at "r"
  refine ⟨sd,c,l,n,y,wy,da,O,N,wr,rfl,B.S,L.l0,L.way,B.n0,B.n1,(),B.y0,L.cd,(),L.nd,(λq Z=>by have:=L.b q Z;right),B.p,B.s,B.w,B.t1,B.t2,λo H1 C ho ab r1 f1=>?_⟩
  have hy:∀{i:Nat} {q:Q4},(jE N (ja c.rs wy) wr c.ts (y+jc O y-n))[i]? = some q->q.1=jn 0 0 N (y+jc O y-n)+(i:Int):=λh=>ku h
  generalize jE N (ja c.rs wy) wr c.ts (y+jc O y-n)=J at *
  generalize jn 0 0 N (y+jc O y-n)=fst at *
  obtain ⟨kk,ap⟩:∃kk,(y-fst).toNat=kk:=⟨_,rfl⟩
  rw [ap] at k U
  have an:J.drop kk≠[]:=λz=>by
   have:=congrArg fm z
   rw [cq] at this
   simp at this
   right
  have k:∀t H',H' t=some (.tup (Yg (gA (J.drop kk))))->FrM c.D H H'->Q (.ref t) H':=λt H' h f=>k t H' (by unfold xB;rw [Ej _ _ an];exact h) f
  have am:C.length=J.length:=aM r1
  walk_at "r"
  refine ⟨⟨_,SqL.of ab⟩,?_⟩
  refine zx (K:=K) (a:=o) (xs:=C) (λi σ H2=>∃x5 x6 x7 x8:Option V,σ=[some (.ref sd),some (.int l),some (.int n),some (.int y),some (.ref o),x5,x6,x7,x8]/\H2=H1/\∀(j:Nat) x,j<i->J[j]? = some x->y<=x.1->x.2.2.2≠0) ?_ ?_ ?_ ?_
  ·exact ⟨_,_,_,_,rfl,rfl,λj x I=>absurd I (iX _)⟩
  ·rintro i σ H2 hi ⟨x5,x6,x7,x8,rfl,rfl,hn⟩
   exact SqL.of ab
  ·rintro i v σ H2 hv ⟨x5,x6,x7,x8,rfl,rfl,hn⟩
   obtain ⟨q,Z,bq,rfl,m⟩:=Paired.get r1 hv
   have m:H2 bq=some ↥74:=m
   have a1:=hy Z
   have ac:(y<=q.1->q.2.2.2≠0)->∀(j:Nat) x,j<i+1->J[j]? = some x->y<=x.1->x.2.2.2≠0:=λhz j x I u=>by
    by_cases e:j=i
    ·subst e
     rw [Z] at u
     cases u
     exact hz
    ·exact hn j x () u
   walk_at "r"
   refine ⟨bq,_,rfl,SqT.of m,rfl,?_⟩
   refine ⟨_,_,rfl,_,_,rfl,_,_,rfl,_,_,rfl,rfl,?_⟩
   walk_at "r"
   refine qk (λz1=>?_) (λz1=>?_)
   ·walk_at "r"
    refine qk (λR=>?_) (λR=>?_)
    ·have R:q.2.2.2=0:=V.int.inj R
     walk_at "r"
     refine ⟨by show 3<=sizeLine;decide,λt H3 ht Y s3=>?_⟩
     have a3:kk<=i:=()
     refine k t H3 ?_ (f1.trans (FrM.of_same s3))
     rw [QZ (i-kk) (q:=q) (by rw [eL,show kk+(i-kk)=i by right];exact Z) R λj x I u=>?_]
     ·exact Y
     ·rw [eL] at u
      exact hn _ x () u (by rw [hy u];right)
    ·walk_at "r"
     exact ⟨_,_,_,_,rfl,rfl,ac λ_ e=>R (congrArg V.int e)⟩
   ·walk_at "r"
    exact ⟨_,_,_,_,rfl,rfl,ac λh=>absurd h z1⟩
  ·rintro σ H2 ⟨x5,x6,x7,x8,rfl,rfl,hn⟩
   rcases iF J with e | ⟨X,q,e⟩
   ·rw [e] at U
    exact absurd U (iX _)
   ·rw [iG] at e
    have d:C.length=X.length+1:=by rw [am,e,ao];rfl
    obtain ⟨T,v,ev⟩:∃T v,C=T++[v]:=by
     rcases iF C with z | ⟨T,v,z⟩
     ·rw [z] at d;cases d
     ·exact ⟨T,v,by rw [z,iG]⟩
    have al:T.length=X.length:=by rw [ev,ao] at d;exact Nat.succ.inj d
    obtain ⟨M,ae,bq,rfl,m⟩:=Paired.get r1 (i:=X.length) (x:=v) (by rw [ev,<- al,ly])
    obtain rfl:M=q:=by
     rw [e,ly] at ae
     exact (aT ae).symm
    have m:H2 bq=some (.tup [.int M.1,.int M.2.1,.int M.2.2.1,.int M.2.2.2]):=m
    walk_at "r"
    refine ⟨_,_,_,_,rfl,rfl,SqL.of (by rw [<- ev];exact ab),yF _ _,?_⟩
    walk_at "r"
    refine ⟨by show 2<=sizeLine;decide,λt H3 ht Y s3=>?_⟩
    refine k t H3 ?_ (f1.trans (FrM.of_same s3))
    have a2:J.length=X.length+1:=by rw [e,ao];rfl
    rw [Jm (X:=X.drop kk) (q:=M) (by rw [e,List.drop_append_of_le_length ()]) λx u=>?_]
    ·exact Y
    ·obtain ⟨j,I⟩:=List.mem_iff_getElem?.mp u
     rw [eL] at I
     have:=(List.getElem?_eq_some_iff.mp I).1
     exact hn _ x () I (by rw [hy I];right)
inductive spWayL  (vs:List V) (H:Hp) (Q:VK) (z_3:XK):Prop
 | mk (sd:Addr) (c:ScN) (g:IceG) (l n y:Int) (wy:List Int) (da:Addr) (dn ms:List (Int×Int)) (wr:List (Int×T3)) (_:vs=[.ref sd,.int l,.int n,.int y]) (_:ByL H sd c g l n y wy da dn ms wr) (_:∀o out H',H' o=some (.lst out)->qw H' out ↥38->FrM c.D H H'->Q (.ref o) H')
theorem jL:FnScope ["_law_state","_law_lane","_law_place","_law_year_here","_law_beneath","_law_rows","_law_when","_law_spot_here","_law_more","_law_high"] ["_law_state","_law_lane","_law_place","_law_year_here"] (j8 xT):=by walk_at "s"
theorem kF (nb:Nb2 mg) (G:Cal P w K mg base 2 "_law_life_at" ["_law_scene_here","_law_lane","_law_place","_law_year_here"] spLifeAt)
  (F:Fun K "_law_way_by_life" "_law_way_by_life" xT f fd):FnOk P w K mg base CX0 3 f fd ["_law_state","_law_lane","_law_place","_law_year_here"] spWayL:=by
 refine F.ok jL ↥27 (λa9 A outer s H vs Q E hr h=>?_)
 ·obtain ⟨sd,c,g,l,n,y,wy,da,R,O,wr,rfl,_⟩:=h
  rfl
 ·obtain ⟨sd,c,g,l,n,y,wy,da,R,O,wr,rfl,B,k⟩:=h
  obtain ⟨a4,an,a3⟩:=B.on
  have L:=B.LF
  have a8:=L.g30
  have a5:=L.l10
  refine ⟨_,(j4 (jq 4 jL.nd j5)
   (j4 (jq 5 jL.nd (jD j2))
   (j4 (qy aV rfl (jW K (je G (hr.mono ⋯) rfl ↥64)) (qg (n:=4) K rfl (jh (jb (i:=6) jL.nd rfl (aO rfl)) (jh (jb (i:=7) jL.nd rfl (aO rfl)) (jh (jb (i:=8) jL.nd rfl (aO rfl)) (jh (jb (i:=9) jL.nd rfl (aO rfl)) qa))))) (zO (jI (ju x4 (pv 6) (pv 3) (jx _)) (j9 (jq 4 jL.nd (pv 9))) js)
   (j9 (jI (ju JE (pv 6) (pv 3) (jx _)) (j4 (jq 4 jL.nd (jd (zQ rfl) rfl nb.b_min om (j0 (pv 4) (j0 (pv 9) j2))))
   (j4 (jV (xZ K b7 b9 ba jY (pv 5) (j0 (jB (j0 (pv 6) (j0 (pv 7) (j0 (jk jU (pv 9) (pv 4)) (j0 (pv 4) j2))))) j2)))
   (j9 (jI (ju x4 (pv 9) j5 (jx _)) (j9 (ji (pv 5))) js)))) js))))
   (j9 (ji (pv 5)))))),?_⟩
  walk_at "r"
  refine ⟨aG _,λro H1 aL ab s1=>?_⟩
  walk_at "r"
  refine ⟨sd,c,l,n,y,wy,da,R,O,wr,rfl,B.S.same s1,L.l0,L.way,B.n0,B.n1,(),B.y0,L.cd,(),L.nd,(λq hq=>by have:=L.b q hq;right),B.p,B.s,B.w.keep (jp.same s1),B.t1,B.t2,λo H2 Y ho ac r2 f2=>?_⟩
  have hy:∀{i:Nat} {q:Q4},(jE O (ja c.rs wy) wr c.ts (y+jc R y-n))[i]? = some q->q.1=jn 0 0 O (y+jc R y-n)+(i:Int):=λh=>ku h
  generalize jE O (ja c.rs wy) wr c.ts (y+jc R y-n)=j at *
  generalize jn 0 0 O (y+jc R y-n)=fst at *
  obtain ⟨kk,a0⟩:∃kk,(y-fst).toNat=kk:=⟨_,rfl⟩
  rw [a0] at k an
  have a7:Y.length=j.length:=aM r2
  have Z:=f2.at ab ↥1
  have am:o≠ro:=(j1 ab ho).symm
  have fH:∀{H3:Hp},Ext ro H2 H3->FrM c.D H H3:=λ{H3} e a u h=>by
   have na:a≠ro:=j1 h aL
   rcases f2 a u (s1 a u h) with q | ⟨m,ob,kvs,e1,q⟩
   ·exact .inl (e _ _ q na)
   ·exact .inr ⟨m,ob,kvs,e1,e _ _ q na⟩
  walk_at "r"
  refine ⟨⟨_,SqL.of ac⟩,?_⟩
  refine zx (K:=K) (a:=o) (xs:=Y) (λi σ H3=>∃(x6 x7 x8 x9:Option V) (b:Int) (X:List Q4) (x:List V),σ=[some (.ref sd),some (.int l),some (.int n),some (.int y),some (.int b),some (.ref ro),x6,x7,x8,x9]/\H3 ro=some (.lst x)/\qw H3 x X/\X.length<=i/\((i<=kk/\X=[])\/(kk<i/\xB (j.drop kk)=X++zP b (j.drop i)))/\Ext ro H2 H3) ?_ ?_ ?_ ?_
  ·exact ⟨_,_,_,_,_,[],[],rfl,Z,.nil,ar _,.inl ⟨aG _,rfl⟩,λc o hc _=>hc⟩
  ·rintro i σ H3 hi ⟨x6,x7,x8,x9,b,X,x,rfl,I,N,l3,C,J⟩
   exact SqL.of (J _ _ ac am)
  ·rintro i v σ H3 hv ⟨x6,x7,x8,x9,b,X,x,rfl,I,N,l3,C,J⟩
   obtain ⟨q,hq,bq,rfl,M⟩:=Paired.get r2 hv
   have hi:i<j.length:=(↥109).1
   have M:H2 bq=some ↥74:=M
   have ap:bq≠ro:=jo M Z ↥4
   have a6:=hy hq
   have ed:j.drop i=q::j.drop (i+1):=by
    have:=(↥109).2
    rw [<- this]
    exact bO hi
   walk_at "r"
   refine ⟨bq,_,rfl,SqT.of (J _ _ M ap),rfl,?_⟩
   refine ⟨_,_,rfl,_,_,rfl,_,_,rfl,_,_,rfl,rfl,?_⟩
   refine ⟨λσ H4=>∃d:Int,σ=[some (.ref sd),some (.int l),some (.int n),some (.int y),some (.int d),some (.ref ro),some (.int q.1),some (.int q.2.1),some (.int q.2.2.1),some (.int q.2.2.2)]/\H4=H3/\((i<kk/\X=[])\/(kk<=i/\xB (j.drop kk)=X++zP d (j.drop i))),?_,?_⟩
   ·walk_at "r"
    refine qk (λz=>?_) (λz=>?_)
    ·have z:q.1=y:=V.int.inj z
     have a1:i=kk:=()
     walk_at "r"
     refine .inr ⟨(),?_⟩
     rcases C with ⟨_,rfl⟩ | ⟨h,_⟩
     ·rw [<- a1]
      show xB (j.drop i)=zP q.2.2.2 (j.drop i)
      unfold xB
      rw [ed]
      rfl
     ·right
    ·have z:¬q.1=y:=λe=>z (congrArg V.int e)
     walk_at "r"
     rcases C with ⟨h,rfl⟩ | ⟨h,e⟩
     ·exact .inl ⟨(),rfl⟩
     ·exact .inr ⟨(),e⟩
   rintro σ H4 ⟨d,rfl,rfl,C⟩
   walk_at "r"
   refine qk (λz=>?_) (λz=>?_)
   ·rcases C with ⟨h,_⟩ | ⟨h,t⟩
    ·exact absurd z ()
    rw [ed] at t
    have t:xB (j.drop kk)=X++(↥154::(if q.2.2.2=0 then [] else zP (min d q.2.2.2) (j.drop (i+1)))):=t
    have a2:x.length=X.length:=aM N
    walk_at "r"
    refine ⟨_,_,rfl,?_⟩
    rw [show (if q.2.2.2<d then q.2.2.2 else d)=min d q.2.2.2 by split <;> right]
    walk_at "r"
    refine ⟨.inl ⟨rfl,_,SqL.of I⟩,?_⟩
    walk_at "r"
    refine ⟨by show 4<=sizeLine;decide,λT H7 as ae U=>?_⟩
    refine ⟨_,_,_,rfl,rfl,U _ _ I,jj (),?_⟩
    have al:T≠ro:=(j1 I as).symm
    have e8:Ext ro H2 (upd H7 ro (.lst (x++[.ref T]))):=λc o hc n=>by rw [j7 n];exact U _ _ (J c o hc n)
    have r8:qw (upd H7 ro (.lst (x++[.ref T]))) (x++[.ref T]) (X++[↥154]):=bV (N.keep λa xs q=>by rw [j7 (jo (U _ _ q) (U _ _ I) ↥4)];exact U _ _ q) ⟨T,rfl,by rw [j7 al];exact ae⟩
    walk_at "r"
    refine qk (λz=>?_) (λz=>?_)
    ·rw [if_pos (V.int.inj z)] at t
     walk_at "r"
     exact k ro _ _ j6 (by rw [t];exact r8) (fH e8)
    ·rw [if_neg λe=>z (congrArg V.int e)] at t
     walk_at "r"
     exact ⟨_,_,_,_,min d q.2.2.2,X++[↥154],_,rfl,j6,r8,by rw [ao];exact cu l3,.inr ⟨(),by rw [t,cA];rfl⟩,e8⟩
   ·rcases C with ⟨h,rfl⟩ | ⟨h,_⟩
    ·walk_at "r"
     exact ⟨_,_,_,_,d,[],x,rfl,I,N,aG _,.inl ⟨h,rfl⟩,J⟩
    ·exact absurd (show y<=q.1 by right) z
  ·rintro σ H3 ⟨x6,x7,x8,x9,b,X,x,rfl,I,N,l3,C,J⟩
   rcases C with ⟨h,_⟩ | ⟨h,t⟩
   ·right
   rw [show j.drop Y.length=[] from cw ()] at t
   have t:xB (j.drop kk)=X:=by rw [t];exact aF _
   walk_at "r"
   exact k ro x H3 I (by rw [t];exact N) (fH J)
inductive spTryT (C:Addr) (vs:List V) (H:Hp) (Q:VK) (z_3:XK):Prop
 | mk (p:Addr) (g:IceG) (kd l n y:Int) (sk:List (Int×Addr)) (wr:List (Int×T3)) (_:vs=[.ref p,.int kd,.int l,.int n,.int y]) (_:IceAt C H p g) (_:g.lds.length=g.slopes.length) (_:g.kvs=sk.map kvA) (_:xL H sk wr) (_:1<=g.rows.length) (_:g.rows.length<=1000) (_:(l<0\/ ↥9<=l->∀t H',H' t=some (.tup (noT "NoLane"))->jm H H'->Q (.ref t) H')) (_:(0<=l->l< ↥9->n<0\/ ↥49<=n->∀t H',H' t=some (.tup (noT "NoPlace"))->jm H H'->Q (.ref t) H')) (_:(0<=l->l< ↥9->0<=n->n< ↥49->∃ns ms:List (Int×Int),Xj g l ns/\(∀q∈ns,0<=q.1)/\ (↥2).length<=100/\ms.Perm ns/\ (↥45).Pairwise (· <= ·)/\(y<0\/10 ^ 40<y->∀t H',H' t=some (.tup (noT "BadYear"))->jm H H'->Q (.ref t) H') /\
  (0<=y->y<=10 ^ 40->∀t H',jm H H'->Q (.ref t) H')))
theorem qq:FnScope ["_law_ice","_law_kind","_law_lane","_law_place","_law_year_here","_law_found","_law_e"] ["_law_ice","_law_kind","_law_lane","_law_place","_law_year_here"] (j8 zF):=by walk_at "s"
theorem UX (ab:mg "FirnError" = some (.ref CF)) (U:fD K (.ref CN) (.ref CF)=some true) (z:fD K (.ref CP) (.ref CF)=some true) (G:fD K (.ref CY) (.ref CF)=some true)
  (rN:RefK K CY CN CP CB CN false true false false) (rP:RefK K CY CN CP CB CP false false true false) (rY:RefK K CY CN CP CB CY true false false false)
  (an:CalX P w K mg base 7 "rest" ["ice","lane","place","year"] (spRest C CN CP CY)) (ap:CalX P w K mg base 6 "way" ["ice","lane","place","year"] (spWay C CN CP CY)) (ac:CalX P w K mg base 7 "hidden" ["ice","lane","place","year"] (spHidden C CN CP CY)) (Y:CalH P w K mg base 1 "_law_refused" ["_law_e"] (spRefused K CY CN CP CB))
  (F:Fun K "_law_try_stone" "_law_try_stone" zF f fd):FnOk P w K mg base CX0 8 f fd ["_law_ice","_law_kind","_law_lane","_law_place","_law_year_here"] (spTryT C):=by
 refine F.ok qq ↥27 (λa3 A outer s H vs Q E hr h=>?_)
 ·obtain ⟨p,g,kd,l,n,y,sk,O,rfl,_⟩:=h
  rfl
 ·obtain ⟨p,g,kd,l,n,y,sk,O,rfl,I,am,ek,hw,al,ae,kN,kP,k⟩:=h
  refine ⟨_,(j4 (jq 5 qq.nd vW)
   (j4 (U8 (i:=6) K rfl rfl ab rfl qq.nd rfl rfl (λpn J=>(j9 (jI (ju x4 (pv 1) j5 (jx _)) (j9 (jq 5 qq.nd (xc an (hr.mono ⋯) Qx rfl ↥90))) (j9 (jI (ju x4 (pv 1) j5 (jx _)) (j9 (jq 5 qq.nd (xc ap (hr.mono ⋯) Qx rfl ↥90))) (j9 (jq 5 qq.nd (xc ac (hr.mono ⋯) Qx rfl ↥90)))))))) (λa oe pn=>(j9 (jq 5 qq.nd (Wf Y (hr.mono (j:=1) ⋯).dp (hr.mono (j:=1) ⋯).un rfl (aC _ (List.mem_singleton.mpr rfl)) rfl (j0 (pv 6) j2))))))
   (j9 (ji (pv 5))))),?_⟩
  walk_at "r"
  refine qk (λz0=>?_) (λz0=>?_)
  ·walk_at "r"
   refine ⟨p,g,l,n,y,sk,O,rfl,I,am,ek,hw,al,ae,(λd=>⟨U,λa oe e L=>?_⟩),(λv u d=>⟨z,λa oe e L=>?_⟩),λv u S R=>?_⟩
   ·walk_at "r"
    refine ⟨_,e,CN,_,_,_,_,rfl,rfl,rN,λt H2 c b=>?_⟩
    show Jb (tVar 5) _ _ _
    walk_at "r"
    exact kN d t H2 c b
   ·walk_at "r"
    refine ⟨_,e,CP,_,_,_,_,rfl,rfl,rP,λt H2 c b=>?_⟩
    show Jb (tVar 5) _ _ _
    walk_at "r"
    exact kP v u d t H2 c b
   ·obtain ⟨m,D,M,B,x,V,T,Z,k⟩:=k v u S R
    refine ⟨m,D,M,B,x,V,T,(λH' s' d=>⟨G,λa oe e L=>?_⟩),λN X W eW=>⟨?_,λo H' ho as s'=>?_⟩⟩
    ·walk_at "r"
     refine ⟨_,e,CY,_,_,_,_,rfl,rfl,rY,λt H2 c b=>?_⟩
     show Jb (tVar 5) _ _ _
     walk_at "r"
     exact Z d t H2 c (s'.trans b)
    ·rw [eW]
     have aL:∀q∈m,0<=q.1/\0<=q.2:=λq hq=>⟨B q hq,(M.2.2.2.2.2 q hq).1⟩
     have nd:(m.map (·.1)).Nodup:=M.2.2.2.1
     have e0:y+jc m y-(y+jc m y-n)=n:=()
     have a2:=(xq V T nd aL (y+jc m y-n) (↥2).length y N).mp (by rw [e0];exact ⟨S,R⟩)
     have a1:=xJ D ↥2 O g.rows (y+jc m y-n)
     unfold xB
     cases ed:(jE D ↥2 O g.rows (y+jc m y-n)).drop (y-jn 0 0 D (y+jc m y-n)).toNat with
     | nil =>
      have:=congrArg fm ed
      rw [cq,a1,lg] at this
      right
     | cons q r=>exact wZ
    ·walk_at "r"
     exact k N X _ H' s'
  ·walk_at "r"
   refine qk (λz1=>?_) (λz1=>?_)
   ·walk_at "r"
    refine ⟨p,g,l,n,y,sk,O,rfl,I,am,ek,hw,al,ae,(λd=>⟨U,λa oe e L=>?_⟩),(λv u d=>⟨z,λa oe e L=>?_⟩),λv u S R=>?_⟩
    ·walk_at "r"
     refine ⟨_,e,CN,_,_,_,_,rfl,rfl,rN,λt H2 c b=>?_⟩
     show Jb (tVar 5) _ _ _
     walk_at "r"
     exact kN d t H2 c b
    ·walk_at "r"
     refine ⟨_,e,CP,_,_,_,_,rfl,rfl,rP,λt H2 c b=>?_⟩
     show Jb (tVar 5) _ _ _
     walk_at "r"
     exact kP v u d t H2 c b
    ·obtain ⟨m,D,M,B,x,V,T,Z,k⟩:=k v u S R
     refine ⟨m,D,M,B,x,V,T,(λH' s' d=>⟨G,λa oe e L=>?_⟩),λN X o a0 H' ho as r' s'=>?_⟩
     ·walk_at "r"
      refine ⟨_,e,CY,_,_,_,_,rfl,rfl,rY,λt H2 c b=>?_⟩
      show Jb (tVar 5) _ _ _
      walk_at "r"
      exact Z d t H2 c (s'.trans b)
     ·walk_at "r"
      exact k N X _ H' s'
   ·walk_at "r"
    refine ⟨p,g,l,n,y,sk,O,rfl,I,am,ek,hw,al,ae,(λH' s' d=>⟨U,λa oe e L=>?_⟩),(λH' s' v u d=>⟨z,λa oe e L=>?_⟩),λv u S R=>?_⟩
    ·walk_at "r"
     refine ⟨_,e,CN,_,_,_,_,rfl,rfl,rN,λt H2 c b=>?_⟩
     show Jb (tVar 5) _ _ _
     walk_at "r"
     exact kN d t H2 c (s'.trans b)
    ·walk_at "r"
     refine ⟨_,e,CP,_,_,_,_,rfl,rfl,rP,λt H2 c b=>?_⟩
     show Jb (tVar 5) _ _ _
     walk_at "r"
     exact kP v u d t H2 c (s'.trans b)
    ·obtain ⟨m,D,M,B,x,V,T,Z,k⟩:=k v u S R
     refine ⟨m,D,M,B,x,V,T,(λH' s' d=>⟨G,λa oe e L=>?_⟩),λN X W eW o a0 H' ho as r' s'=>?_⟩
     ·walk_at "r"
      refine ⟨_,e,CY,_,_,_,_,rfl,rfl,rY,λt H2 c b=>?_⟩
      show Jb (tVar 5) _ _ _
      walk_at "r"
      exact Z d t H2 c (s'.trans b)
     ·walk_at "r"
      exact k N X _ H' s'
theorem uW {w:Str}(h:PyData.strOk w=true):mH ↥28=true:=by
 simp [mH,PyData.canLay0,PyData.canLayAll0,PyData.depth,PyData.depthAll]
 exact ⟨∅,h,∅⟩
theorem W8 {l n y:Int}{w:Str}(h:yI c l n y=some w):PyData.strOk w=true:=by
 unfold yI at h
 split at h
 ·split at h
  ·split at h
   ·cases h
   ·cases h;decide +kernel
  ·cases h;decide +kernel
 ·cases h;decide +kernel
theorem vH {H:Hp}{t:Addr}{w:Str}(h:H t=some (.tup (noT w))):Dat H (.ref t) (.tuple [.str "no",.str w,.str "ValueError"]):=.tup h (.cons (.str _) (.cons (.str _) (.cons (.str _) .nil)))
theorem Yy {c:ScN}{l n y:Int}(I:0<=l) (G:l<(c.ws.length:Int)) (U:c.ws[l.toNat]? = some wy) (z:0<=n) (j:n< ↥46):yI c l n y=if 0<=y/\y<=10 ^ 40 then none else some ("BadYear" : Str):=by
 have a:c.ws.getD l.toNat []=wy:=by rw [aq,U];rfl
 unfold yI
 rw [a,if_pos ⟨I,G⟩,if_pos ⟨z,j⟩]
theorem Z1 {c:ScN}{l n y:Int}(z:0<=l) (j:l<(c.ws.length:Int)) (G:c.ws[l.toNat]? = some wy) (I:n<0\/ ↥46<=n):yI c l n y=some ("NoPlace" : Str):=by
 have a:c.ws.getD l.toNat []=wy:=by rw [aq,G];rfl
 unfold yI
 rw [a,if_pos ⟨z,j⟩,if_neg ()]
theorem YE {c:ScN}{l n y:Int}(h:l<0\/(c.ws.length:Int)<=l):yI c l n y=some ("NoLane" : Str):=by
 unfold yI
 rw [if_neg ()]
noncomputable def Ez:ResD->PyData
 | .left y n=>.tuple [.str "left",.int y,.int n]
 | .off y=>.tuple [.str "off",.int y]
theorem wU {H:Hp}{t:Addr}(h:H t=some (.tup (Yg r))):Dat H (.ref t) (Ez r):=by
 cases r with
 | left y n=>exact .tup h (.cons (.str _) (.cons (.int _) (.cons (.int _) .nil)))
 | off y=>exact .tup h (.cons (.str _) (.cons (.int _) .nil))
theorem JK (n:Nat) (r:ResD):zH (n+2) (Ez r)=true:=by cases r <;> rfl
theorem G5 (qs:List Q4) (h:qs.length<=1000):zH 3 (.list (qs.map WT))=true:=by
 refine YI (by rw [ah];exact h) ?_
 rw [bP]
 intro x a
 obtain ⟨q,_,rfl⟩:=List.mem_map.mp a
 rfl
theorem xb:FnScope ["_law_script","_law_box_here","_law_scene_here","_law_ice","_law_turn","_law_lane","_law_place","_law_year_here","_law_rows","_law_end","_law_due","_law_found"] ["_law_script"] (j8 vT):=by walk_at "s"
theorem WE (nb:Nb2 mg)
  (bl:Cal P w K mg base 1 "_law_box" ["_law_script"] (spBoxL K)) (a5:Cal P w K mg base 2 "_law_take" ["_law_box_here","_law_size"] spTakeL) (a1:Cal P w K mg base 5 "_law_scene" ["_law_box_here"] spScene) (a6:Cal P w K mg base 10 "_law_made" ["_law_scene_here"] (spMade C Pt))
  (al:Cal P w K mg base 3 "_law_spot" ["_law_box_here","_law_scene_here"] spSpot) (bi:Cal P w K mg base 3 "_law_far" ["_law_box_here"] spFar) (ae:Cal P w K mg base 5 "_law_stone_way" ["_law_scene_here","_law_lane","_law_place","_law_year_here"] spStoneWay)
  (G:Cal P w K mg base 4 "_law_alike" ["_law_found","_law_due"] (spAl 3)) (dt:CalX P w K mg base 6 "way" ["ice","lane","place","year"] (spWay C CN CP CY)) (bd:CalX P w K mg base 7 "rest" ["ice","lane","place","year"] (spRest C CN CP CY))
  (Y:Cal P w K mg base 3 "_law_rest_by_life" ["_law_scene_here","_law_lane","_law_place","_law_year_here"] spRestL) (ab:Cal P w K mg base 3 "_law_way_by_life" ["_law_state","_law_lane","_law_place","_law_year_here"] spWayL)
  (ap:Cal P w K mg base 1 "_law_due_spot" ["_law_scene_here","_law_lane","_law_place","_law_year_here"] spDue) (am:Cal P w K mg base 4 "_law_bent_spot" ["_law_box_here","_law_scene_here","_law_year_here"] spBent) (ac:Cal P w K mg base 8 "_law_try_stone" ["_law_ice","_law_kind","_law_lane","_law_place","_law_year_here"] (spTryT C))
  (F:Fun K "law" "law" vT f fd):FnOk P w K mg base CX0 11 f fd ["_law_script"] (spLawT K Pt):=by
 refine F.ok xb ↥27 (λe7 A outer s H vs Q E v h=>?_)
 ·obtain ⟨a,ns,rfl,_⟩:=h
  rfl
 ·obtain ⟨a,ns,rfl,hS,e6,ez,k⟩:=h
  have T0:qV H Pt:=.inl ez
  refine ⟨_,(j4 (jq 1 xb.nd (je bl (v.mono ⋯) rfl ↥53))
   (j4 (jq 2 xb.nd (je a1 (v.mono ⋯) rfl ↥51))
   (j4 (zS (i:=3) xb.nd rfl (dQ rfl) (je a6 (v.mono ⋯) rfl ↥59))
   (zO (qy aV rfl (qi rfl nb.b_range (j0 j5 j2)) (jb (i:=4) xb.nd rfl (aO rfl)) (j4 (xw (je al (v.mono ⋯) rfl (j0 (pv 1) ↥59)) (qg (n:=2) K rfl (jh (jb (i:=5) xb.nd rfl (dQ rfl)) (jh (jb (i:=6) xb.nd rfl (dQ rfl)) qa))))
   (j4 (zS (i:=7) xb.nd rfl (dQ rfl) (je a5 (v.mono ⋯) rfl (j0 (pv 1) (j0 j5 j2))))
   (j4 (xw (je ae (v.mono ⋯) rfl (j0 (pv 2) ↥54)) (qg (n:=2) K rfl (jh (jb (i:=8) xb.nd rfl (aO rfl)) (jh (jb (i:=9) xb.nd rfl (aO rfl)) qa))))
   (j9 (jI (qX (zD (je G (v.mono ⋯) rfl (j0 (je bd.cal (v.mono ⋯) rfl (j0 (pv 3) ↥54)) (j0 (pv 9) j2))))) (j9 (ji wv)) js))))))
   (j4 (xw (je al (v.mono ⋯) rfl (j0 (pv 1) ↥59)) (qg (n:=2) K rfl (jh (jb (i:=5) xb.nd rfl (dQ rfl)) (jh (jb (i:=6) xb.nd rfl (dQ rfl)) qa))))
   (j4 (zS (i:=7) xb.nd rfl (dQ rfl) (je bi (v.mono ⋯) rfl ↥51))
   (j4 (jI (qX (zD (je G (v.mono ⋯) rfl (j0 (je bd.cal (v.mono ⋯) rfl (j0 (pv 3) ↥54)) (j0 (je Y (v.mono ⋯) rfl (j0 (pv 2) ↥54)) j2))))) (j9 (ji wv)) js)
   (j4 (jI (qX (zD (je G (v.mono ⋯) rfl (j0 (je dt.cal (v.mono ⋯) rfl (j0 (pv 3) ↥54)) (j0 (je ab (v.mono ⋯) rfl (j0 (pv 2) ↥54)) j2))))) (j9 (ji wv)) js)
   (j4 (xw (je am (v.mono ⋯) rfl (j0 (pv 1) (j0 (pv 2) (j0 j5 j2)))) (qg (n:=3) K rfl (jh (jb (i:=5) xb.nd rfl (dQ rfl)) (jh (jb (i:=6) xb.nd rfl (dQ rfl)) (jh (jb (i:=7) xb.nd rfl (dQ rfl)) qa)))))
   (zO (jq 10 xb.nd (je ap (v.mono ⋯) rfl (j0 (pv 2) ↥54)))
   (j4 (JT (j:=11) (osc:=(j8 vT)) (ON:=["_law_script","_law_box_here","_law_scene_here","_law_ice","_law_turn","_law_lane","_law_place","_law_year_here","_law_rows","_law_end","_law_due","_law_found"]) (N:=["_law_kind","_law_ice","_law_lane","_law_place","_law_year_here"]) (own:=1) (caps:=[3,5,6,7]) ⟨rfl,∅,∅,∅,rfl,∅⟩ xb.nd rfl (aO rfl) rfl rfl rfl (qi rfl nb.b_range (j0 j5 j2)) (λ_ _ _ _ _=>(jb (i:=0) (show bg (["_law_kind","_law_ice","_law_lane","_law_place","_law_year_here"]:List Str) by decide +kernel) rfl (aO rfl))) ↥33 (λ_ _ _ _ _=>(je ac (v.mono ⋯) rfl (j0 (pv 1) ↥90))))
   (j9 (ji (Em (zm Qm (pv 10) vW (jx _)) (yX (zm (US K v.units) (pv 11) (jD (j0 (pv 10) (j0 (pv 10) (j0 (pv 10) j2)))) (jx _))))))))))))))))),?_⟩
  walk_at "r"
  refine ⟨a,ns,rfl,hS,λL b H1 R B1 s1=>?_⟩
  have T1:=T0.same s1
  walk_at "r"
  refine ⟨L,b,rfl,B1,λT H2 c B2 X2 S2 O=>?_⟩
  have T2:=UI B1 X2 T1
  walk_at "r"
  refine ⟨T,b,c,rfl,S2,O,T2,λp H3 g I3 F3 R3 T3 er et es ek el ld ny nd=>?_⟩
  have W3:Lw C L b T p c g H2 H3:=Lw.start S2 O B2 T2 I3 F3 R3
  have M:Lk c g:=⟨er,et,es,ek,el,ld,ny,nd⟩
  clear I3 R3 T3 er et es ek el ld ny nd
  have cr:1<=c.ws.length:=by
   rw [O.ro.length]
   exact Jx (qx O.gr.ok) O.l1
  have as:c.ws.length<=6:=by rw [O.ro.length];exact O.gr.heads
  have bs:∀w∈c.ws,1<=(ja c.rs w).length/\(ja c.rs w).length<=30:=λw X=>⟨kj O.gr O.ro X,(wI (O.gr.good O.l1 O.l8)).2.2.2 c.ws O.ro w X⟩
  have dT:g.slopes.length=c.ws.length:=by rw [M.sl,ah]
  have c1:g.lds.length=g.slopes.length:=by rw [M.ll,O.ldl,dT]
  have t1:=O.t1
  have t2:=O.t2
  obtain ⟨D,b0⟩:=xL.of W3.S.sk
  have dk:=b0.good W3.S.sk
  have dp:=λy=>VB dk O.tg t1 y
  have ea:∀(H3:Hp) (l n y:Int) (wy:List Int) (da:Addr) (e m:List (Int×Int)) (Q':VK),Lw C L b T p c g H2 H3->xL H3 c.sk D->LaneF c g l wy da e->m.Perm e->(m.map (·.1)).Pairwise (· <= ·)->0<=n->n< ↥46->0<=y->y<=10 ^ 40->(∀o cb J,H3 o=none->J o=some (.lst cb)->qw J cb (xB ((jE m (ja c.rs wy) D c.ts (y+jc e y-n)).drop (y-jn 0 0 m (y+jc e y-n)).toNat))->jm H3 J->Q' (.ref o) J)->spWay C CN CP CY [.ref p,.int l,.int n,.int y] H3 Q' E0:=λH3 l n y wy da e m Q' W' b1 d hp hs n0 n1 Z y1 kq=>by
   have d4:=d.g30
   have l0:=d.l0
   have l1:=d.l1
   refine ⟨p,g,l,n,y,c.sk,D,rfl,W'.I,c1,M.kv,b1,by rw [M.rows];exact t1,by rw [M.rows];right,(λR=>absurd R ()),(λ_ _ R=>absurd R (by rw [d.sl];right)),λ_ _ _ _=>⟨e,m,d.at_,(λq hq=>(d.pos q hq).1),by rw [d.sl];right,hp,hs,(λH' _ R=>absurd R ()),λ_ _=>?_⟩⟩
   rw [d.sl,M.rows]
   exact kq
  have bv:∀(H3:Hp) (l n y:Int) (wy:List Int) (da:Addr) (e m:List (Int×Int)) (Q':VK),Lw C L b T p c g H2 H3->xL H3 c.sk D->LaneF c g l wy da e->m.Perm e->(m.map (·.1)).Pairwise (· <= ·)->0<=n->n< ↥46->0<=y->y<=10 ^ 40->(∀o J,J o=some (.tup (Yg (uE (xB ((jE m (ja c.rs wy) D c.ts (y+jc e y-n)).drop (y-jn 0 0 m (y+jc e y-n)).toNat)))))->jm H3 J->Q' (.ref o) J)->spRest C CN CP CY [.ref p,.int l,.int n,.int y] H3 Q' E0:=λH3 l n y wy da e m Q' W' b1 d hp hs n0 n1 Z y1 kq=>by
   have d4:=d.g30
   have l0:=d.l0
   have l1:=d.l1
   have on:=(ByL.mk (y:=y) W'.S d hp hs b1 t1 () n0 n1 Z).on
   refine ⟨p,g,l,n,y,c.sk,D,rfl,W'.I,c1,M.kv,b1,by rw [M.rows];exact t1,by rw [M.rows];right,(λR=>absurd R ()),(λ_ _ R=>absurd R (by rw [d.sl];right)),λ_ _ _ _=>⟨e,m,d.at_,(λq hq=>(d.pos q hq).1),by rw [d.sl];right,hp,hs,(λH' _ R=>absurd R ()),λ_ _ W eW=>⟨?_,λo J _ dV s4=>?_⟩⟩⟩
   ·rw [eW,d.sl,M.rows]
    unfold xB
    cases ed:(jE m (ja c.rs wy) D c.ts (y+jc e y-n)).drop (y-jn 0 0 m (y+jc e y-n)).toNat with
    | nil =>
     have:=congrArg fm ed
     rw [cq,lg] at this
     right
    | cons q r=>exact wZ
   ·rw [eW,d.sl,M.rows] at dV
    exact kq o J dV s4
  walk_at "r"
  refine ⟨λσ J=>∃v4 v5 v6 v7 v8 v9:Option V,σ=[some (.ref a),some (.ref b),some (.ref T),some (.ref p),v4,v5,v6,v7,v8,v9,none,none]/\Lw C L b T p c g H2 J/\xL J c.sk D,?_,?_⟩
  ·walk_at "r"
   refine ⟨⋯,⋯,?_⟩
   refine qK (λi σ J=>∃v4 v5 v6 v7 v8 v9:Option V,σ=[some (.ref a),some (.ref b),some (.ref T),some (.ref p),v4,v5,v6,v7,v8,v9,none,none]/\Lw C L b T p c g H2 J/\xL J c.sk D) ?_ ?_ ?_
   ·exact ⟨_,_,_,_,_,_,rfl,W3,b0⟩
   ·clear W3 b0
    rintro i σ J hi ⟨v4,v5,v6,v7,v8,v9,rfl,W4,aL⟩
    walk_at "r"
    refine ⟨L,b,T,c,rfl,W4.B,W4.S,O,cr,as,bs,λln n wy t H5 ch ce cl n0 n1 B5 X5 ht cs=>?_⟩
    have W5:=W4.take B5 X5
    have a9:=aL.keep (zc W4.B X5)
    clear W4 aL
    obtain ⟨u,da,e,d⟩:=M.lane O ch ce
    obtain rfl:u=wy:=aT (d.way.symm.trans cl)
    obtain ⟨m,hp,hs⟩:=yp e
    walk_at "r"
    refine ⟨t,_,rfl,SqT.of cs,rfl,?_⟩
    refine ⟨_,_,rfl,_,_,rfl,rfl,?_⟩
    walk_at "r"
    refine ⟨L,b,_,rfl,W5.B,⟨⋯,⋯⟩,λy H6 Z y1 B6 X6=>?_⟩
    have W6:=W5.take B6 X6
    have as:=a9.keep (zc W5.B X6)
    have a7:y<=10 ^ 40:=rp (show y<=60 by right) ⋯
    clear W5 a9
    walk_at "r"
    refine ⟨T,c,g,ln,n,y,u,da,e,m,D,rfl,W6.S,d,hp,hs,as,t1,(),dp,n0,n1,Z,(),λt' ro en cb H7 dK e4 ep e1 r7 ei f7=>?_⟩
    have W7:=W6.fr f7
    have a0:=as.keep (FrM.keepT f7)
    clear W6 as
    walk_at "r"
    refine ⟨t',_,rfl,SqT.of ep,rfl,?_⟩
    refine ⟨_,_,rfl,_,_,rfl,rfl,?_⟩
    walk_at "r"
    simp only [uP,aF]
    refine bv H7 ln n y u da e m _ W7 a0 d hp hs n0 n1 Z a7 λo1 H8 cv s8=>?_
    walk_at "r"
    refine ⟨_,_,_,rfl,wU cv,wU (s8 _ _ ei),JK 1 _,λH9 s9=>?_⟩
    walk_at "r"
    exact ⟨_,_,_,_,_,_,rfl,W7.same (s8.trans s9),a0.keep (jp.same (s8.trans s9))⟩
   ·rintro σ J ⟨v4,v5,v6,v7,v8,v9,rfl,W4,aL⟩
    exact ⟨_,_,_,_,_,_,rfl,W4,aL⟩
  clear W3 b0
  rintro σ J ⟨v4,v5,v6,v7,v8,v9,rfl,W4,aL⟩
  walk_at "r"
  refine ⟨L,b,T,c,rfl,W4.B,W4.S,O,cr,as,bs,λln n wy t H5 ch ce cl n0 n1 B5 X5 ht cs=>?_⟩
  have W5:=W4.take B5 X5
  have a9:=aL.keep (zc W4.B X5)
  clear W4 aL
  obtain ⟨u,da,e,d⟩:=M.lane O ch ce
  obtain rfl:u=wy:=aT (d.way.symm.trans cl)
  obtain ⟨m,hp,hs⟩:=yp e
  walk_at "r"
  refine ⟨t,_,rfl,SqT.of cs,rfl,?_⟩
  refine ⟨_,_,rfl,_,_,rfl,rfl,?_⟩
  walk_at "r"
  refine ⟨L,b,rfl,W5.B,λy H6 Z y1 B6 X6=>?_⟩
  have W6:=W5.take B6 X6
  have bm:=a9.keep (zc W5.B X6)
  have a7:y<=10 ^ 40:=()
  clear W5 a9
  walk_at "r"
  simp only [uP,aF]
  refine bv H6 ln n y u da e m _ W6 bm d hp hs n0 n1 Z a7 λo1 H7 ev s7=>?_
  have W7:=W6.same s7
  have a0:=bm.keep (jp.same s7)
  walk_at "r"
  simp only [uP,aF]
  refine ⟨T,c,g,ln,n,y,u,da,e,m,D,rfl,⟨W7.S,d,hp,hs,a0,t1,(),n0,n1,Z⟩,λo2 H8 cv f8=>?_⟩
  walk_at "r"
  refine ⟨_,_,_,rfl,wU (f8.at ev (by cases uE (xB ↥24) <;> (intro _ z;cases z))),wU cv,JK 1 _,λH9 s9=>?_⟩
  have W9:=(W7.fr f8).same s9
  have cm:=(a0.keep (FrM.keepT f8)).keep (jp.same s9)
  clear W6 bm W7 a0
  walk_at "r"
  simp only [uP,aF]
  refine ea H9 ln n y u da e m _ W9 cm d hp hs n0 n1 Z a7 λo3 e0 fl ew cL dF dy=>?_
  have b6:=W9.same dy
  have a4:=cm.keep (jp.same dy)
  have c4:(xB ↥24).length<=1000:=by
   have on:=(ByL.mk (y:=y) b6.S d hp hs a4 t1 () n0 n1 Z).on
   have:=gH ↥24 ((↥24).headD (0,0,0,0)).2.2.2
   rw [cq] at this
   unfold xB
   right
  walk_at "r"
  simp only [uP,aF]
  refine ⟨T,c,g,ln,n,y,u,da,e,m,D,rfl,⟨b6.S,d,hp,hs,a4,t1,(),n0,n1,Z⟩,λo4 eX fa cy dD b3=>?_⟩
  walk_at "r"
  refine ⟨_,_,.list ((xB ↥24).map WT),rfl,.lst (b3.at cL ↥1) (qw.dat (qw.keep dF (FrM.keepT b3))),.lst cy (qw.dat dD),G5 _ c4,λe9 dx=>?_⟩
  have bk:=(b6.fr b3).same dx
  have cn:=(a4.keep (FrM.keepT b3)).keep (jp.same dx)
  clear W9 cm b6 a4 d hp hs n0 n1 Z a7 c4 dF dD ew cL cy
  walk_at "r"
  refine ⟨L,b,T,c,3,rfl,bk.B,bk.S,O,cr,as,bs,λl2 n2 y2 tb e8 eU d7 e2 eg=>?_⟩
  have b5:=bk.take eU d7
  have bn:=cn.keep (zc bk.B d7)
  clear bk cn
  walk_at "r"
  refine ⟨tb,_,rfl,SqT.of eg,rfl,?_⟩
  refine ⟨_,_,rfl,_,_,rfl,_,_,rfl,rfl,?_⟩
  refine ⟨λσ an=>∃dv,σ=[some (.ref a),some (.ref b),some (.ref T),some (.ref p),v4,some (.int l2),some (.int n2),some (.int y2),v8,v9,some dv,none]/\Lw C L b T p c g H2 an/\xL an c.sk D/\((yI c l2 n2 y2=none/\dv = .non)\/∃w t,yI c l2 n2 y2=some w/\dv = .ref t/\an t=some (.tup (noT w))),?_,?_⟩
  ·walk_at "r"
   simp only [uP,aF]
   refine ⟨T,c,l2,n2,y2,rfl,b5.S,λhd=>?_,λw t3 an hd e3 eh ds=>?_⟩
   ·exact ⟨_,rfl,b5,bn,.inl ⟨hd,rfl⟩⟩
   ·exact ⟨_,rfl,b5.same ds,bn.keep (jp.same ds),.inr ⟨w,t3,hd,rfl,eh⟩⟩
  clear b5 bn
  rintro σ an ⟨dv,rfl,eT,ec,ey⟩
  walk_at "r"
  refine ⟨⋯,⋯,λacc c2=>?_⟩
  refine xj (lo:=0) (n:=(3:Int).toNat) (acc:=acc) (λq σ H15=>∃(x:Option V) (U:List Addr),σ=[x,some (.ref p),some (.int l2),some (.int n2),some (.int y2)]/\H15 acc=some (.lst (U.map V.ref))/\U.length=q/\(∀w,yI c l2 n2 y2=some w->∀t∈U,H15 t=some (.tup (noT w)))/\Ext acc an H15) ?_ ?_ ?_
  ·exact ⟨none,[],rfl,j6,rfl,(λw _ t ht=>by cases ht),Ext.put⟩
  ·rintro q σ H15 hq ⟨x,U,rfl,db,ci,cd,b4⟩
   have bu:jm an H15:=λc o hc=>b4 c o hc (j1 hc c2)
   have eH:=eT.same bu
   have eb:=ec.keep (jp.same bu)
   have b2:∀(t:Addr) (H':Hp),jm H15 H'->(∀w,yI c l2 n2 y2=some w->H' t=some (.tup (noT w)))->∃ys,H' acc=some (.lst ys)/\ys.length<sizeLine/\∃(x':Option V) (a2:List Addr),[some (V.int (0+(q:Int))),some (.ref p),some (.int l2),some (.int n2),some (.int y2)]=[x',some (.ref p),some (.int l2),some (.int n2),some (.int y2)]/\(upd H' acc (.lst (ys++[.ref t]))) acc=some (.lst (a2.map V.ref))/\a2.length=q+1/\(∀w,yI c l2 n2 y2=some w->∀t'∈a2,(upd H' acc (.lst (ys++[.ref t]))) t'=some (.tup (noT w)))/\Ext acc an (upd H' acc (.lst (ys++[.ref t]))):=λt H' s' ht=>by
    have ha:=s' _ _ db
    refine ⟨_,ha,by rw [ah];exact jj (),_,U++[t],rfl,by rw [j6,aE];rfl,by rw [ao,ci];rfl,λw X t' dK=>?_,λc o hc n=>by rw [j7 n];exact s' _ _ (b4 c o hc n)⟩
    have hh:H' t'=some (.tup (noT w)):=by
     rcases List.mem_append.mp dK with z | z
     ·exact s' _ _ (cd w X t' z)
     ·rw [List.mem_singleton.mp z]
      exact ht w X
    rw [j7 (jo hh ha ↥4)]
    exact hh
   walk_at "r"
   simp only [uP,aF]
   refine ⟨p,g,0+(q:Int),l2,n2,y2,c.sk,D,rfl,eH.I,c1,M.kv,eb,by rw [M.rows];exact t1,by rw [M.rows];right,(λR t H' ht s'=>?_),(λh0 h1 R t H' ht s'=>?_),λh0 h1 ex d0=>?_⟩
   ·exact b2 t H' s' λw X=>by
     rw [YE (by rw [<- dT];exact R)] at X
     cases X
     exact ht
   ·obtain ⟨em,eD,dc,d⟩:=M.lane O h0 ()
    rw [d.sl] at R
    exact b2 t H' s' λw X=>by
     rw [Z1 h0 () d.way R] at X
     cases X
     exact ht
   ·obtain ⟨em,eD,dc,d⟩:=M.lane O h0 ()
    obtain ⟨eo,eu,eq⟩:=yp dc
    have d4:=d.g30
    rw [d.sl] at d0 ⊢
    have d3:=Yy (y:=y2) h0 () d.way ex d0
    refine ⟨dc,eo,d.at_,(λq hq=>(d.pos q hq).1),(),eu,eq,(λR t H' ht s'=>b2 t H' s' λw X=>?_),λZ y1 t H' s'=>b2 t H' s' λw X=>?_⟩
    ·rw [d3,if_neg ()] at X
     cases X
     exact ht
    ·rw [d3,if_pos ⟨Z,y1⟩] at X
     cases X
  ·rintro σ H15 ⟨x,U,rfl,db,ci,cd,b4⟩
   have bu:jm an H15:=λc o hc=>b4 c o hc (j1 hc c2)
   rcases ey with ⟨hd,rfl⟩ | ⟨w,t,hd,rfl,ht⟩
   ·walk_at "r"
    exact k H15
   ·have ct:=W8 hd
    obtain ⟨u1,u2,u3,rfl⟩:∃u1 u2 u3,U=[u1,u2,u3]:=by
     match U,ci with
     | [u1,u2,u3],_=>exact ⟨u1,u2,u3,rfl⟩
    have hu:=cd w hd
    walk_at "r"
    refine ⟨by show 3<=sizeLine;decide,λa3 dd e5 ej a8=>?_⟩
    have d1:Dat dd (.ref acc) ↥28:=.lst (a8 _ _ db) (.cons (vH (a8 _ _ (hu u1 (by simp)))) (.cons (vH (a8 _ _ (hu u2 (by simp)))) (.cons (vH (a8 _ _ (hu u3 (by simp)))) .nil)))
    have bq:=a8 _ _ (bu _ _ ht)
    have d2:Dat dd (.ref a3) ↥28:=.lst ej (.cons (vH bq) (.cons (vH bq) (.cons (vH bq) .nil)))
    walk_at "r"
    refine ⟨λ_=>False,λ_=>False,_,_,Dat.rep (λ_=>id) d1,Dat.rep (λ_=>id) d2,uW ct,uW ct,?_⟩
    rw [SeqAt.eqv_refl _ (SeqAt.canLay_of_shaped (uW ct))]
    exact k dd
end
local macro_rules | `(tactic| walk_at "1")=>`(tactic| exact fun _ _ _ _ _ _ _ hl=>bnd1 hl fun _=>rfl)
local macro_rules | `(tactic| walk_at "2")=>`(tactic| exact fun _ _ _ _ _ _ _ hl=>bnd2 hl fun _ _=>rfl)
local macro_rules | `(tactic| walk_at "3")=>`(tactic| exact fun _ _ _ _ _ _ _ hl=>bnd3 hl fun _ _ _=>rfl)
local macro_rules | `(tactic| walk_at "4")=>`(tactic| exact fun _ _ _ _ _ _ _ hl=>bnd4 hl fun _ _ _ _=>rfl)
local macro_rules | `(tactic| walk_at "5")=>`(tactic| exact fun _ _ _ _ _ _ _ hl=>bnd5 hl fun _ _ _ _ _=>rfl)
local macro_rules | `(tactic| walk_at "6")=>`(tactic| exact fun _ _ _ _ _ _ _ hl=>bnd6 hl fun _ _ _ _ _ _=>rfl)
theorem GC {l:sJ}{K:ag}(X:K.In h) (G:h.Ns mainGlobals mg) (e2:mg "law" = some (.ref fa))
  
  {C0:Addr}
  {C1:Addr}
  {C2:Addr}
  {C3:Addr}
  {C4:Addr}
  {C5:Addr}
  {C6:Addr}
  {C7:Addr}
  {C8:Addr}
  
  
  
  
  
  
  
  
  
  
  
  (e8:aW K mainGlobals "Ice" = some (some (.ref CI))) (ey:fI K CI Str.empty=true) (e4:i7 K CI=true) (ew:lS K CI=true) (eu:bK K (.ref CI) "__setattr__" = some (some (.builtin "object.__setattr__"))) (eW:mR K CI=true) (e0:bR K (.ref CI)=true)
  (eU:bK K (.ref CI) "valley" = some none)
  (eT:bK K (.ref CI) "cycle" = some none)
  (eH:bK K (.ref CI) "slopes" = some none)
  (eD:bK K (.ref CI) "years" = some none)
  (ez:bK K (.ref CI) "leaps" = some none)
  (a1:gN K "leads_on" ue)
  (a2:gN K "is_reach" yJ)
  (a3:gN K "way_down" vY)
  (a4:aW K mainGlobals "lanes" = some (some (.ref f4))) (l4:K.lookup f4=some ⟨hq,hp,.func (bF "lanes" "lanes" (qf xr) (jT xr) (j8 xr) .none hr hs ho hu (.ref cL) ht),hn⟩) (c4:cC K (.ref cL) "lanes" = true) (k4:bR K (.ref f4)=true) (e3:PySem.W.codeHdIn K cL 154=true)
  (a5:gN K "way_of" kh)
  (a6:gN K "count_places" xY)
  (a7:gN K "fits" Q6)
  (a8:gN K "is_valley" y6)
  (a9:gN K "heights" vJ)
  (hh:gN K "is_weather" yR)
  (hg:gN K "change" ke)
  (hf:gN K "is_round" yU)
  (he:gN K "check_round" yc)
  (hd:gN K "check_told" yY)
  (hc:gM K CI "__init__" "Ice.__init__" x3)
  (hb:gM K CI "check_lane" "Ice.check_lane" xV)
  (ha:gM K CI "check_place" "Ice.check_place" xH)
  (g9:gM K CI "length" "Ice.length" yi)
  (g8:gM K CI "height" "Ice.height" yj)
  (g7:gM K CI "sky" "Ice.sky" ug)
  (g6:gM K CI "tell" "Ice.tell" vj)
  (g5:gM K CI "surge" "Ice.surge" yZ)
  (g4:gM K CI "surges" "Ice.surges" zk)
  (g3:gN K "check_asked" yo)
  (g2:gN K "ride_by" vL)
  (g1:gN K "earliest" ud)
  (g0:gN K "span" XZ)
  (gT:gN K "ridden" J0)
  (gO:gN K "life" ZA)
  (gI:gN K "parted" kR)
  (gF:gN K "way" Vw)
  (gD:gN K "rest" ZJ)
  (gx:gN K "hidden" kg)
  (gw:gN K "_law_box" wd)
  (gu:gN K "_law_mixed" vp)
  (gt:gN K "_law_take" ua)
  (gs:gN K "_law_whole" vm)
  (dy:gN K "_law_alike" zr)
  (gn:gN K "_law_far" uS)
  (gl:gN K "_law_odd" uX)
  (gi:gN K "_law_weather" ym)
  (ge:gN K "_law_round" zY)
  (gd:gN K "_law_ground_drawn" qG)
  (gc:gN K "_law_reaches" xC)
  (gb:gN K "_law_roads" zy)
  (ga:gN K "_law_ground" yQ)
  (f9:gN K "_law_year" uj)
  (f8:gN K "_law_scene" zw)
  (f7:gN K "_law_made" uf)
  (f6:gN K "_law_row" wk)
  (f5:gN K "_law_wish" vX)
  (f3:gN K "_law_ride" yL)
  (f2:gN K "_law_marks" y9)
  (f1:gN K "_law_year_of" yg)
  (f0:gN K "_law_walk" uc)
  (fH:gN K "_law_spot" uk)
  (fz:gN K "_law_stone_way" qZ)
  (fy:gN K "_law_life_at" yd)
  (fx:gN K "_law_rest_by_life" xK)
  (fw:gN K "_law_way_by_life" xT)
  (fv:gN K "_law_refused" xa)
  (fu:gN K "_law_due_spot" zT)
  (fp:gN K "_law_bent_spot" zE)
  (fo:gN K "_law_try_stone" zF)
  (e9:aW K mainGlobals "law" = some (some (.ref d0))) (eX:K.lookup d0=some ⟨hl,hk,.func (bF "law" "law" (qf vT) (jT vT) (j8 vT) .none ei ej ec el dD ek),hj⟩) (e7:cC K dD "law" = true) (e1:bR K (.ref d0)=true)
  (eb:gE K "BadValley" C0)
  (ea:gE K "BadRound" C1)
  (d7:gE K "NoLane" C2)
  (d4:gE K "BadYear" C3)
  (d3:gE K "BadWeather" C4)
  (d2:gE K "BadSurge" C5)
  (d1:gE K "NoPlace" C6)
  (e6:gE K "BadHand" C7)
  (e5:gE K "FirnError" C8)
  (eh:fD K (.ref C2) (.ref C8)=some true)
  (ed:fD K (.ref C6) (.ref C8)=some true)
  (eg:fD K (.ref C3) (.ref C8)=some true)
  (rN:RefK K C3 C2 C6 C7 C2 false true false false)
  (rP:RefK K C3 C2 C6 C7 C6 false false true false)
  (rY:RefK K C3 C2 C6 C7 C3 true false false false)
  (z0:aW K mainGlobals "len" = some none)
  (z1:aW K mainGlobals "range" = some none)
  (z2:aW K mainGlobals "isinstance" = some none)
  (z3:aW K mainGlobals "int" = some none)
  (z4:aW K mainGlobals "bool" = some none)
  (z5:aW K mainGlobals "str" = some none)
  (z6:aW K mainGlobals "list" = some none)
  (z7:aW K mainGlobals "tuple" = some none)
  (z8:aW K mainGlobals "min" = some none)
  (z9:aW K mainGlobals "max" = some none)
  (et:aW K mainGlobals "all" = some none)
  (er:aW K mainGlobals "zip" = some none)
  (eq:aW K mainGlobals "enumerate" = some none)
  (ep:aW K mainGlobals "sorted" = some none)
  (eo:aW K mainGlobals "sum" = some none)
  (en:aW K mainGlobals "dict" = some none)
  (em:aW K mainGlobals "ValueError" = some none)
  (q0:aW K mainGlobals "MOST_REACHES" = some (some (.int 8 u0)))
  (q1:aW K mainGlobals "MOST_HEIGHTS" = some (some (.int 12 u1)))
  (q2:aW K mainGlobals "GREATEST_HEIGHT" = some (some (.int 99 u2)))
  (q3:aW K mainGlobals "MOST_LANES" = some (some (.int 6 u3)))
  (q4:aW K mainGlobals "LONGEST_LANE" = some (some (.int 30 u4)))
  (q5:aW K mainGlobals "HIGHEST_LINE" = some (some (.int 100 u5)))
  (q6:aW K mainGlobals "MOST_HANDS" = some (some (.int 9 u6)))
  (q7:aW K mainGlobals "MOST_ROWS" = some (some (.int 12 u7)))
  (q8:aW K mainGlobals "LAST_TOLD" = some (some (.int 99 u8)))
  (q9:aW K mainGlobals "LAST_ASKED" = some (some (.int 10000000000000000000000000000000000000000 u9)))
  (ev:aW K mainGlobals "GREATEST_SURGE" = some (some (.int 9 hm)))
  : ∃fd:FuncData,(∀(s:Shared) (v:aj),pN s fd ⟨[v],[]⟩ [("_law_script",v)])/\∀base:Heap,K.In base->base.Ns mainGlobals mg->Bm mg base->FnOk l.prog w K mg base CX0 11 fa fd ["_law_script"] (spLawT K 154):=by
 have e:=e2.symm.trans (bh X G e9)
 cases e
 have b:Nb2 mg:={ b_len:=bj X G z0,b_range:=bj X G z1,b_isinstance:=bj X G z2,b_int:=bj X G z3,b_bool:=bj X G z4,b_str:=bj X G z5,b_list:=bj X G z6,b_tuple:=bj X G z7,b_min:=bj X G z8,b_max:=bj X G z9,b_all:=bj X G et,b_zip:=bj X G er,b_enumerate:=bj X G eq,b_sorted:=bj X G ep,b_sum:=bj X G eo }
 have dn:=bj X G en
 have bm:=bj X G em
 have L:=bh X G q0
 have M:=bh X G q1
 have y:=bh X G q2
 have aL:=bh X G q3
 have N:=bh X G q4
 have O:=bh X G q5
 have a0:=bh X G q6
 have bq:=bh X G q7
 have bs:=bh X G q8
 have bd:=bh X G q9
 have B:=bh X G ev
 have bv:=bh X G eb.e
 have bn:=eb.x
 have ch:=bh X G ea.e
 have cd:=ea.x
 have C:=bh X G d7.e
 have ap:=d7.x
 have p:=bh X G d4.e
 have S:=d4.x
 have bi:=bh X G d3.e
 have as:=d3.x
 have ce:=bh X G d2.e
 have cb:=d2.x
 have T:=bh X G d1.e
 have c1:=d1.x
 have c2:=bh X G e6.e
 have bu:=bh X G e5.e
 have f:Cls K CI:=⟨ey,e4,ew,eu⟩
 have j:IceC K CI:=⟨f,eU,eT,eH,eD,ez⟩
 refine ⟨bF "law" "law" (qf vT) (jT vT) (j8 vT) .none ei ej ec el dD ek,λs v=>.of_eq rfl,λbase es _ ex=>?_⟩
 have CH:=PySem.W.codeHd_of_K es e3
 have z:Zt l.prog w K mg base:=⟨X,G⟩
 have cl:=a1.cal z ↥35 (Xn)
 have ct:=a2.cal z ↥35 (QU b M y cl)
 have ci:=a3.cal z ↥35 (Xr b)
 have Q:Cal l.prog w K mg base 5 "lanes" ["reaches"] (spLanes K 154):=Cal.mkC (st:=xr) X G a4 l4 c4 k4 ↥55 (Vg b ci CH ex l4 c4)
 have dp:=a5.calX z ↥35 (YZ b C ap Q)
 have R:=a6.cal z ↥35 (wJ b)
 have dT:=a7.cal z ↥35 (UY b aL N R)
 have b5:=a8.cal z ↥55 (JV b L ct Q dT)
 have dk:=a9.calX z ↥35 (Zz b dp)
 have t:=hh.cal z ↥55 (Jf O a0)
 have dx:=hg.cal z ↥35 (YR)
 have cs:=hf.cal z ↥55 (QR b.toNb bq t)
 have ac:=he.calX z ↥55 (gj b ch cd cs)
 have u:=hd.calX z ↥55 (J7 bs p S)
 have dV:=hc.mak z eW e0 e8 ↥105 (wa b j bv bn b5 ac Q dk.cal)
 have d:=hb.calX z ↥35 (um b j C ap)
 have g:=ha.calX z ↥105 (vP b j T c1 f d)
 have al:=g9.calX z ↥35 (gq b j f d)
 have am:=g8.calX z ↥105 (hZ b j f g)
 have cy:=g7.cal z ↥35 (QK b j)
 have b6:=g6.calX z ↥105 (JR b j bi as u t)
 have bl:=g5.calX z ↥135 (Jg b j f B ce cb d u)
 have i:=g4.calX z ↥35 (kG b j f d)
 have ae:=g3.calX z ↥55 (gy bd p S)
 have U:=g2.cal z ↥35 (ZK b)
 have cv:=g1.cal z ↥35 (Xe b)
 have dF:=g0.calX z ↥105 (Uj f i al cv)
 have ds:=gT.calX z ↥105 (V0 f i ae U)
 have dK:=gO.calX z ↥105 (Wc b dn f dF i U dx cy am)
 have dt:=gI.calX z ↥135 (YH f g ds dK)
 have an:=gF.calX z ↥135 (GL b dt)
 have da:=gD.calX z ↥135 (Uo an)
 have dv:=gx.calX z ↥135 (Yx an)
 have dd:=gw.cal z ↥55 (GB b.toNb)
 have b3:=gu.cal z ↥35 (VU)
 have a:=gt.cal z ↥35 (UB b.toNb b3)
 have k:=gs.cal z ↥55 (Uh b)
 have c:=dy.cal z ↥35 (YA)
 have c:=dy.cal z ↥35 (wo 0 b k c)
 have c:=dy.cal z ↥35 (wo 1 b k c)
 have c:=dy.cal z ↥35 (wo 2 b k c)
 have dc:=gn.cal z ↥55 (WZ b a)
 have db:=gl.cal z ↥55 (Wz a)
 have n:=gi.cal z ↥55 (ZH a)
 have b1:=ge.cal z ↥55 (VJ b.toNb a n)
 have r:=gd.cal z ↥105 (wR b a)
 have ab:=gc.cal z ↥55 (Zi b a r)
 have b2:=gb.cal z ↥55 (U1 b)
 have bk:=ga.cal z ↥35 (Yb)
 have cm:=f9.cal z ↥55 (UJ a)
 have b0:=f8.cal z ↥55 (VY b a ab b1 bk b2 cm n)
 have cr:=f7.cal z ↥55 (Wn b f dV b6 bl)
 have V:=f6.cal z ↥35 (Go b)
 have D:=f5.cal z ↥35 (Wl)
 have m:=f3.cal z ↥105 (UW b)
 have b4:=f2.cal z ↥105 (U7 b m)
 have Y:=f1.cal z (by walk_at "5") (ZC b b4 D V)
 have cn:=f0.cal z ↥105 (Uv b Y)
 have I:=fH.cal z ↥35 (Wi b a)
 have H:=fz.cal z ↥135 (Qo b dn m cn)
 have o:=fy.cal z ↥135 (Z8 b m D V)
 have q:=fx.cal z ↥135 (wL o)
 have A:=fw.cal z ↥135 (kF b o)
 have Z:=fv.calH z ↥55 (Z5 b bm p C T c2)
 have P:=fu.cal z ↥135 (Gx b)
 have J:=fp.cal z ↥105 (Wm b a db I)
 have E:=fo.cal z (by walk_at "5") (UX bu eh ed eg rN rP rY da an dv Z)
 exact WE b dd a b0 cr I dc H c an da q A P J E (vz (st:=vT) eX e7 e1)
end K25
end
open PySem PySem.W PyProof.Rows
set_option maxRecDepth 100000 in
set_option maxHeartbeats 0 in
theorem PySem.Challenge.cw_firnfall_k25_where_stones_rest_holds : PySem.Challenge.rw_firnfall_k25_where_stones_rest.Holds := by
 w_on
 refine holds_law HO.ws λb=>?_
 refine holds_open (q:=HO.view) (loose:=HO.loose) (N:=12000) (Xt:=HO.xt) (XP:=XL HO.view [])
  (Yf:=Hook.obs ↥87) (Ya:=Hook.val ↥87) (YP:=Hook.says ↥87)
  HO.left (Hook.of ↥87) (Hook.keeps ↥87)
  (λs e=>xl_of s (Bool.and_eq_true_iff.mp e).1) XL.keeps rfl rfl rfl
  (λs e=>recFacts_of (Bool.and_eq_true_iff.mp e).2) rfl
  (by first | assumption | decide +kernel) ↥41 ⟨rfl,rfl,rfl,rfl,rfl,by decide +kernel⟩ ?hw ?hc
 (case hw=>w_witness2)
 k_fill
 refine L2.Ul (l:=PySem.Challenge.rw_firnfall_k25_where_stones_rest) 11 156 154 ⟨rfl,⋯,⋯⟩ rfl rfl (λw h Y=>⟨PySem.W.km_in_of Y,PySem.W.km_tabs_of Y 154 (by simp)⟩) (λ_=>by kernel_rfl) (λ_=>by kernel_rfl) ?F
 case F =>
  intro w mg d h c G a
  refine' K25.GC c G a ..
  all_goals try first | refine' L2.gN.mk ?_ ?_ ?_ ?_ | refine' L2.gM.mk ?_ ?_ ?_ ?_ ?_ | refine' L2.gE.mk ?_ ?_ ?_ | refine' K25.RefK.mk ⟨?_,?_,?_,?_,?_,?_,?_,?_⟩ ?_ ?_ ?_ ?_ ?_
  all_goals try show _=_
  all_goals try k_is
  all_goals kernel_rfl
