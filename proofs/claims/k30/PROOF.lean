import PyProof.Rows.All
import Wide.All
import OpenK.AllK
import Wide.FinOn
import Lean
import PyProof.EqAt
import PyProof.EqKinds
import PyProof.TupleCall
import PyProof.AttrMissHeap
import KE.KDictOf
import PyProof.Rows.MinMaxN
import KE.KMinBuiltin
import PyProof.Rows.CallKwBuiltin
import OpenK.KLine
import KE.KNestM
import PySem.Challenge.RW_firnfall_k30_whole_snouts_come_round
set_option Elab.async false
set_option linter.all false
set_option maxRecDepth 100000
set_option maxHeartbeats 0
open And renaming intro->fP
open Array renaming length_toList->bR,getElem?_eq_getElem->dJ,getElem?_setIfInBounds_ne->ia,getElem?_toList->ib,getD_eq_getD_getElem?->iS,getD->oj,forIn_toList->oo,mk->oB,toList_map->pz
open Bool renaming false_ne_true->au,and_eq_true->bz,false_eq_true->cv,eq_iff_iff->dO,true_and->eV
open False renaming elim->bJ
open ForIn renaming forIn->tj
open ForInStep renaming yield->c8
open Int renaming toNat_natCast->aW,emod_lt_of_pos->d6,emod_nonneg->dP,zero_add->dW,natCast_emod->ik,natCast_ediv->pN,le_refl->pY
open List renaming length_map->aa,getElem?_eq_getElem->ae,getD_eq_getElem?_getD->aj,map_append->aq,size_toArray->av,getElem?_map->aw,length_append->ay,mem_of_getElem?->aB,mem_cons_of_mem->aD,length_take->aE,range->aG,mem_cons_self->aK,mem_append_right->aM,map_cons->aO,replicate->aP,Nodup->aS,take_length->aX,append_nil->b0,take_add_one->ba,length_cons->bc,mem_map_of_mem->bf,length_range->bg,length_singleton->bp,take_of_length_le->bw,length_replicate->bE,getElem_mem->bL,map_map->bM,length_filter_le->bO,filter_append->bP,range_succ->bW,filter_cons_of_neg->cp,filter_cons_of_pos->cq,getElem?_append_right->cu,all_eq_true->cA,getElem?_append_left->cB,flatten_cons->cE,getLast?_eq_some_getLast->cF,getElem?_zipWith->cG,lookup_cons->cM,reverse->cU,zipWith->cV,replicate_succ->cX,getElem?_range->cY,mem_append_left->d9,dropLast_concat_getLast->dr,drop_eq_getElem_cons->dH,map_congr_left->eB,length_zipWith->eC,getElem_map->eI,lookup->eL,getElem?_take->eP,find?_cons->eS,mem_cons->eW,map_take->eX,getElem?_eq_none->fb,append_assoc->fc,ext_getElem?->fe,reverse_reverse->fj,filter->fk,length_drop->fq,not_mem_nil->ft,any_cons->fC,getElem?_replicate->fL,pairwise_singleton->fO,all_map->i4,length_pos_of_mem->i5,getElem?_set->i7,sum_cons->ir,mem_of_mem_take->iB,eq_nil_of_length_eq_zero->iD,replicate_succ'->iE,of_mem_zip->iG,length_set->iH,forIn_cons->iI,filter_nil->iM,filterMap_cons->iO,length_reverse->iR,nodup_nil->lq,getLast?_eq_getElem?->ly,reverse_cons->lE,ext_getElem->lS,getElem?_set_self->lY,map_nil->mh,drop_of_length_le->mm,find?_cons_of_pos->mw,find?_cons_of_neg->mx,drop_eq_nil_of_le->my,getElem?_set_ne->mM,length->mP,length_dropLast->mT,map_id->n5,mem_of_mem_drop->nj,getElem?_append->nk,all_cons->nN,getElem?_drop->oh,find?->ow,pairwise_cons->oz,map_replicate->oA,toArray->oR,getElem_take->oZ,pairwise_map->pe,map_snd_zip->pA,zipIdx_cons->pE,cons_append->pI,map_reverse->pK,map_flatten->pO,zipIdx_nil->rh,length_nil->rj,sum_append->rn,foldl->rW,forIn_nil->sx,take_zero->sF,drop_zero->sG,map_drop->sU
open List.Pairwise renaming nil->fZ
open List.Perm renaming refl->mX,cons_inv->oq
open MonadExcept renaming tryCatch->tG
open Nat renaming le_refl->ar,ne_of_lt->aC,le_trans->aI,lt_of_lt_of_le->aQ,zero_le->aT,lt_succ_of_lt->bK,lt_of_le_of_lt->bZ,le_of_lt->c3,lt_irrefl->cw,ne_of_gt->cz,lt_succ_self->d5,le_add_right->eG,succ_le_succ->eK,le_succ->fN,dvd_of_mod_eq_zero->i8,min_eq_left->iN,mod_lt->lu,succ_mul->me,mul_comm->mf,zero_add->mq,not_lt_zero->mF,mul_le_mul_right->nu,le_of_eq->oG,add_mod_right->pf,min_eq_right->pL,mod_eq_of_lt->pM,div_add_mod->rp,div_le_self->rA,min_le_left->rC,mul_div_le->sI
open Ne renaming symm->cC
open Option renaming toList_some->dE,isSome_map->oY,getD_none->px
open Option.some renaming inj->aJ
open Or renaming inl->aU,inr->fI
open Prod renaming snd->tm
open PyProof.Rows renaming seqObj->bx,boot_list->bY,callWith_type1->cj,listUpdate_at->d8,IntsAre->dv,boot_tuple->eJ,get?_update_seq->eR,seqEpoch_at->fh,slot_tuple_getitem->i9,AllBare->il,subscriptTail->ip,boot_isinstance->iL,envOfC->lI,Subscript_->m8,subscriptTail_builtinR->ma,listItems_at->mn,entry_list_sort->mD,boot_int->mK,slot_list_sort->mW,boot_sorted->mY,preSum_getD->mZ,boot_max->nh,boot_sum->ni,size_push'->om,plain_sorted->oP,entry_sorted->oQ,boot_all->p0,kind_sorted->pV,callWith_kw->pW,list_sort_plain->rf,boot_range->rP,SortKind->se,args_list_sort->si,failedOf->sr,tail_any->tf,boot_min->tH,Call_->tK
open PyProof.Rows.KeyOrd renaming kle_refl->dq,kle_of_klt->i0,kle_trans->ij,kle_antisymm->iQ
open PySem renaming wpAny_bind->af,Value->ak,wpAny->aA,model->aF,boot_len->aH,starEach->aN,wpAny_mono->bb,World->bA,Around->bI,sizeLine_eq->bQ,wpAny_truthy_bool->bT,wpAny_field->c0,wpAny_holding->c5,wpAny_newObj_type->c6,wpAny_loadPart'->cc,rawInt->cg,backTo->ck,compareOp->cn,wpAny_seqItems->cH,Paired->cJ,wpAny_Call_Name_kw->cK,wpAny_standAt->cN,wpAny_pyIter_list->cP,foldedSetIterable->cQ,bindArgs->cR,codeAny->d7,wpAny_callSpecial?_slot->dh,letOwnedTupleGo->dj,mem_of_lookup->du,plainId_quiet->dw,wpAny_call_entry->dz,wpAny_setField_rec->dC,holding->dG,importedModules->dM,wpAny_passesOwn->dN,standAt->dQ,keywordEach->dS,codeAny_mono->dU,sysModules->dX,attributeBase->dY,IsPair->ef,codeAny_builtin->eQ,behindInMarks->eU,PyData->fg,wpAny_letGo->fi,wpAny_comprehension_free->fD,wpAny_newList->fE,wpAny_execs_nil->fF,Builtin->fG,assignEach->fH,wpAny_rule->fJ,tupleKind_room_in1->fK,sliceBounds->fM,bootBuiltins->fR,pyNext->fS,binaryOp->fT,backToKw->fV,NameKind->fW,wpAny_setField->i6,getMethod->ie,call_meets->ig,wpAny_updateSeq_pair->iC,assign->iF,swapsWith->iU,noteFrame->iV,wpAny_newFunctionEnv_cells->iZ,wpAny_newTuple->l9,wpAny_evalAll_cons->lh,IsZip->lj,wpAny_tryCatch->lp,getItem->lB,wpAny_evalAll_nil->lF,evalPart_none->lJ,wpAny_getItem_list_slice->lK,wpAny_onRaise->lL,wpAny_eqBool_int->lM,tupleKind->lN,wpAny_execs_cons->lO,callWith->lR,OsState->lV,builtinsNs->lX,wpAny_pyNext_list_item->lZ,wpAny_call->m6,Keyword->m7,seqIndex_neg->m9,wpAny_getItem_list_neg->md,codeAny_compStart_list->mi,theTreesLotGoes->mC,wpAny_updateSeq->mG,wpAny_isTrue_Compare1->mI,wpAny_pyNext_list_end->mJ,pyIter->mO,seqIndex_of->mQ,subscripted->mS,wpAny_newFunctionEnv->mU,wpAny_of_eq->n6,ZipApart->n9,leaving->nA,callerA->nB,valueAt->nE,argBest->nH,evalPart_some->nM,wpAny_attempt->nO,wpAny_pyIter_tuple->nX,wpAny_pyIter_range->nZ,Result->o8,PlainAttrs->o9,typeOf->oa,closureFor->og,getattributeRaised->ou,Within->oC,wpAny_assign_Name->oE,codeAny_loop->oN,compTurn->oO,wpAny_typeOf->oS,wpAny_pyIter_enum->oU,cellsFrom->pw,seqItems?->pC,wpAny_pyIter_zip->pH,IsRangeIter->pR,wpAny_Slice->pT,wpAny_noted->pU,atKey->pX,BindsTo->rG,newList->rH,wpAny_Name->rO,bindL->rQ,bindC->rR,IsPart->rS,typeLookup->rT,typeIs_int->rV,compEnvC->rX,newFunctionEnv->rZ,checkCount->sf,field->su,firstArgMember->sv,argBest_gt->sD,rangeSize_one->sL,intBits_le_64->sM,call_list_seq->sO,eval_ListComp->sP,call_sum_walk->sR,treeTable->sV,setItem->sY,cellOf->sZ,stored->t6,compPost->tu,Params->tI,truthy->tJ
open PySem.Around renaming under_plainId->de,under->oJ
open PySem.Builtin.Dict renaming updateFrom->lU
open PySem.Builtin.List renaming listTooLong->dZ
open PySem.Builtin.Range renaming rangeSize->lQ
open PySem.Builtin.Slice renaming slicePlaces->dI,sliceAdjust->fA,sliceApplied->lg
open PySem.Builtin.SmallTypes renaming nextOf->bD,ownedTupleIsFree->cI,ownedTupleHandOut->fB
open PySem.Builtin.Tuple renaming tupleExact->ee
open PySem.Calls renaming callWith_builtin->fY,evalArgs_plain->iA,Name_function_global->iW,spliced_cons->iY,call_function_entry->lx,spliced_nil->oM
open PySem.CmpOf renaming ints_gt->sS
open PySem.Code renaming isFrame->oK
open PySem.Data renaming fields->dR,cell->lP,seq->sy
open PySem.EntryCells renaming newEntry->nK
open PySem.Env renaming kindOf->rY
open PySem.F renaming plainAttrs_list->bC,slot_list_append->bG,type_list_append->bH,excBase_ValueError->bV,plain_max_loop->dA,slot_tuple_iterator_next->dB,slot_dict_get->ic,args_tuple_iterator_next_1->iJ,slot_zip_next->iK,entry_tuple_iterator_next->iT,args_dict_get_3->lT,entry_dict_get->mr,slot_list_lt->mV,args_zip_next_1->oX,entry_zip_next->pG,entry_max_loop->pJ,slot_int_rmul->pZ
open PySem.Fin renaming done->sj
open PySem.Heap renaming get?_push_of_some->ah,lt_size->ax,get?_push_size->az,get?_update_other->bF,size_push->bX,get?_update_ne->cf,get?_push_ne->cT,get?_update_self->d4,size_update->eF,SameBut->eM,MadeExcOf->nc
open PySem.Heap.DictOf renaming new->rm
open PySem.Heap.IsSliceOf renaming new->l3
open PySem.Heap.SameBut renaming update->nJ
open PySem.IsRange renaming new->pS
open PySem.NameKind renaming free->bh,cell->iq
open PySem.Obj renaming mapSeq->b7,data_mapFields->eO,isFreed_of_fields->eZ,mapFields->iu,cls_mapFields->oW
open PySem.Paired renaming length->aZ,snoc->cZ
open PySem.PassesOwn renaming never->bj
open PySem.PyData renaming eqvAll->iz,canLayAll0->lH,depthAll->mH,eqv->oi,canLay0->sH
open PySem.SeqAt renaming shaped->ml
open PySem.SeqAt.EqAt renaming int_str->nU,str_int->nW
open PySem.Str renaming ofString->ao
open PySem.Value renaming ref->aV,none->b8,type->cO,int->df,isInt_shape->fQ,bool->lW,str->nv,isStrOf_shape->nI,float->pQ,isStrOf->sJ
open PySem.W renaming Frag->ag,nsIn->aY,mg_none_of->bo,mg_of->bB,fnOf->bS,findIn->bU,keepIn->c7,kia_one->cx,emptyDict->cD,codeIn->cS,boot_heap->cW,instObj->di,excIn->ez,kitOne->eE,callWith_K->eN,methodCall_KW->eY,plainGet->fm,hasDictIn->fU,cellsFrom_some->fX,plainGet_of->iP,lookIn->iX,methodObj->lA,plainOver->lC,takerIn->mz,makesIn->mB,boot_drawn->nQ,namesBound->nR,isFn->oF,kitx_list->oH,kitx_dict->oI,staticsOk->ph,kmHook->pj,handedIn->pq,OpenLaw->rg,topStub->rE,kas_rev->rJ,tabObj->rK,gensDone->rM,laidKept->rN,funFrames_hide->sA,kas_tail3->sW,topRun->sX,openSeen->t7,openGood->t8,openEnds->t9,kas_sort->tD,kas_item->tE,kat_snds->tF
open PySem.W.Looks renaming of_pure->sQ
open PySem.W.OpenLaw renaming row->mL
open PySem.Walks renaming list->mj
open StateT renaming run_pure->mE
open Sum renaming inr->bu,inl->eA
open Sum.inl renaming inj->ff
open True renaming intro->dm
open PySem PySem.Spec PyProof.Rows
local macro_rules | `(∅)=>`(by omega)
local macro_rules | `(⋯)=>`(by decide)
set_option hygiene false
local macro_rules | `(↥0)=>`((jp "slopes" (V.ref acc) (jp "cycle" (V.ref cy) (jp "valley" (V.ref va) []))))
local macro_rules | `(↥1)=>`((.dK [((.inr "reaches",.ref p):Key×V),(.inr "rows",.ref q),(.inr "single",.ref g),(.inr "grounds",.ref gl)]))
local macro_rules | `(↥2)=>`((aF X.prog X.w))
local macro_rules | `(↥3)=>`((by walk_at "w"))
local macro_rules | `(↥4)=>`((by walk_at "z"))
local macro_rules | `(↥5)=>`((upd (upd Hb g (.dK [])) sd (.dK (qW [] [(.inr "reaches",.ref p),(.inr "rows",.ref q),(.inr "single",.ref g)]))))
local macro_rules | `(↥6)=>`((xr elt tg iter tg2 iter2 ifs ifs2 scope pos))
local macro_rules | `(↥7)=>`(((s.heap.push (bx "list" #[] 0)).update s.heap.objs.size (b7 (· ++ its.toArray))))
local macro_rules | `(↥8)=>`((s.heap.push { cls:=.type "range",data:=.fields #[.int lo t,.int hi u,.int 1 v] }))
local macro_rules | `(↥9)=>`((X.block scope G H2.objs.size N s H fp))
local macro_rules | `(↥10)=>`(((k.update a (b7 λ_=>(#[]:Array ak))).push (bx "tuple" its.toArray 0)))
local macro_rules | `(↥11)=>`((upd (upd M ye (HO.dK [])) p (HO.ins C dx (jp "years" (V.ref ye) ↥0))))
local macro_rules | `(↥12)=>`((Zl h'.objs.size (vW (X.env.qual ++ "<lambda>") params body scope ((X.mg "__name__").getD .none) c' j)))
local macro_rules | `(↥13)=>`((s.heap.objs.size+1))
local macro_rules | `(↥14)=>`((λ_ _ _ _ _=>jr))
local macro_rules | `(↥15)=>`((g.slopes.length:Int))
local macro_rules | `(↥16)=>`((.ref s.heap.objs.size))
local macro_rules | `(↥17)=>`((j0 (pv 0) (j0 j5 j2)))
local macro_rules | `(↥18)=>`((HO.ins C dx (jp "cycle" (V.ref cy) (jp "valley" (V.ref va) []))))
local macro_rules | `(↥19)=>`((∀b o,s.heap.get? b=some o->h'.get? b=some o))
local macro_rules | `(↥20)=>`((ji (je K) (pv 0) j5 (λ_ _=>rfl)))
local macro_rules | `(↥21)=>`((ji (jG K) (pv 0) j5 (λ_ _=>rfl)))
local macro_rules | `(↥22)=>`((ji (jG K) (pv 7) j5 (λ_ _=>rfl)))
local macro_rules | `(↥23)=>`((bx "list" its.toArray 0))
local macro_rules | `(↥24)=>`((x == ("__debug__" : Str)))
local macro_rules | `(↥25)=>`((jP I q (by simp)))
local macro_rules | `(↥26)=>`((upd (upd H Pt (.tbl #[cg pos.line,cg pos.col,.ref c'])) c' (QQ c' (X.env.qual ++ "<lambda>"))))
local macro_rules | `(↥27)=>`((.inr "reaches",.ref p))
local macro_rules | `(↥28)=>`((.tup [.ref dl,.int q.1,.int q.2.1,.int q.2.2.1]))
local macro_rules | `(↥29)=>`((dM PySem.Challenge.pw_firnfall_k30_whole_snouts_come_round.main.body))
local macro_rules | `(↥30)=>`((jd (ja K) rfl nb.b_len aH (j0 (jw (jM m) (pv 2) jF (λ_ _=>rfl)) j2)))
local macro_rules | `(↥31)=>`((false,eval e X.env))
local macro_rules | `(↥32)=>`((X.block scope j C N s H ex))
local macro_rules | `(↥33)=>`((j0 (pv 0) j2))
local macro_rules | `(↥34)=>`((X.block scope j H2.objs.size N s H fp))
local macro_rules | `(↥35)=>`((∀σ2 H2,Y σ2 H2->∃m',m'<m/\W (i+1) m' σ2 H2))
local macro_rules | `(↥36)=>`((by intro z;cases z))
local macro_rules | `(↥37)=>`((by walk_at "2"))
local macro_rules | `(↥38)=>`((by walk_at "1"))
local macro_rules | `(↥39)=>`((.ListComp elt [⟨tg,iter,ifs,0⟩] scope pos))
local macro_rules | `(↥40)=>`((.Slice none none (some (.UnaryOp .USub (.Constant (.int 1) j3 p3) p4)) p2))
local macro_rules | `(↥41)=>`((b7 λ_=>(#[]:Array ak)))
local macro_rules | `(↥42)=>`((j0 (pv 1) j2))
local macro_rules | `(↥43)=>`((jB (jI d gd.length (0+(i:Int))) (qj d gd wr c.ts 0 i)))
local macro_rules | `(↥44)=>`((["_law_depths_here","_law_fallen","_law_melted","_law_gone"]:List Str))
local macro_rules | `(↥45)=>`((.Call (.Attribute o m apos) (e::es) [] pos))
local macro_rules | `(↥46)=>`((.inr "rows",.ref q))
local macro_rules | `(↥47)=>`((Addr×List (Key×V)))
local macro_rules | `(↥48)=>`(((m.take p).filter λx=>decide (0<x)))
local macro_rules | `(↥49)=>`(((j+1:Nat):Int))
local macro_rules | `(↥50)=>`((ha pos pins s σ H _ I h))
local macro_rules | `(↥51)=>`((EP X pins σ Q))
local macro_rules | `(↥52)=>`((l<0\/ ↥15<=l->E (.ref CN) none H))
local macro_rules | `(↥53)=>`((X.block scope G C N s H ex))
local macro_rules | `(↥54)=>`((wpAny_pure ?_))
local macro_rules | `(↥55)=>`(((.inl z.1,f z.2):Key×V))
local macro_rules | `(↥56)=>`((by with_unfolding_all rfl))
local macro_rules | `(↥57)=>`(((g.slopes.getD l.toNat []).length:Int))
local macro_rules | `(↥58)=>`((λvs H Q E h=>?_))
local macro_rules | `(↥59)=>`((X.env.qual ++ "<lambda>"))
local macro_rules | `(↥60)=>`((.lst (q.2.2.2.map V.int)))
local macro_rules | `(↥61)=>`((mL PySem.Challenge.rw_firnfall_k30_whole_snouts_come_round))
local macro_rules | `(↥62)=>`((ns.map V.int))
local macro_rules | `(↥63)=>`((upd z acc (.lst (ys++[v]))))
local macro_rules | `(↥64)=>`((qp wr g.rows (fst+(i:Int))))
local macro_rules | `(↥65)=>`((ji (je K) (qB K (pv 0)) (pv 1) (λ_ _=>rfl)))
local macro_rules | `(↥66)=>`((ck pos (aN es X.env)))
local macro_rules | `(↥67)=>`((A.under (.builtin "type.__call__" ⟨.ref C::us,kw⟩)))
local macro_rules | `(↥68)=>`((ts.length:Int))
local macro_rules | `(↥69)=>`((bS x x (jX st) (jR st) (j8 st) .none kV doc pm U j z))
local macro_rules | `(↥70)=>`((.Call (.Name x p) (e::es) [] pos))
local macro_rules | `(↥71)=>`((∀b∈fp,H' b=none))
local macro_rules | `(↥72)=>`((∃m,W 0 m σ H))
local macro_rules | `(↥73)=>`((HO.ins C dx (jp "valley" (V.ref va) [])))
local macro_rules | `(↥74)=>`((bu (ao "reaches"):Key))
local macro_rules | `(↥75)=>`((jd (ja K) rfl nb.b_len aH (j0 ↥22 j2)))
local macro_rules | `(↥76)=>`((∀σ2 H2,NX σ2 H2->∃m',m'<m/\W (i+1) m' σ2 H2))
local macro_rules | `(↥77)=>`(((R.update a ↥41).push (bx "tuple" its.toArray 0)))
local macro_rules | `(↥78)=>`((.frz ob (.dK (ps.map kvI))))
local macro_rules | `(↥79)=>`((.inr "single",.ref j))
local macro_rules | `(↥80)=>`((pj HO.frag.heap_1 HO.asL HO.asE [142]))
local macro_rules | `(↥81)=>`(((kvD R (I.take (p+1))).map kvI))
local macro_rules | `(↥82)=>`((js (show (bu (ao "single"):Key)≠bu (ao "grounds") by decide +kernel)))
local macro_rules | `(↥83)=>`((qp wr c.ts (0+(i:Int))))
local macro_rules | `(↥84)=>`((by simp;omega))
local macro_rules | `(↥85)=>`((k == bh && env.scope.kind == .function && env.kindOf n == some .cell))
local macro_rules | `(↥86)=>`((c == bh && env.scope.kind == .function && env.kindOf n == some .cell))
local macro_rules | `(↥87)=>`((.frz o (.dK kvs)))
local macro_rules | `(↥88)=>`((js (show (bu (ao "rows"):Key)≠bu (ao "grounds") by decide +kernel)))
local macro_rules | `(↥89)=>`((.lst (((aG z).map lo).map oV)))
local macro_rules | `(↥90)=>`(((aP (d.length / (j+1)) (d.take (j+1))).flatten))
local macro_rules | `(↥91)=>`((j0 (pv 2) j2))
local macro_rules | `(↥92)=>`((if wsh > -j then wsh else -j))
local macro_rules | `(↥93)=>`((λz=>nomatch z))
local macro_rules | `(↥94)=>`(((jq rs).length:Int))
local macro_rules | `(↥95)=>`((f.heap.push { cls:=cO "list_iterator",data:=dR #[aV a,df 0 0] }))
local macro_rules | `(↥96)=>`((d.heap.push { cls:=cO "list_iterator",data:=dR #[aV a,df 0 0] }))
local macro_rules | `(↥97)=>`((.tup [.int Z,.int X]))
local macro_rules | `(↥98)=>`((jw (jM J) (pv 0) jF (λ_ _=>rfl)))
local macro_rules | `(↥99)=>`((∀x c,X.env.cells.lookup x=some c->c≠b))
local macro_rules | `(↥100)=>`((∀b o,b∉wr->b≠S->s.heap.get? b=some o->h'.get? b=some o))
local macro_rules | `(↥101)=>`((rE PySem.Challenge.pw_firnfall_k30_whole_snouts_come_round))
local macro_rules | `(↥102)=>`((∀z H',N z H'->∃G,G<m/\W (i+1) G z H'))
local macro_rules | `(↥103)=>`((z pins s σ H _ I h))
local macro_rules | `(↥104)=>`((λw c=>yK d e r fs w (by simpa using c)))
local macro_rules | `(↥105)=>`((∀r∈rs,r.2.length<=100))
local macro_rules | `(↥106)=>`((λ_ _ _ _ _=>(pv 0)))
local macro_rules | `(↥107)=>`((jd (ja K) rfl G.b_len aH ↥33))
local macro_rules | `(↥108)=>`((Addr×List (Int×Int)))
local macro_rules | `(↥109)=>`((jd (ja K) rfl j.b_len aH (j0 ↥21 j2)))
local macro_rules | `(↥110)=>`((.Call (.Attribute o m apos) [] [] pos))
local macro_rules | `(↥111)=>`((bx "list" #[] 0))
local macro_rules | `(↥112)=>`((js (show ↥74≠bu (ao "grounds") by decide +kernel)))
local macro_rules | `(↥113)=>`((.ins C dx fs))
local macro_rules | `(↥114)=>`((fV pos (dS [] X.env)))
local macro_rules | `(↥115)=>`((·.setIfInBounds 1 (aV g1.objs.size)))
local macro_rules | `(↥116)=>`((j9 (xR bV j z rfl zw rfl (j0 jF j2))))
local macro_rules | `(↥117)=>`((HO.ins C dx ↥0))
local macro_rules | `(↥118)=>`((λb o hb e=>eb b o hb e))
local macro_rules | `(↥119)=>`((wpAny_pure ⟨_,rfl,wpAny_pure h⟩))
local macro_rules | `(↥120)=>`((by simp only [av] <;> omega))
local macro_rules | `(↥121)=>`((jg j (a.mono ⋯) rfl ↥17))
local macro_rules | `(↥122)=>`(((cW w.params).nsMap mainGlobals "__annotations__"))
local macro_rules | `(↥123)=>`((b∈X.ex\/X.s₀.heap.objs.size<=b))
local macro_rules | `(↥124)=>`((j pins s σ H _ I h))
local macro_rules | `(↥125)=>`(((d.map λi=>ns.getD i 0).map V.int))
local macro_rules | `(↥126)=>`(((jq rs).map λh=>(qr rs h).reverse))
local macro_rules | `(↥127)=>`((vj CX P w K mg base N j scope f z A outer s H E))
local macro_rules | `(↥128)=>`((λy=>hc (by simp [y])))
local macro_rules | `(↥129)=>`((Ext.put.trans Ext.put))
local macro_rules | `(↥130)=>`((List Key×Addr×ak))
local macro_rules | `(↥131)=>`((apos.endLine == cpos.line))
local macro_rules | `(↥132)=>`((j0 j5 (j0 j5 j2)))
local macro_rules | `(↥133)=>`((c.lds.set n (a,xF ns y m)))
local macro_rules | `(↥134)=>`((jw (jM m) (pv 2) jF (λ_ _=>rfl)))
local macro_rules | `(↥135)=>`((jw (jM b) (pv 0) jF (λ_ _=>rfl)))
set_option hygiene true
section
namespace HO
open PySem PySem.W PyProof.Rows PySem.Calls PySem.Spec
def view:Program:={ PySem.Challenge.pw_firnfall_k30_whole_snouts_come_round with main:={ PySem.Challenge.pw_firnfall_k30_whole_snouts_come_round.main with body:=(PySem.Challenge.pw_firnfall_k30_whole_snouts_come_round.main.body).drop 70 } }
def loose:List Str:=[ao "_wall",ao "FirnError",ao "BadValley",ao "BadRound",ao "BadWeather",ao "BadYear",ao "BadSurge",ao "NoLane",ao "NoPlace",ao "MOST_REACHES",ao "MOST_HEIGHTS",ao "GREATEST_HEIGHT",ao "MOST_LANES",ao "LONGEST_LANE",ao "is_valley",ao "is_reach",ao "leads_on",ao "fits",ao "lanes",ao "way_down",ao "way_of",ao "count_places",ao "heights",ao "HIGHEST_LINE",ao "MOST_HANDS",ao "MOST_ROWS",ao "is_weather",ao "is_round",ao "change",ao "LAST_TOLD",ao "LAST_ASKED",ao "GREATEST_SURGE",ao "check_told",ao "check_asked",ao "check_round",ao "Ice",ao "settled",ao "course",ao "lowest_ice",ao "snouts",ao "shortest",ao "_law_box",ao "_law_mixed",ao "_law_take",ao "_law_whole",ao "_law_weather",ao "_law_round",ao "_law_ground_drawn",ao "_law_reaches",ao "_law_roads",ao "_law_ground",ao "_law_year",ao "_law_scene",ao "_law_made",ao "_law_row",ao "_law_wish",ao "_law_ride",ao "_law_marks",ao "_law_news",ao "_law_depths",ao "_law_lowest",ao "_law_rows_told",ao "_law_like_row"]
section
local macro_rules | `(tactic| o_head $H)=>`(tactic| (have hook:=$H;assumption))
theorem frag (j: (↥61).Holds): (↥61).Holds:=by
 k_head
end
def asL:List Addr:=[2,3,15,17,18,20,21,22,29,30,31,32,35,42,43,44,47,54,55,56,59,66,67,68,71,78,79,80,83,90,91,92,95,102,103,104,107,114,115,116,119,122,123,124,127,128,129,131,132,134,135,136,139,140,141,144,145,146,148,149,151,152,153,155,156,158,159,160,163,164,165,168,169,170,172,173,175,176,177,180,181,182,184,185,187,188,189,191,192,194,195,196,198,199,201,202,203,205,206,208,209,217,220,221,222,224,225,227,228,229,231,232,234,235,236,238,239,241,242,243,245,246,248,249,250,252,253,255,256,257,259,260,262,263,264,266,267,269,270,271,273,274,276,277,278,280,281,283,284,285,287,288,290,291,292,294,295,297,298,299,301,302,304,305,306,309,310,311,314,315,316,318,319,321,322,323,325,326,328,329,330,332,333,335,336,337,338,339,340,341,344,347,348,349,352,353,354,357,358,359,362,363,364,366,367,369,370,371,373,374,376,377,378,380,381,383,384,385,387,388,390,391,392,394,395,397,398,399,401,402,404,405,406,409,410,411,414,415,416,419,420,421,424,425,426,428,429,431,432,433,435,436,438,439,440,443,444,445,447,448,450,451,452,454,455,457,458,459,461,462,464,465,466,469,470,471,474,475,476,478,479,481,482,483,486,487,488,491,492,493,496,497,498,500,501,503,504,505,508,509]
theorem asE (P:tI):asL=(frag.heap_1 P).map (·.1):=by kernel_rfl
def Wo:List Obj->Nat->BT->BT
 | [],_,t=>t
 | o::r,n,t=>Wo r (n+1) (t.ins n o)
noncomputable def s0T (w:bA) (os:lV):SharedT:=⟨Wo (cW w.params).objs.toList 0 .nil,(cW w.params).objs.size,(cW w.params).life,oB [],nQ,boot_toks,os⟩
noncomputable def topT (w:bA) (os:lV):Option (Flow×SharedT×Code×Pos):=PySem.W.Fast.tw10110043849684766642 PySem.W.Fast.tw14364793385576792824 PySem.Challenge.pw_firnfall_k30_whole_snouts_come_round w (cW w.params).objs.size ↥122 0 12000 (s0T w os) ↥101
noncomputable def top (w:bA) (os:lV):Option Shared:=(topT w os).map λr=>r.2.1.abs
def xt (s:Shared):Bool:=xlAt view [] s && recOk (RowW.records (OpenRow.toRowW ↥61)) s
theorem ran2 (w:bA) (os:lV):(top w os).map (λs=>(asL.map s.heap.get?,[142].map s.heap.get?))=some ((frag.heap_1 w.params).map λp=>some p.2,[142].map λ_=>some (rK #[])):=by kernel_rfl
theorem ws:OpenLaw.wellSaid PySem.Challenge.rw_firnfall_k30_whole_snouts_come_round=true:=by kernel_rfl
theorem ran1 (w:bA) (os:lV):(top w os).map (λs=>t7 view loose ↥29 xt true s)=some (t8 view loose):=by kernel_rfl
theorem ran0 (w:bA) (os:lV):(top w os).map (λs=>ph ↥29 (cW w.params) s.heap && nR PySem.Challenge.pw_firnfall_k30_whole_snouts_come_round s.heap && rM s && rN (cW w.params) s.heap)=some true:=by kernel_rfl
theorem VZ (w:bA) (os:lV):(s0T w os).abs=⟨cW w.params,oB [],nQ,boot_toks,os⟩:=by kernel_rfl
theorem JR {m:Nat}:∀{n:Nat}{s s':Shared}{t:Thread}{f:Flow}{c:Code}{q:Pos},segRun tb p w m j 0 n s t=some (f,s',c,q)->sX tb p w m j n s t=some s'
 | 0,_,_,_,_,_,_,h=>by cases h
 | n+1,s,s',t,f,c,q,h=>by
  unfold segRun at h
  unfold sX
  cases d:endAt 0 t with
  | some x =>
   rw [d] at h
   have g:through t=true:=by
    obtain ⟨e,code,pos,st⟩:=t
    cases st with
    | cons a b=>cases d
    | nil =>
     unfold endAt at d
     unfold through
     split at d
     ·rename_i _ _ _ _ u
      have l:e=_:=u
      subst l
      rfl
     ·cases d
   rw [g]
   cases h
   rfl
  | none =>
   rw [d] at h
   have g:through t=false:=by
    obtain ⟨e,code,pos,st⟩:=t
    cases st with
    | cons a b=>rfl
    | nil =>
     cases e <;> first | rfl | (rename_i x;cases x <;> first | rfl | cases d)
   rw [g]
   cases k:stepOk m j t with
   | false=>rw [k] at h;cases h
   | true =>
    rw [k] at h
    cases i:step (denote tb) p w s t with
    | halt o r=>rw [i] at h;cases h
    | go r v=>rw [i] at h;exact JR h
theorem Yn {os:lV}(e:top w os=some s):sX sV PySem.Challenge.pw_firnfall_k30_whole_snouts_come_round w (cW w.params).objs.size ↥122 12000 ⟨cW w.params,oB [],nQ,boot_toks,os⟩ ↥101=some s:=by
 obtain ⟨⟨f,b,c,q⟩,h,rfl⟩:=Option.map_eq_some_iff.mp e
 have h2:segRunT sV PySem.Challenge.pw_firnfall_k30_whole_snouts_come_round w (cW w.params).objs.size ↥122 0 12000 (s0T w os) ↥101=some (f,b,c,q):=by
  rw [PySem.W.Fast.te10110043849684766642,PySem.W.Fast.te14364793385576792824]
  exact h
 have a:=JR (segRun_of h2)
 rw [VZ] at a
 exact a
theorem UB (w:bA):((cW w.params).isNs mainGlobals && (oB []:Array GenState).size == 0)=true:=by kernel_rfl
theorem Jm {N:Nat}{h:Heap}{j d k os}(U:(h.isNs mainGlobals && j.size == 0)=true) (z:sX tb p w h.objs.size (h.nsMap mainGlobals "__annotations__") N ⟨h,j,d,k,os⟩ (rE p)=some s) (G:(ph (dM p.main.body) h s.heap && nR p s.heap && rM s && rN h s.heap)=true):topFrom tb p w N ⟨h,j,d,k,os⟩=some s:=by
 unfold topFrom
 rw [U]
 show ((sX tb p w h.objs.size (h.nsMap mainGlobals "__annotations__") N ⟨h,j,d,k,os⟩ (rE p)).bind _)=_
 rw [z]
 show (match ph (dM p.main.body) h s.heap && nR p s.heap && rM s && rN h s.heap with | true=>some s | false=>none)=_
 rw [G]
theorem ZI {N:Nat}(a:fencedOpening tb p w N=some j) (t:topFrom tb p w N j=some s):t9 tb p w N=some s:=by
 unfold t9
 rw [a]
 exact t
theorem left:LeftO (↥61).prog view loose xt (Hook.obs (pj frag.heap_1 asL asE [142])) (Hook.val (pj frag.heap_1 asL asE [142])) 12000:=λw=>by
 obtain ⟨⟨h,m,d,k,os⟩,a,b⟩:=Option.map_eq_some_iff.mp (boot_open (p:=PySem.Challenge.pw_firnfall_k30_whole_snouts_come_round) (N:=12000) (by kernel_rfl) ⋯ (λs=>by kernel_rfl) w)
 obtain ⟨rfl,rfl,rfl,rfl⟩:h=cW w.params/\m=oB []/\d=nQ/\k=boot_toks:=by simpa using b
 have c:=ran0 w os
 have h1:=ran1 w os
 have h2:=ran2 w os
 cases e:top w os with
 | none=>rw [e] at h1;cases h1
 | some s =>
  rw [e] at c h1 h2
  have l:(ph ↥29 (cW w.params) s.heap && nR PySem.Challenge.pw_firnfall_k30_whole_snouts_come_round s.heap && rM s && rN (cW w.params) s.heap)=true:=aJ c
  have j:t7 view loose ↥29 xt true s=t8 view loose:=aJ h1
  obtain ⟨i,g⟩:=Prod.mk.inj (aJ h2)
  have f:asL.map s.heap.get? = (frag.heap_1 w.params).map λp=>some p.2:=i
  have t:=ZI a (Jm (UB w) (Yn e) l)
  show (t9 sV PySem.Challenge.pw_firnfall_k30_whole_snouts_come_round w 12000).map _=_
  rw [t]
  show some (t7 view loose ↥29 xt true s,(asL.map s.heap.get?,[142].map s.heap.get?))=some (t8 view loose,_)
  rw [j,f,g]
  rfl
end HO
end
noncomputable section
namespace L2
noncomputable abbrev Key:=Sum Int Str
noncomputable def kP:Key->ak->Bool
 | .inl k,v=>Value.isInt k v
 | .inr x,v=>sJ x v
noncomputable def keyH (w:bA):Key->Int
 | .inl k=>hashInt k
 | .inr x=>hashStr w x
theorem ql:∀{k:Key}{v:ak},kP k v=true->(∃i t,k=eA i/\v=df i t)\/(∃x t,k=bu x/\v=nv x t)
 | .inl i,v,h=>by
  obtain ⟨t,e⟩:=fQ (k:=i) (v:=v) h
  exact .inl ⟨i,t,rfl,e⟩
 | .inr x,v,h=>by
  obtain ⟨t,e⟩:=nI (x:=x) (v:=v) h
  exact .inr ⟨x,t,rfl,e⟩
theorem Zn (i:Int) (t:Tok):kP (.inl i) (.int i t)=true:=by simp [kP,Value.isInt]
theorem Zp (x:Str) (t:Tok):kP (.inr x) (.str x t)=true:=by simp [kP,sJ]
theorem U4 (a b:Int):decide ((eA a:Key)=eA b)=(a == b):=by
 by_cases e:a=b
 ·subst e;simp
 ·have h:¬(eA a:Key)=eA b:=λq=>e (ff q)
  rw [decide_eq_false h]
  exact (beq_eq_false_iff_ne.mpr e).symm
theorem UI (a b:Str):decide ((bu a:Key)=bu b)=decide (a=b):=by
 by_cases e:a=b
 ·subst e;simp
 ·have h:¬(bu a:Key)=bu b:=λq=>e (Sum.inr.inj q)
  rw [decide_eq_false h,decide_eq_false e]
theorem UZ (a:Int) (b:Str):decide ((eA a:Key)=bu b)=false:=decide_eq_false (λq=>nomatch q)
theorem Ur (a:Str) (b:Int):decide ((bu a:Key)=eA b)=false:=decide_eq_false (λq=>nomatch q)
noncomputable def jC (prog:Program) (w:bA):PySem.KeyKind prog w Key where
 is:=kP
 hash:=keyH w
 inj:=λv a b ha hb=>by
  rcases ql ha with ⟨i,t,rfl,rfl⟩ | ⟨x,t,rfl,rfl⟩
  ·rcases ql hb with ⟨j,u,rfl,e⟩ | ⟨y,u,rfl,e⟩
   ·injection e with e1 _;rw [e1]
   ·exact nomatch e
  ·rcases ql hb with ⟨j,u,rfl,e⟩ | ⟨y,u,rfl,e⟩
   ·exact nomatch e
   ·injection e with e1 _;rw [e1]
 byValue:=λk v h=>by
  rcases ql h with ⟨i,t,rfl,rfl⟩ | ⟨x,t,rfl,rfl⟩ <;> rfl
 pyHash:=λhv h=>by
  rcases ql hv with ⟨i,t,rfl,rfl⟩ | ⟨x,t,rfl,rfl⟩
  ·exact wpAny_pyHash_int h
  ·exact wpAny_pyHash_str h
 eqBool:=λhu hv h=>by
  rcases ql hu with ⟨i,t,rfl,rfl⟩ | ⟨x,t,rfl,rfl⟩
  ·rcases ql hv with ⟨j,u,rfl,rfl⟩ | ⟨y,u,rfl,rfl⟩
   ·rw [U4] at h;exact lM h
   ·rw [UZ] at h;exact nU i t y u _ _ _ _ h
  ·rcases ql hv with ⟨j,u,rfl,rfl⟩ | ⟨y,u,rfl,rfl⟩
   ·rw [Ur] at h;exact nW x t j u _ _ _ _ h
   ·rw [UI] at h;exact wpAny_eqBool_str h
 «strs»:=λk x t v h=>by
  rcases ql h with ⟨i,u,rfl,e⟩ | ⟨y,u,rfl,e⟩
  ·exact nomatch e
  ·injection e with e1 _
   subst e1
   cases v <;> rfl
theorem JD (prog:Program) (w:bA) (i:Int) (t:Tok):(jC prog w).is (.inl i) (.int i t)=true:=Zn i t
theorem Qn (prog:Program) (w:bA) (x:Str) (t:Tok):(jC prog w).is (.inr x) (.str x t)=true:=Zp x t
end L2
namespace L2
inductive V where
 | non | bl (b:Bool) | int (i:Int) | str (x:Str) | byt (b:Array UInt8) | flt (b:UInt64) | ref (a:Addr) | ty (n:String)
 deriving DecidableEq
noncomputable def jy:V->ak->Prop
 | .non,u=>u=b8
 | .bl b,u=>u=lW b
 | .int i,u=>∃t,u=df i t
 | .str x,u=>∃t,u=nv x t
 | .byt b,u=>∃t,u=Value.bytes b t
 | .flt b,u=>∃t,u=pQ b t
 | .ref a,u=>u=aV a
 | .ty n,u=>u=cO n
noncomputable abbrev ju:List V->List ak->Prop:=cJ jy
theorem ju.length {xs:List V}(r:ju xs us):xs.length=us.length:=aZ r
theorem ju.get:∀{xs:List V}{us:List ak}{i:Nat}{x:V},ju xs us->xs[i]? = some x->∃u,us[i]? = some u/\jy x u
 | _,_,_,_,.nil,e=>by simp at e
 | _,_,0,_,.cons r _,e=>by simp at e;subst e;exact ⟨_,rfl,r⟩
 | _,_,i+1,x,.cons _ t,e=>by
  obtain ⟨u,h1,h2⟩:=ju.get (i:=i) (x:=x) t (by simpa using e)
  exact ⟨u,by simpa using h1,h2⟩
theorem ju.set {x:V}(r:jy x u):∀{xs:List V}{us:List ak}(i:Nat),ju xs us->ju (xs.set i x) (us.set i u)
 | _,_,_,.nil=>.nil
 | _,_,0,.cons _ t=>.cons r t
 | _,_,i+1,.cons q t=>.cons q (ju.set r i t)
theorem ju.append:∀{xs ys:List V}{us ws:List ak},ju xs us->ju ys ws->ju (xs++ys) (us++ws)
 | _,_,_,_,.nil,s=>s
 | _,_,_,_,.cons r t,s=>.cons r (ju.append t s)
theorem ju.take:∀{xs:List V}{us:List ak}(n:Nat),ju xs us->ju (xs.take n) (us.take n)
 | _,_,0,_=>.nil
 | _,_,_+1,.nil=>.nil
 | _,_,n+1,.cons r t=>.cons r (ju.take n t)
theorem ju.drop:∀{xs:List V}{us:List ak}(n:Nat),ju xs us->ju (xs.drop n) (us.drop n)
 | _,_,0,r=>r
 | _,_,_+1,.nil=>.nil
 | _,_,n+1,.cons _ t=>ju.drop n t
noncomputable def yA:Option V->Option ak->Prop
 | some v,some u=>jy v u
 | none,none=>True
 | _,_=>False
noncomputable def KV {κ:Type}:List (κ×V)->List (κ×ak)->Prop:=cJ λ(p:κ×V) (q:κ×ak)=>p.1=q.1/\jy p.2 q.2
noncomputable def kV:Key->V
 | .inl i=>.int i
 | .inr x=>.str x
inductive HO where
  | lst (xs:List V)
  | tup (xs:List V)
  | dK (kvs:List (Key×V)) | dT (kvs:List (List Key×V))
  | set (S:Int->Bool) (n:Nat)
  | ins (C dx:Addr) (fs:List (Str×V))
  | own (x:Addr)
  | xd (fs:List (Str×V))
  | met (f x:Addr)
  | rng (lo hi:Int)
  | frz (o:Obj) (u:HO)
  | tbl (ps:Array ak)
  | ext (φ:Heap->Prop)
noncomputable abbrev Hp:=Addr->Option HO
noncomputable def upd (H:Hp) (a:Addr) (o:HO):Hp:=λb=>if b=a then some o else H b
theorem j4 :upd H a o a=some o:=by unfold upd;rw [if_pos rfl]
theorem j7 {a b:Addr}(h:b≠a):upd H a o b=H b:=by unfold upd;rw [if_neg h]
theorem jm {H:Hp}(h:H a=some o) (h':H b=some u) (d:o≠u):a≠b:=by
 intro e;subst e;rw [h] at h';exact d (aJ h')
theorem j1 {H:Hp}(h:H a=some o) (h':H b=none):a≠b:=by
 intro e;subst e;rw [h] at h';cases h'
section
variable (P:Program) (w:bA)
noncomputable def qa (H:Hp) (h:Heap) (a:Addr):HO->Prop
 | .lst xs=>xs.length<=sizeLine/\∃(b:List ak) (n:Nat),ju xs b/\h.get? a=some { cls:=.type "list",data:=.seq b.toArray n }
 | .tup xs=>xs.length<=sizeLine/\∃b:List ak,ju xs b/\IsTup h a b.toArray
 | .dK kvs=>kvs.length<=sizeLine/\(a == dX)=false/\∃c,KV kvs c/\h.DictOf (jC P w) a c
 | .dT kvs=>kvs.length<=sizeLine/\(a == dX)=false/\∃xs:List ↥130,
   cJ (λ(p:List Key×V) (q:List Key×Addr×ak)=>p.1=q.1/\H q.2.1=some (.tup (p.1.map kV))/\jy p.2 q.2.2) kvs xs /\
   ∃o es d,h.get? a=some o/\o.ExactDict/\o.data = .dict es d/\es.toList=xs.map (entryOfKey (lN (jC P w)))/\(xs.map (·.1)).Nodup
 | .set S n=>h.SetOf (intKind P w) a S n
 | .ins C dx fs=>H dx=some (.own a)/\fs.length<=1000/\dx≠a/\h.get? a=some (di C dx) /\
   ∃mA,h.Ns1 dx mA/\(∀f,yA (fs.lookup f) (mA f))/\oC mA (fs.map (·.1))
 | .own _=>∃o,h.get? a=some o
 | .xd fs=>∃mA,h.Ns1 a mA/\∀f,yA (fs.lookup f) (mA f)
 | .rng lo hi=>∃t u v,h.get? a=some { cls:=.type "range",data:=.fields #[.int lo t,.int hi u,.int 1 v] }
 | .frz o u=>h.get? a=some o/\qa H h a u
 | .tbl ps=>h.get? a=some { cls:=.none,data:=.fields ps }
 | .met f x=>h.get? a=some (lA (.ref f) (.ref x))
 | .ext φ=>φ h/\(∃o,h.get? a=some o)/\∀h1 h2:Heap,φ h1->(∀o,h1.get? a=some o->h2.get? a=some o)->φ h2
noncomputable def HOk (H:Hp) (h:Heap):Prop:=∀a o,H a=some o->qa P w H h a o
end
section
variable {P:Program}{w:bA}{H H':Hp}{h h':Heap}{a:Addr}{o:HO}
theorem qa.lt (x:qa P w H h a o):a<h.objs.size:=by
 cases o with
 | lst xs=>obtain ⟨_,_,_,_,e⟩:=x;exact ax e
 | tup xs=>obtain ⟨_,_,_,p⟩:=x;exact p.lt
 | dK kvs=>obtain ⟨_,_,_,_,o,_,_,e,_⟩:=x;exact ax e
 | dT kvs=>obtain ⟨_,_,_,_,o,_,_,e,_⟩:=x;exact ax e
 | set S n=>obtain ⟨o,_,_,_,e,_⟩:=x;exact ax e
 | ins C dx fs=>obtain ⟨_,_,_,e,_⟩:=x;exact ax e
 | own y=>obtain ⟨_,e⟩:=x;exact ax e
 | xd fs=>obtain ⟨_,⟨_,_,_,e,_⟩,_⟩:=x;exact ax e
 | rng lo hi=>obtain ⟨_,_,_,e⟩:=x;exact ax e
 | frz b u=>obtain ⟨e,_⟩:=x;exact ax e
 | tbl ps=>exact ax (show h.get? a=some _ from x)
 | met f y=>exact ax (show h.get? a=some _ from x)
 | ext φ=>obtain ⟨_,⟨_,e⟩,_⟩:=x;exact ax e
theorem Paired.mapP {α β:Type}{F G:α->β->Prop}:∀{l₁:List α}{j:List β},cJ F l₁ j->(∀a b,F a b->G a b)->cJ G l₁ j
 | _,_,.nil,_=>.nil
 | _,_,.cons r t,f=>.cons (f _ _ r) (Paired.mapP t f)
theorem qa.stay (x:qa P w H h a o) (k:∀b u,(b=a\/H b=some (.own a))->h.get? b=some u->h'.get? b=some u)
  (U:∀b,H b=some (.own a)->H' b=some (.own a)) (G:∀b xs,H b=some (.tup xs)->H' b=some (.tup xs)):qa P w H' h' a o:=by
 induction o with
 | lst xs=>obtain ⟨z,j,n,r,e⟩:=x;exact ⟨z,j,n,r,k _ _ (.inl rfl) e⟩
 | tup xs=>obtain ⟨z,j,r,g,e,c⟩:=x;exact ⟨z,j,r,g,k _ _ (.inl rfl) e,c⟩
 | dK kvs=>obtain ⟨z,y,m,r,g,es,i,e,c⟩:=x;exact ⟨z,y,m,r,g,es,i,k _ _ (.inl rfl) e,c⟩
 | dT kvs =>
  obtain ⟨z,y,xs,r,g,es,i,e,c⟩:=x
  exact ⟨z,y,xs,Paired.mapP r λp q z=>⟨z.1,G _ _ z.2.1,z.2.2⟩,g,es,i,k _ _ (.inl rfl) e,c⟩
 | set S n=>obtain ⟨g,es,i,t,e,c⟩:=x;exact ⟨g,es,i,t,k _ _ (.inl rfl) e,c⟩
 | ins C dx fs =>
  obtain ⟨d,z,ne,e,mA,⟨l,es,i,A,c⟩,r⟩:=x
  exact ⟨U _ d,z,ne,k _ _ (.inl rfl) e,mA,⟨l,es,i,k _ _ (.inr d) A,c⟩,r⟩
 | own y=>obtain ⟨g,e⟩:=x;exact ⟨g,k _ _ (.inl rfl) e⟩
 | xd fs=>obtain ⟨mA,⟨l,es,i,e,c⟩,r⟩:=x;exact ⟨mA,⟨l,es,i,k _ _ (.inl rfl) e,c⟩,r⟩
 | rng lo hi=>obtain ⟨t,u,v,e⟩:=x;exact ⟨t,u,v,k _ _ (.inl rfl) e⟩
 | frz g u s=>obtain ⟨e,q⟩:=x;exact ⟨k _ _ (.inl rfl) e,s q⟩
 | tbl ps =>
  have e:h.get? a=some { cls:=.none,data:=.fields ps }:=x
  show h'.get? a=some { cls:=.none,data:=.fields ps }
  exact k a _ (.inl rfl) e
 | met f y =>
  have e:h.get? a=some (lA (.ref f) (.ref y)):=x
  show h'.get? a=some (lA (.ref f) (.ref y))
  exact k a _ (.inl rfl) e
 | ext φ=>obtain ⟨p,⟨o,e⟩,st⟩:=x;exact ⟨st _ _ p λo q=>k _ _ (.inl rfl) q,⟨o,k _ _ (.inl rfl) e⟩,st⟩
theorem HOk.lt (x:HOk P w H h) (e:H a=some o):a<h.objs.size:=(x a o e).lt
theorem HOk.fresh (x:HOk P w H h) (e:h.objs.size<=a):H a=none:=by
 cases q:H a with
 | none=>rfl
 | some u=>exact absurd (aQ (x.lt q) e) (cw _)
theorem HOk.kept (x:HOk P w H h) (k:∀b u,h.get? b=some u->h'.get? b=some u):HOk P w H h':=λa o e =>
 (x a o e).stay (λb u _ q=>k b u q) (λ_ q=>q) λ_ _ q=>q
theorem HOk.laid (x:HOk P w H h) (k:∀b u,h.get? b=some u->h'.get? b=some u) (j:h.objs.size<=a) (new:qa P w (upd H a o) h' a o):HOk P w (upd H a o) h':=λb u e=>by
 have d:=x.fresh j
 by_cases f:b=a
 ·subst f;rw [j4] at e;cases e;exact new
 ·rw [j7 f] at e
  exact (x b u e).stay (λc v _ q=>k c v q) (λc q=>by rw [j7 (j1 q d)];exact q) λc xs q=>by rw [j7 (j1 q d)];exact q
end
noncomputable def Rd (H:Hp) (a:Addr) (u:HO):Prop:=H a=some u\/∃o,H a=some (.frz o u)
theorem Rd.ok {w:bA}(r:Rd H a u) (x:HOk P w H h):qa P w H h a u:=by
 rcases r with r | ⟨o,r⟩
 ·exact x a u r
 ·obtain ⟨_,q⟩:=x a _ r
  exact q
noncomputable def Mut:Option HO->Prop
 | some (.lst _)=>True
 | some (.dK _)=>True
 | some (.dT _)=>True
 | some (.set _ _)=>True
 | some (.ins _ _ _)=>True
 | some (.ext _)=>True
 | _=>False
section
variable {P:Program}{w:bA}{H:Hp}{h h':Heap}{x e:Addr}{o':HO}
theorem HOk.write (ok:HOk P w H h) (j:Mut (H x)) (U:e=x\/H e=some (.own x)) (k:∀b u,b≠e->h.get? b=some u->h'.get? b=some u) (G:∃u,h'.get? e=some u)
  (new:qa P w (upd H x o') h' x o'):HOk P w (upd H x o') h':=λb u q=>by
 have d:∀c y,H c=some (.own y)->c≠x:=λc y r z=>by subst z;rw [r] at j;exact j
 have g:∀c xs,H c=some (.tup xs)->c≠x:=λc xs r z=>by subst z;rw [r] at j;exact j
 by_cases f:b=x
 ·subst f;rw [j4] at q;cases q;exact new
 ·rw [j7 f] at q
  by_cases a:b=e
  ·have i:H b=some (.own x):=by
    rcases U with z | z
    ·exact absurd (a.trans z) f
    ·rw [a];exact z
   rw [q] at i;cases i
   obtain ⟨v,l⟩:=G
   exact ⟨v,by rw [a];exact l⟩
  ·refine (ok b u q).stay (λc v hc r=>k c v ?_ r) (λc r=>by rw [j7 (d c b r)];exact r) λc xs r=>by rw [j7 (g c xs r)];exact r
   rcases hc with rfl | hc
   ·exact a
   ·rintro rfl
    rcases U with z | z
    ·exact d c b hc z
    ·rw [hc] at z;cases z;exact f rfl
end
structure Un (fs ex:List Addr) (H H':Hp) (h h':Heap):Prop where
 keep:∀b o,h.get? b=some o->H b=none->b∉fs->b∉ex->h'.get? b=some o
 slot:∀b o,h.get? b=some o->H b=none->b∈fs->b∉ex->∃sl,h'.get? b=some { o with slots:=sl }
 free:∀b o,h.get? b=some o->H b=none->b∉ex->H' b=none
 there:∀b o,h.get? b=some o->b∉ex->∃o',h'.get? b=some o'
 tups:∀b xs,H b=some (.tup xs)->H' b=some (.tup xs)
 frzs:∀b o u,H b=some (.frz o u)->H' b=some (.frz o u)
 tbls:∀b ps,H b=some (.tbl ps)->∃more,H' b=some (.tbl (ps++more))
section
variable {fs fs' ex ex':List Addr}{H H1 H2:Hp}{h h1 h2 h':Heap}{a x e:Addr}{o:HO}
theorem Un.any (u:Un fs ex H H1 h h1) {b:Addr}{j:Obj}(q:h.get? b=some j) (n:H b=none) (z:b∉ex):∃G,h1.get? b=some { j with slots:=G }:=by
 by_cases a:b∈fs
 ·exact u.slot b j q n a z
 ·exact ⟨j.slots,u.keep b j q n a z⟩
theorem Un.kept (k:∀b u,h.get? b=some u->h'.get? b=some u):Un fs ex H H h h' :=
 ⟨λb a q _ _ _=>k b a q,λb a q _ _ _=>⟨a.slots,k b a q⟩,λ_ _ _ n _=>n,λb a q _=>⟨a,k b a q⟩,λ_ _ q=>q,λ_ _ _ q=>q,λ_ ps q=>⟨#[],by rw [q];simp⟩⟩
theorem Un.refl:Un fs ex H H h h:=Un.kept λ_ _ q=>q
theorem Un.laid (k:∀b u,h.get? b=some u->h'.get? b=some u) (hp:h.objs.size<=a) (hn:H a=none):Un fs ex H (upd H a o) h h' where
 keep:=λb u q _ _ _=>k b u q
 slot:=λb u q _ _ _=>⟨u.slots,k b u q⟩
 free:=λb u q n _=>by rw [j7 (aC (aQ (ax q) hp))];exact n
 there:=λb u q _=>⟨u,k b u q⟩
 tups:=λb xs q=>by rw [j7 (j1 q hn)];exact q
 frzs:=λb u xs q=>by rw [j7 (j1 q hn)];exact q
 tbls:=λb ps q=>⟨#[],by rw [j7 (j1 q hn),q];simp⟩
theorem Un.write (j:Mut (H x)) (U:e=x\/H e=some (.own x)) (k:∀b u,b≠e->h.get? b=some u->h'.get? b=some u) (G:∃u,h'.get? e=some u):Un fs ex H (upd H x o) h h':=by
 have d:∀b,H b=none->b≠x:=λb n z=>by subst z;rw [n] at j;exact j
 have f:∀b,H b=none->b≠e:=λb n z=>by
  subst z
  rcases U with r | r
  ·exact d b n r
  ·rw [n] at r;cases r
 have c:∀b u,H b=some u->¬Mut (some u)->b≠x:=λb u q nm z=>by subst z;rw [q] at j;exact nm j
 refine ⟨λb u q n _ _=>k b u (f b n) q,λb u q n _ _=>⟨u.slots,k b u (f b n) q⟩,λb u q n _=>by rw [j7 (d b n)];exact n,λb u q _=>?_,
  λb xs q=>by rw [j7 (c b _ q λz=>z)];exact q,λb u xs q=>by rw [j7 (c b _ q λz=>z)];exact q,λb ps q=>⟨#[],by rw [j7 (c b _ q λz=>z),q];simp⟩⟩
 by_cases a:b=e
 ·subst a;exact G
 ·exact ⟨u,k b u a q⟩
end
noncomputable def trk (h:Heap) (H:Hp):List Addr:=(aG h.objs.size).filter λa=>(H a).isSome
noncomputable def kA (h:Heap) (H:Hp):Heap:=PySem.W.hideAll h (trk h H)
theorem Zj (h:Heap) (H:Hp):(kA h H).objs.size=h.objs.size:=PySem.W.hideAll_size _ _
theorem YX {h:Heap}{H:Hp}{b:Addr}(e:h.get? b=some o) (n:H b=none):(kA h H).get? b=some o :=
 PySem.W.hideAll_get _ e λa=>by
  have q:(H b).isSome=true:=(List.mem_filter.mp a).2
  rw [n] at q;simp at q
theorem VD {b:Addr}(e:(kA h H).get? b=some o):h.get? b=some o/\H b=none:=by
 have a:h.get? b=some o:=PySem.W.of_hideAll (trk h H) e
 refine ⟨a,?_⟩
 cases q:H b with
 | none=>rfl
 | some x =>
  have c:b∈trk h H:=List.mem_filter.mpr ⟨List.mem_range.mpr (ax a),by simp [q]⟩
  have z:(kA h H).get? b=none:=PySem.W.hideAll_none (trk h H) c
  rw [z] at e;cases e
noncomputable def Vf (g h:Heap) (L:Addr):List (Addr×Obj):=(aG h.objs.size).filterMap λa=>if a=L\/(g.get? a).isSome=true then none else (h.get? a).map λo=>(a,o)
noncomputable def yM (g h:Heap) (L d:Addr):List (Addr×Obj):=(Vf g h L).filter λp=>decide (p.1≠d)
end L2
namespace L2
structure Mod (K:ag) (mg:Str->Option ak) (base:Heap):Prop where
 kin:K.In base
 glob:base.Ns mainGlobals mg
 blt:∃mb,base.Ns lX mb/\∀x:Str,x ≠ "__name__" -> mb x=fR x
 nolimit:base.NoLimit
structure Cx where
 prog:Program
 w:bA
 K:ag
 mg:Str->Option ak
 base:Heap
 A:bI
 N:List Str
 s₀:Shared
 H₀:Hp
 env:Env
 outer:List Env
 stack:List Env
 ex:List Addr
 fn:Str->Bool
 calm:Bool
 pn:List (Addr×Obj)
 xe:ak->Shared->Prop
noncomputable def frs (l:List Env):List Addr:=l.filterMap (·.frame)
noncomputable abbrev Cx.fs (X:Cx):List Addr:=frs X.outer
noncomputable def Vis (j:Scope) (x:Str):Prop:=j.names.lookup x=some .local\/j.names.lookup x=some .cell\/j.names.lookup x=some .free
noncomputable def Loc (j:Scope) (x:Str):Prop:=j.names.lookup x=some .local\/j.names.lookup x=some .cell
noncomputable def Look (env:Env) (h:Heap) (m:Str->Option ak) (x:Str) (u:ak):Prop :=
 (env.kindOf x=some .local/\m x=some u)\/((env.kindOf x=some .cell\/env.kindOf x=some .free)/\∃c,env.cells.lookup x=some c/\h.IsCell c (some u))
structure Cx.Ok (X:Cx):Prop where
 mod:Mod X.K X.mg X.base
 kind:X.env.scope.kind = .function
 glob:X.env.globals=mainGlobals
 blt:X.env.builtins=lX
 above:X.s₀.heap.objs.size<=X.env.locals
 inj:∀x y c,X.env.cells.lookup x=some c->X.env.cells.lookup y=some c->x=y
 has:∀x,(X.env.kindOf x=some .cell\/X.env.kindOf x=some .free)->∃c,X.env.cells.lookup x=some c
 cab:∀x c,X.fn x=true->X.env.cells.lookup x=some c->X.s₀.heap.objs.size<=c
 hd:X.calm=true->X.A.handled=none
 frames:X.A.frames=some X.stack
 stk:X.stack=X.outer\/(X.stack=X.env::X.outer/\X.env.frame=some X.env.locals)
 exf:∀b∈X.ex,b≠X.env.locals/\∀x c,X.env.cells.lookup x=some c->c≠b
 bs:∀b o,X.base.get? b=some o->X.s₀.heap.get? b=some o/\X.H₀ b=none
 bsz:X.base.objs.size<=X.s₀.heap.objs.size
 noex:∀b o,X.base.get? b=some o->b∉X.ex
 exfs:∀b∈X.ex,b∉X.fs
 funs:X.s₀.heap.FunFrames X.base X.outer
 frf:∀b∈X.fs,X.H₀ b=none
structure Inv (X:Cx) (pins:List (Addr×Obj)) (σ:List (Option V)) (H:Hp) (s:Shared):Prop where
 ok:X.Ok
 os:s.os=X.s₀.os
 bare:il s.gens
 base:Un X.fs X.ex X.H₀ H X.s₀.heap s.heap
 loc:∃m,s.heap.Ns X.env.locals m/\∀(i:Nat) (x:Str) (v:V),X.N[i]? = some x->σ[i]? = some (some v)->Vis X.env.scope x->∃u,jy v u/\Look X.env s.heap m x u
 cell:∀x c,X.env.cells.lookup x=some c->∃v,s.heap.IsCell c v
 free:H X.env.locals=none
 freeC:∀x c,X.env.cells.lookup x=some c->H c=none
 pin:∀p∈X.pn++pins,s.heap.get? p.1=some p.2/\H p.1=none/\p.1≠X.env.locals/\p.1∉X.fs/\∀v,p.2.data≠.cell v
 hok:HOk X.prog X.w H s.heap
 len:σ.length=X.N.length
section
variable {X:Cx}{pins:List (Addr×Obj)}{σ:List (Option V)}{H H':Hp}{s:Shared}{h':Heap}
theorem Cx.Ok.nofr (ok:X.Ok) {b:Addr}(e:X.base.get? b=some o):b∉X.fs:=λa=>by
 have:=(ok.funs.mem a).1
 rw [e] at this;cases this
theorem Inv.bs (I:Inv X pins σ H s):∀b o,X.base.get? b=some o->s.heap.get? b=some o/\H b=none:=λb o e =>
 ⟨I.base.keep b o (I.ok.bs b o e).1 (I.ok.bs b o e).2 (I.ok.nofr e) (I.ok.noex b o e),I.base.free b o (I.ok.bs b o e).1 (I.ok.bs b o e).2 (I.ok.noex b o e)⟩
theorem Inv.bk (I:Inv X pins σ H s):∀b o,X.base.get? b=some o->s.heap.get? b=some o:=λb o e=>(I.bs b o e).1
theorem Inv.mod (I:Inv X pins σ H s):Mod X.K X.mg X.base:=I.ok.mod
theorem Inv.kIn (I:Inv X pins σ H s):X.K.In s.heap:=I.ok.mod.kin.keeps I.bk
theorem Inv.lt (I:Inv X pins σ H s):X.env.locals<s.heap.objs.size:=let ⟨_,a,_⟩:=I.loc;a.lt
theorem Inv.sz (I:Inv X pins σ H s):X.s₀.heap.objs.size<=s.heap.objs.size:=aI I.ok.above (c3 I.lt)
theorem Inv.nofs (I:Inv X pins σ H s) {a:Addr}(h:s.heap.objs.size<=a):a∉X.fs:=λc=>by
 obtain ⟨_,o,b,_⟩:=I.ok.funs.mem c
 exact absurd (aQ (ax b) (aI I.sz h)) (cw _)
theorem Inv.cne (I:Inv X pins σ H s):∀x c,X.env.cells.lookup x=some c->c≠X.env.locals:=λx c e z=>by
 obtain ⟨v,o,b,f⟩:=I.cell x c e
 obtain ⟨m,⟨o',es,g,a,d,_⟩,_⟩:=I.loc
 rw [z,a] at b;cases b;rw [d] at f;cases f
theorem Inv.funs (I:Inv X pins σ H s):s.heap.FunFrames X.base X.outer:=by
 have all:∀(l:List Env),(∀b∈frs l,b∈X.fs)->X.s₀.heap.FunFrames X.base l->s.heap.FunFrames X.base l:=by
  intro l
  induction l with
  | nil=>intro _ _;trivial
  | cons env r g =>
   intro f k
   obtain ⟨m,⟨L,o,a,j,i,n⟩,h⟩:=k
   have d:L∈X.fs:=f L (by unfold frs;rw [iO,a];exact aK)
   obtain ⟨p,e⟩:=I.base.slot L o i (I.ok.frf L d) d λz=>I.ok.exfs L z d
   exact ⟨m,⟨L,_,a,j,e,n⟩,g (λb c=>f b (by unfold frs;rw [iO,a];exact aD _ c)) h⟩
 exact all X.outer (λ_ c=>c) I.ok.funs
theorem Inv.stack (I:Inv X pins σ H s):s.heap.FunFrames X.base X.stack:=by
 rcases I.ok.stk with e | ⟨e,b⟩
 ·rw [e];exact I.funs
 ·rw [e]
  obtain ⟨m,a,_⟩:=I.loc
  refine .cons (by rw [I.ok.kind];decide) b a ?_ I.funs
  exact Heap.get?_none_of_le (aI I.ok.bsz I.ok.above)
theorem Inv.stkSub (I:Inv X pins σ H s):∀b∈frs X.stack,b∈X.env.locals::X.fs:=λb a=>by
 rcases I.ok.stk with e | ⟨e,c⟩
 ·rw [e] at a;exact aD _ a
 ·rw [e] at a
  unfold frs at a
  rw [iO,c] at a
  exact a
theorem Inv.stkFree (I:Inv X pins σ H s):∀b∈frs X.stack,H b=none:=λb hb=>by
 rcases List.mem_cons.mp (I.stkSub b hb) with e | hb
 ·rw [e];exact I.free
 ·obtain ⟨_,o,a,_⟩:=I.ok.funs.mem hb
  exact I.base.free b o a (I.ok.frf b hb) λz=>I.ok.exfs b z hb
theorem Inv.step {t':Nat}{d':Drawn}{ch:List Addr}(I:Inv X pins σ H s)
  (j:∀b∈ch,↥123/\b≠X.env.locals/\ ↥99/\∀p∈X.pn++pins,p.1≠b)
  (keep:∀b o,b≠X.env.locals->b∉X.fs->b∉ch->s.heap.get? b=some o->H b=none->h'.get? b=some o)
  (G:∀b o,b≠X.env.locals->b∈X.fs->b∉ch->s.heap.get? b=some o->H b=none->∃sl,h'.get? b=some { o with slots:=sl }) (free:∀b o,b∉ch->s.heap.get? b=some o->H b=none->H' b=none)
  (U:∀b o,b∉ch->s.heap.get? b=some o->∃o',h'.get? b=some o')
  (Y:∀b xs,H b=some (.tup xs)->H' b=some (.tup xs)) (ai:∀b o u,H b=some (.frz o u)->H' b=some (.frz o u)) (ab:∀b ps,H b=some (.tbl ps)->∃ac,H' b=some (.tbl (ps++ac)))
  (ns:∀m,s.heap.Ns X.env.locals m->h'.Ns X.env.locals m) (hok:HOk X.prog X.w H' h') (hg:il g') :
  Inv X pins σ H' { s with heap:=h',gens:=g',drawn:=d',toks:=t' }:=by
 have neL:∀b o,X.s₀.heap.get? b=some o->b≠X.env.locals:=λb o e=>aC (aQ (ax e) I.ok.above)
 have t:∀b o,X.s₀.heap.get? b=some o->b∉X.ex->b∉ch:=λb o e a h=>by
  rcases (j b h).1 with z | z
  ·exact a z
  ·exact absurd (aQ (ax e) z) (cw _)
 have y:∀x c,X.env.cells.lookup x=some c->∀v,s.heap.IsCell c v->h'.IsCell c v:=λx c e v ⟨o,A,C⟩=>by
  have g:c∉ch:=λz=>(j c z).2.2.1 x c e rfl
  by_cases K:c∈X.fs
  ·obtain ⟨sl,q⟩:=G c o (I.cne x c e) K g A (I.freeC x c e)
   exact ⟨_,q,C⟩
  ·exact ⟨o,keep c o (I.cne x c e) K g A (I.freeC x c e),C⟩
 refine ⟨I.ok,I.os,hg,⟨λb o e n h a=>?_,λb o e n h a=>?_,λb o e n a=>?_,λb o e a=>?_,λb xs e=>Y b xs (I.base.tups b xs e),λb o xs e=>ai b o xs (I.base.frzs b o xs e),λb ps e=>?_⟩,?_,λx c e=>?_,?_,λx c e=>?_,λp J=>?_,hok,I.len⟩
 ·exact keep b o (neL b o e) h (t b o e a) (I.base.keep b o e n h a) (I.base.free b o e n a)
 ·obtain ⟨sl,f⟩:=I.base.slot b o e n h a
  obtain ⟨D,B⟩:=G b _ (neL b o e) h (t b o e a) f (I.base.free b o e n a)
  exact ⟨D,B⟩
 ·obtain ⟨o',f⟩:=I.base.there b o e a
  exact free b o' (t b o e a) f (I.base.free b o e n a)
 ·obtain ⟨o',f⟩:=I.base.there b o e a
  exact U b o' (t b o e a) f
 ·obtain ⟨M,f⟩:=I.base.tbls b ps e
  obtain ⟨L,B⟩:=ab b _ f
  exact ⟨M++L,by rw [B,Array.append_assoc]⟩
 ·obtain ⟨m,N,O⟩:=I.loc
  refine ⟨m,ns m N,λi x v f B P=>?_⟩
  obtain ⟨u,r,l⟩:=O i x v f B P
  refine ⟨u,r,?_⟩
  rcases l with l | ⟨k,c,e,z⟩
  ·exact .inl l
  ·exact .inr ⟨k,c,e,y x c e _ z⟩
 ·obtain ⟨v,z⟩:=I.cell x c e
  exact ⟨v,y x c e v z⟩
 ·obtain ⟨m,⟨o,_,_,A,_⟩,_⟩:=I.loc
  exact free _ o (λz=>(j _ z).2.1 rfl) A I.free
 ·obtain ⟨v,o,A,C⟩:=I.cell x c e
  exact free c o (λz=>(j c z).2.2.1 x c e rfl) A (I.freeC x c e)
 ·obtain ⟨e,n,ne,E,d⟩:=I.pin p J
  have g:p.1∉ch:=λz=>(j p.1 z).2.2.2 p J rfl
  exact ⟨keep p.1 p.2 ne E g e n,free p.1 p.2 g e n,ne,E,d⟩
theorem Inv.un {t':Nat}(I:Inv X pins σ H s) (u:Un X.fs [] H H' s.heap h') (hok:HOk X.prog X.w H' h'):Inv X pins σ H' { s with heap:=h',toks:=t' }:=by
 obtain ⟨m,⟨o,es,p,d,r⟩,_⟩:=id I.loc
 obtain ⟨k,j⟩:=u.any d I.free (by simp)
 exact I.step (g':=s.gens) (d':=s.drawn) (ch:=[]) (λ_ z=>nomatch z) (λb o _ c _ e n=>u.keep b o e n c (by simp)) (λb o _ c _ e n=>u.slot b o e n c (by simp)) (λb o _ e n=>u.free b o e n (by simp)) (λb o _ e=>u.there b o e (by simp)) u.tups u.frzs u.tbls (λl i=>by
  obtain ⟨o',f,g,a,h⟩:=i
  rw [d] at a;cases a
  exact ⟨_,f,g,j,h⟩) hok I.bare
theorem Inv.call {t':Nat}{d':Drawn}{ch:List Addr}(I:Inv X pins σ H s) (u:Un (frs X.stack) ch H H' s.heap h') (hok:HOk X.prog X.w H' h') (G:il g')
  (j:∀b∈ch,↥123/\b≠X.env.locals/\ ↥99/\∀p∈X.pn++pins,p.1≠b) :
  Inv X pins σ H' { s with heap:=h',gens:=g',drawn:=d',toks:=t' }:=by
 obtain ⟨m,⟨o,es,y,g,r⟩,_⟩:=id I.loc
 obtain ⟨t,f⟩:=u.any g I.free λz=>(j _ z).2.1 rfl
 exact I.step (ch:=ch) j (λb o f q a e n=>u.keep b o e n (λz=>(List.mem_cons.mp (I.stkSub b z)).elim f q) a) (λb o _ _ a e n=>u.any e n a) (λb o a e n=>u.free b o e n a) (λb o a e=>u.there b o e a) u.tups u.frzs u.tbls (λv l=>by
  obtain ⟨o',h,i,d,k⟩:=l
  rw [g] at d;cases d
  exact ⟨_,h,i,f,k⟩) hok G
theorem Inv.turned {t':Nat}{it:Addr}(I:Inv X pins σ H s) (k:∀b o,b≠it->s.heap.get? b=some o->h'.get? b=some o) (G:H it=none) (j:it≠X.env.locals)
  (h1:it∈X.ex\/X.s₀.heap.objs.size<=it) (h2:∀x c,X.env.cells.lookup x=some c->c≠it) (U:∀p∈X.pn++pins,p.1≠it):Inv X pins σ H { s with heap:=h',toks:=t' }:=by
 have d:∀b u,H b=some u->b≠it:=λb u e z=>by rw [z,G] at e;cases e
 refine I.step (g':=s.gens) (d':=s.drawn) (ch:=[it]) (λb h=>?_) (λb o _ _ a e _=>k b o (λz=>a (by simp [z])) e) (λb o _ _ a e _=>⟨o.slots,k b o (λz=>a (by simp [z])) e⟩) (λ_ _ _ _ n=>n)
  (λb o a e=>⟨o,k b o (λz=>a (by simp [z])) e⟩) (λ_ _ e=>e) (λ_ _ _ e=>e) (λb ps e=>⟨#[],by rw [e];simp⟩) (λm g=>?_) (λb u e=>?_) I.bare
 ·have e:b=it:=by simpa using h
  subst e
  exact ⟨h1,j,h2,U⟩
 ·obtain ⟨o,es,i,f,r⟩:=g
  exact ⟨o,es,i,k _ o (cC j) f,r⟩
 ·refine (I.hok b u e).stay (λc v a q=>k c v ?_ q) (λ_ q=>q) λ_ _ q=>q
  rcases a with z | z
  ·rw [z];exact d b u e
  ·exact d c _ z
theorem Inv.tok (I:Inv X pins σ H s) (t:Nat):Inv X pins σ H { s with toks:=t }:=I.un (h':=s.heap) (t':=t) Un.refl I.hok
theorem Inv.kept {t':Nat}(I:Inv X pins σ H s) (k:∀b u,s.heap.get? b=some u->h'.get? b=some u):Inv X pins σ H { s with heap:=h',toks:=t' }:=I.un (Un.kept k) (I.hok.kept k)
theorem Inv.laid {a:Addr}{t':Nat}(I:Inv X pins σ H s) (k:∀b u,s.heap.get? b=some u->h'.get? b=some u) (j:s.heap.objs.size<=a) (new:qa X.prog X.w (upd H a o) h' a o) :
  Inv X pins σ (upd H a o) { s with heap:=h',toks:=t' }:=I.un (Un.laid k j (I.hok.fresh j)) (I.hok.laid k j new)
theorem Inv.write {x e:Addr}{t':Nat}(I:Inv X pins σ H s) (z:Mut (H x)) (G:e=x\/H e=some (.own x)) (k:∀b u,b≠e->s.heap.get? b=some u->h'.get? b=some u) (j:∃u,h'.get? e=some u)
  (new:qa X.prog X.w (upd H x o) h' x o):Inv X pins σ (upd H x o) { s with heap:=h',toks:=t' }:=I.un (Un.write z G k j) (I.hok.write z G k j new)
theorem Inv.pins_of {j:List (Addr×Obj)}(I:Inv X pins σ H s) (h:∀p∈j,s.heap.get? p.1=some p.2/\H p.1=none/\p.1≠X.env.locals/\p.1∉X.fs/\∀v,p.2.data≠.cell v):Inv X j σ H s :=
 ⟨I.ok,I.os,I.bare,I.base,I.loc,I.cell,I.free,I.freeC,λp a=>(List.mem_append.mp a).elim (λz=>I.pin p (d9 _ z)) (h p),I.hok,I.len⟩
theorem Jy {N:List Str}(z:N.Nodup) {i j:Nat}(a:N[i]? = some x) (b:N[j]? = some x):i=j:=by
 obtain ⟨h1,d⟩:=List.getElem?_eq_some_iff.mp a
 obtain ⟨h2,c⟩:=List.getElem?_eq_some_iff.mp b
 exact (List.getElem_inj z).mp (d.trans c.symm)
theorem gk {i:Nat}{Q:Unit->Shared->Prop}(I:Inv X pins σ H s) (hN:X.N.Nodup) (hi:X.N[i]? = some x) (G:Loc X.env.scope x) (r:jy v u)
  (h:∀s',Inv X pins (σ.set i (some v)) H s'->(∃a,eM a s.heap s'.heap/\(a=X.env.locals\/X.env.cells.lookup x=some a))->Q () s') (hf:X.fn x=true\/X.env.scope.names.lookup x=some .local:=by first | exact .inl rfl | exact .inr rfl | assumption):aA M A (storeName X.env x u) Q E s:=by
 obtain ⟨m,hn,hl⟩:=id I.loc
 have ac:(X.env.scope.kind == .class || (X.env.scope.kind == .module && X.env.locals != X.env.globals))=false:=by rw [I.ok.kind];rfl
 have P:i<σ.length:=by rw [I.len];exact (List.getElem?_eq_some_iff.mp hi).1
 have cne:=I.cne
 have l:∀{a:Addr} {h':Heap},(∃o,s.heap.get? a=some o/\H a=none)->eM a s.heap h'->HOk X.prog X.w H h':=λ{a h'} ha f b ob e=>by
  obtain ⟨_,_,D⟩:=ha
  refine (I.hok b ob e).stay (λc K hc q=>(f.2 c ?_).trans q) (λ_ q=>q) λ_ _ q=>q
  rintro rfl
  rcases hc with rfl | hc
  ·rw [D] at e;cases e
  ·rw [D] at hc;cases hc
 rcases G with hk | hk
 ·refine wpAny_storeName_local hk hn (λh' al f=>?_) ac
  obtain ⟨oL,_,_,ai,_⟩:=id hn
  refine h _ ⟨I.ok,I.os,I.bare,⟨λb o e n C G=>?_,λb o e n C G=>?_,I.base.free,λb o e G=>?_,I.base.tups,I.base.frzs,I.base.tbls⟩,⟨_,al,λj y T g t e3=>?_⟩,λy c e=>?_,I.free,I.freeC,λp hp=>?_,l ⟨oL,ai,I.free⟩ f,by simpa using I.len⟩ ⟨_,f,.inl rfl⟩
  ·exact (f.2 b (aC (aQ (ax e) I.ok.above))).trans (I.base.keep b o e n C G)
  ·obtain ⟨V,g⟩:=I.base.slot b o e n C G
   exact ⟨V,(f.2 b (aC (aQ (ax e) I.ok.above))).trans g⟩
  ·obtain ⟨o',g⟩:=I.base.there b o e G
   exact ⟨o',(f.2 b (aC (aQ (ax e) I.ok.above))).trans g⟩
  ·by_cases B:j=i
   ·subst B
    rw [hi] at g;cases g
    rw [lY P] at t
    cases t
    exact ⟨u,r,.inl ⟨hk,by simp⟩⟩
   ·rw [mM (cC B)] at t
    obtain ⟨U,Y,q⟩:=hl j y T g t e3
    refine ⟨U,Y,?_⟩
    rcases q with ⟨k,e⟩ | ⟨k,c,e,z⟩
    ·refine .inl ⟨k,?_⟩
     have:y≠x:=λe=>B (Jy hN g (e ▸ hi))
     simp [this,e]
    ·exact .inr ⟨k,c,e,z.sameBut f (cne y c e)⟩
  ·obtain ⟨K,z⟩:=I.cell y c e
   exact ⟨K,z.sameBut f (cne y c e)⟩
  ·obtain ⟨e,n,ne,Z,d⟩:=I.pin p hp
   exact ⟨(f.2 p.1 ne).trans e,n,ne,Z,d⟩
 ·have J:X.fn x=true:=by
   rcases hf with z | z
   ·exact z
   ·rw [z] at hk;cases hk
  obtain ⟨c,hc⟩:=I.ok.has x (.inl hk)
  obtain ⟨K,z⟩:=I.cell x c hc
  refine wpAny_storeName_cell I.ok.kind hk hc z (λh' S f=>?_)
  obtain ⟨oc,O,ab⟩:=id z
  refine h { s with heap:=h' } ⟨I.ok,I.os,I.bare,⟨λb o e n C G=>?_,λb o e n C G=>?_,I.base.free,λb o e G=>?_,I.base.tups,I.base.frzs,I.base.tbls⟩,⟨m,hn.sameBut f (cC (cne x c hc)),λj y T g t e3=>?_⟩,λy L e=>?_,I.free,I.freeC,λp hp=>?_,l ⟨oc,O,I.freeC x c hc⟩ f,by simpa using I.len⟩ ⟨c,f,.inr hc⟩
  ·exact (f.2 b (aC (aQ (ax e) (I.ok.cab x c J hc)))).trans (I.base.keep b o e n C G)
  ·obtain ⟨V,g⟩:=I.base.slot b o e n C G
   exact ⟨V,(f.2 b (aC (aQ (ax e) (I.ok.cab x c J hc)))).trans g⟩
  ·obtain ⟨o',g⟩:=I.base.there b o e G
   exact ⟨o',(f.2 b (aC (aQ (ax e) (I.ok.cab x c J hc)))).trans g⟩
  ·by_cases B:j=i
   ·subst B
    rw [hi] at g;cases g
    rw [lY P] at t
    cases t
    exact ⟨u,r,.inr ⟨.inl hk,c,hc,S⟩⟩
   ·rw [mM (cC B)] at t
    obtain ⟨U,Y,q⟩:=hl j y T g t e3
    refine ⟨U,Y,?_⟩
    rcases q with q | ⟨k,L,e,z'⟩
    ·exact .inl q
    ·refine .inr ⟨k,L,e,z'.sameBut f ?_⟩
     rintro rfl
     exact B (Jy hN g (I.ok.inj _ _ _ e hc ▸ hi))
  ·by_cases R:L=c
   ·subst R;exact ⟨_,S⟩
   ·obtain ⟨w2,z2⟩:=I.cell y L e
    exact ⟨w2,z2.sameBut f R⟩
  ·obtain ⟨e,n,ne,Z,d⟩:=I.pin p hp
   refine ⟨(f.2 p.1 ?_).trans e,n,ne,Z,d⟩
   intro q
   rw [q,O] at e
   have q':oc=p.2:=aJ e
   exact d K (by rw [<- q'];exact ab)
theorem Qu {i:Nat}{Q:Unit->Shared->Prop}(I:Inv X pins σ H s) (G:X.N.Nodup) (hi:X.N[i]? = some x) (j:Loc X.env.scope x) (r:jy v u)
  (h:∀s',Inv X pins (σ.set i (some v)) H s'->Q () s') (z:X.fn x=true\/X.env.scope.names.lookup x=some .local:=by first | exact .inl rfl | exact .inr rfl | assumption):aA M A (storeName X.env x u) Q E s :=
 gk I G hi j r (λs' a _=>h s' a) z
theorem Inv.call' {s':Shared}{ch:List Addr}(I:Inv X pins σ H s) (z:s'.os=s.os) (u:Un (frs X.stack) ch H H' s.heap s'.heap) (hok:HOk X.prog X.w H' s'.heap) (G:il s'.gens)
  (j:∀b∈ch,↥123/\b≠X.env.locals/\ ↥99/\∀p∈X.pn++pins,p.1≠b):Inv X pins σ H' s':=by
 obtain ⟨h',g',d',t',o'⟩:=s'
 have e:o'=s.os:=z
 subst e
 exact I.call (g':=g') (t':=t') (d':=d') u hok G j
end
noncomputable abbrev XK:=ak->Option Addr->Hp->Prop
noncomputable abbrev St:=List (Option V)
noncomputable abbrev VK:=V->Hp->Prop
noncomputable abbrev TE:=St->Hp->VK->Prop
noncomputable abbrev TT:=St->Hp->(Bool->Hp->Prop)->Prop
noncomputable abbrev TA:=St->Hp->(List V->Hp->Prop)->Prop
structure Ends where
 nx:St->Hp->Prop
 rt:VK
 bk:St->Hp->Prop:=λ_ _=>False
 ct:St->Hp->Prop:=λ_ _=>False
noncomputable abbrev TS:=Ends->St->Hp->Prop
noncomputable def EP (X:Cx) (pins:List (Addr×Obj)) (σ:St) (Q:VK) (u:ak) (s':Shared):Prop:=∃v H',Inv X pins σ H' s'/\jy v u/\Q v H'
noncomputable def TP (X:Cx) (pins:List (Addr×Obj)) (σ:St) (Q:Bool->Hp->Prop) (b:Bool) (s':Shared):Prop:=∃H',Inv X pins σ H' s'/\Q b H'
noncomputable def AP (X:Cx) (pins:List (Addr×Obj)) (σ:St) (Q:List V->Hp->Prop) (us:List ak) (s':Shared):Prop:=∃a H',Inv X pins σ H' s'/\ju a us/\Q a H'
noncomputable def SP (X:Cx) (pins:List (Addr×Obj)) (D:Ends) (f:Flow) (s':Shared):Prop :=
 match f with
 | .next=>∃a H',Inv X pins a H' s'/\D.nx a H'
 | .brk=>∃a H',Inv X pins a H' s'/\D.bk a H'
 | .cont=>∃a H',Inv X pins a H' s'/\D.ct a H'
 | .ret u=>∃v a H',Inv X pins a H' s'/\jy v u/\D.rt v H'
noncomputable def PE (X:Cx) (e:Expr) (t:TE):Prop :=
 ∀(pins:List (Addr×Obj)) (s:Shared) (σ:St) (H:Hp) (Q:VK),Inv X pins σ H s->t σ H Q->aA ↥2 X.A (eval e X.env) ↥51 X.xe s
noncomputable def PT (X:Cx) (e:Expr) (t:TT):Prop :=
 ∀(pins:List (Addr×Obj)) (s:Shared) (σ:St) (H:Hp) (Q:Bool->Hp->Prop),Inv X pins σ H s->t σ H Q->aA ↥2 X.A (isTrue e X.env (eval e X.env)) (TP X pins σ Q) X.xe s
noncomputable def PW (X:Cx) (e:Expr) (t:TT):Prop :=
 ∀(a:Sem ak) (pins:List (Addr×Obj)) (s:Shared) (σ:St) (H:Hp) (Q:Bool->Hp->Prop),Inv X pins σ H s->t σ H Q->aA ↥2 X.A (isTrue e X.env a) (TP X pins σ Q) X.xe s
theorem PW.pt {X:Cx}{e:Expr}(h:PW X e t):PT X e t:=h _
noncomputable def PA (X:Cx) (es:List Expr) (t:TA):Prop :=
 ∀(pos:Pos) (pins:List (Addr×Obj)) (s:Shared) (σ:St) (H:Hp) (Q:List V->Hp->Prop),Inv X pins σ H s->t σ H Q->aA ↥2 X.A (spliced ↥66) (AP X pins σ Q) X.xe s
noncomputable def PS (X:Cx) (st:Stmt) (t:TS):Prop :=
 ∀(pins:List (Addr×Obj)) (s:Shared) (σ:St) (H:Hp) (D:Ends),Inv X pins σ H s->t D σ H->aA ↥2 X.A (exec st X.env) (SP X pins D) X.xe s
noncomputable def PSs (X:Cx) (st:List Stmt) (t:TS):Prop :=
 ∀(pins:List (Addr×Obj)) (s:Shared) (σ:St) (H:Hp) (D:Ends),Inv X pins σ H s->t D σ H->aA ↥2 X.A (execs st X.env) (SP X pins D) X.xe s
theorem thn {α:Type}{t:Sem α}{Q j:α->Shared->Prop}{M:Model}{A:bI}{E:ak->Shared->Prop}{s:Shared}(h:aA M A t Q E s) (z:∀a s,Q a s->j a s):aA M A t j E s:=bb h z λ_ _ x=>x
end L2
namespace L2
section
variable {X:Cx}
theorem bin {a b:Expr}{ta tb:TE}(ha:PE X a ta) (Y:PE X b tb) {pins:List (Addr×Obj)}{s:Shared}{σ:St}{H:Hp}{R:V->V->Hp->Prop}(I:Inv X pins σ H s) (h:ta σ H λx H1=>tb σ H1 λy H2=>R x y H2)
  {α:Type} {Q:α->Shared->Prop} {f:ak->ak->Sem α}
  (U:∀v u j x y H2,Inv X pins σ H2 j->jy x v->jy y u->R x y H2->aA ↥2 X.A (f v u) Q X.xe j) :
  aA ↥2 X.A (eval a X.env) (λv G=>aA ↥2 X.A (eval b X.env) (λu z=>aA ↥2 X.A (f v u) Q X.xe z) X.xe G) X.xe s:=by
 refine thn (ha pins s σ H _ I h) λv s1 ⟨x,H1,k,d,g⟩=>?_
 refine thn (Y pins s1 σ H1 _ k g) λu j ⟨y,H2,i,c,e⟩=>?_
 exact U v u j x y H2 i d c e
inductive tVar (i:Nat) (σ:St) (H:Hp) (Q:VK):Prop
 | mk (v:_) (zz1:σ[i]? = some (some v)) (zz2:Q v H)
noncomputable def tC (v:V):TE:=λ_ H Q=>Q v H
theorem Ui {i:Nat}(U:X.N[i]? = some x) (G:Vis X.env.scope x) (j: ↥24=false:=by decide) (z:(x == ("__classdict__" : Str))=false:=by decide):PE X (.Name x pos) (tVar i):=by
 intro pins s σ H Q I h
 obtain ⟨v,e,h⟩:=h
 obtain ⟨m,f,k⟩:=I.loc
 obtain ⟨u,r,l⟩:=k i x v U e G
 have b:EP X pins σ Q u s:=⟨v,H,I,r,h⟩
 rcases l with ⟨hk,g⟩ | ⟨hk,c,d,a⟩
 ·exact rO (wpAny_loadName_local I.ok.kind hk f g b) j
 ·rcases hk with hk | hk
  ·exact rO (wpAny_loadName_cell I.ok.kind hk d a b) j
  ·exact rO (wpAny_loadName_free I.ok.kind hk d a b z) j
theorem j5 {i j pos}:PE X (.Constant (.int i) j pos) (tC (.int i)):=λ_ _ _ H _ I h=>wpAny_Constant_int ⟨.int i,H,I.tok _,⟨_,rfl⟩,h⟩
theorem yy {b j pos}:PE X (.Constant (.bool b) j pos) (tC (.bl b)):=λ_ _ _ H _ I h=>Constant_bool ⟨.bl b,H,I,rfl,h⟩
theorem Xu {j pos}:PE X (.Constant .none j pos) (tC .non):=λ_ _ _ H _ I h=>Constant_none ⟨.non,H,I,rfl,h⟩
theorem jF {x j pos}:PE X (.Constant (.str x) j pos) (tC (.str x)):=λ_ _ _ H _ I h=>Calls.Constant_str ⟨.str x,H,I.tok _,⟨_,rfl⟩,h⟩
noncomputable def Gl (X:Cx) (x:Str):Prop:=X.env.kindOf x=some .globalImplicit
theorem yR {Q:ak->Shared->Prop}(I:Inv X pins σ H s) (z:Gl X x) (j:X.mg x=some u) (h:Q u s)
  (G: ↥24=false:=by decide):aA ↥2 X.A (eval (.Name x pos) X.env) Q E s :=
 iW I.ok.kind z (Calls.loadGlobal_global (by rw [I.ok.glob];exact I.mod.glob.keeps I.bk) j h) G
theorem zh {Q:ak->Shared->Prop}(I:Inv X pins σ H s) (U:Gl X x) (G:X.mg x=none) (j:fR x=some u) (h:Q u s)
  (z:x ≠ "__name__":=by decide) (Y: ↥24=false:=by decide):aA ↥2 X.A (eval (.Name x pos) X.env) Q E s:=by
 obtain ⟨a,h1,h2⟩:=I.mod.blt
 exact iW I.ok.kind U (Calls.loadGlobal_builtin (by rw [I.ok.glob];exact I.mod.glob.keeps I.bk) G (by rw [I.ok.blt];exact h1.keeps I.bk) ((h2 x z).trans j) h) Y
theorem xu (z:Gl X x) (j:X.mg x=some u) (r:jy v u) (G: ↥24=false:=by decide):PE X (.Name x pos) (tC v) :=
 λ_ _ _ H _ I h=>yR I z j ⟨v,H,I,r,h⟩ G
theorem uZ (U:Gl X x) (G:X.mg x=none) (j:fR x=some u) (r:jy v u) (z:x ≠ "__name__":=by decide) (Y: ↥24=false:=by decide):PE X (.Name x pos) (tC v) :=
 λ_ _ _ H _ I h=>zh I U G j ⟨v,H,I,r,h⟩ z Y
variable {a b:Expr}{ta tb:TE}{pos:Pos}
noncomputable def PC (X:Cx) (j:CmpOp) (a b:Expr) (t:TE):Prop :=
 ∀(pins:List (Addr×Obj)) (s:Shared) (σ:St) (H:Hp) (Q:VK),Inv X pins σ H s->t σ H Q ->
  aA ↥2 X.A (eval a X.env) (λv d=>aA ↥2 X.A (eval b X.env) (λu c=>aA ↥2 X.A (cn j v u) ↥51 X.xe c) X.xe d) X.xe s
theorem YN (b:Expr) {j:CmpOp}(h:j≠.In) (h2:j≠.NotIn):eU j b=false:=by
 have c:(j == CmpOp.In)=false:=by cases j <;> first | rfl | exact absurd rfl h
 have a:(j == CmpOp.NotIn)=false:=by cases j <;> first | rfl | exact absurd rfl h2
 cases b <;> simp [eU,c,a]
inductive tBI (Q:Bool->Hp->Prop) (x:V) (H1:Hp):Prop
 | mk (c:_) (zz1:x = .bl c) (zz2:Q c H1)
noncomputable def tB (t:TE):TT:=λσ H Q=>t σ H λx H1=>tBI Q x H1
theorem US (h:PC X j a b t) (h1:eU j b=false:=by first | exact YN _ ⋯ ⋯ | rfl):PT X (.Compare a [j] [b] pos) (tB t):=by
 intro pins s σ H Q I g
 refine mI (thn (h pins s σ H _ I g) λv s1 h1=>thn h1 λu l h2=>thn h2 λc k ⟨x,H1,i,e,f⟩=>?_) h1
 obtain ⟨d,rfl,q⟩:=f
 cases e
 exact bT ⟨H1,i,q⟩
theorem zp (h:PE X e t) (z:∀j,isTrue e X.env j=(do let v <- j;dQ e.pos;dG [v] (tJ v)):=by intro _;rfl):PT X e (tB t):=by
 intro pins s σ H Q I c
 refine isTrue_plain (thn (h pins s σ H _ I c) λv s1 ⟨x,H1,f,a,b⟩=>?_) (z _)
 obtain ⟨d,rfl,q⟩:=b
 cases a
 exact bT ⟨H1,f,q⟩
variable {tA tB':TT}{yM:List Expr}
noncomputable def tAnd (t u:TT):TT:=λσ H Q=>t σ H λc H1=>if c=true then u σ H1 Q else Q false H1
noncomputable def tOr (t u:TT):TT:=λσ H Q=>t σ H λc H1=>if c=true then Q true H1 else u σ H1 Q
noncomputable def tNot (t:TT):TT:=λσ H Q=>t σ H λc H1=>Q (!c) H1
theorem vX (j:PT X a tA):PW X (.BoolOp .And [a] pos) tA:=by
 intro b pins s σ H Q I h
 refine isTrue_and (thn (j pins s σ H Q I h) λc s1 e=>?_)
 cases c with
 | true=>exact isTrue_and_nil e
 | false=>exact e
theorem J6 (j:PT X a tA):PW X (.BoolOp .Or [a] pos) tA:=by
 intro b pins s σ H Q I h
 refine isTrue_or (thn (j pins s σ H Q I h) λc s1 e=>?_)
 cases c with
 | false=>exact isTrue_or_nil e
 | true=>exact e
theorem wS (z:PT X a tA) (j:PW X (.BoolOp .And (b::yM) pos) tB'):PW X (.BoolOp .And (a::b::yM) pos) (tAnd tA tB'):=by
 intro f pins s σ H Q I h
 refine isTrue_and (thn ↥103 λc s1 ⟨H1,e,d⟩=>?_)
 cases c with
 | true=>exact j f pins s1 σ H1 Q e d
 | false=>exact ⟨H1,e,d⟩
theorem JJ (z:PT X a tA) (j:PW X (.BoolOp .Or (b::yM) pos) tB'):PW X (.BoolOp .Or (a::b::yM) pos) (tOr tA tB'):=by
 intro f pins s σ H Q I h
 refine isTrue_or (thn ↥103 λc s1 ⟨H1,e,d⟩=>?_)
 cases c with
 | true=>exact ⟨H1,e,d⟩
 | false=>exact j f pins s1 σ H1 Q e d
theorem qL (j:PT X a tA):PT X (.UnaryOp .Not a pos) (tNot tA):=by
 intro pins s σ H Q I h
 exact isTrue_not (j pins s σ H (λc H1=>Q (!c) H1) I h)
inductive tAndVI (tb:TE) (σ:St) (Q:VK) (x:V) (H1:Hp):Prop
 | mk (c:_) (zz1:x = .bl c) (zz2:if c=true then tb σ H1 Q else Q (.bl false) H1)
noncomputable def WU (ta tb:TE):TE:=λσ H Q=>ta σ H λx H1=>tAndVI tb σ Q x H1
inductive tOrVI (tb:TE) (σ:St) (Q:VK) (x:V) (H1:Hp):Prop
 | mk (c:_) (zz1:x = .bl c) (zz2:if c=true then Q (.bl true) H1 else tb σ H1 Q)
noncomputable def tOrV (ta tb:TE):TE:=λσ H Q=>ta σ H λx H1=>tOrVI tb σ Q x H1
inductive tNotVI (Q:VK) (x:V) (H1:Hp):Prop
 | mk (c:_) (zz1:x = .bl c) (zz2:Q (.bl (!c)) H1)
noncomputable def WM (ta:TE):TE:=λσ H Q=>ta σ H λx H1=>tNotVI Q x H1
theorem k8 {j}(h:PE X a t):PE X (.BoolOp j [a] pos) t:=λpins s σ H Q I b=>BoolOp_one (h pins s σ H Q I b)
theorem wT (z:PE X a ta) (j:PE X (.BoolOp .And (b::yM) pos) tb):PE X (.BoolOp .And (a::b::yM) pos) (WU ta tb):=by
 intro pins s σ H Q I h
 refine BoolOp_and (thn ↥103 λv s1 ⟨x,H1,e,f,d⟩=>?_)
 obtain ⟨c,rfl,d⟩:=d
 cases f
 refine bT ?_
 cases c with
 | true=>exact j pins s1 σ H1 Q e d
 | false=>exact ⟨.bl false,H1,e,rfl,d⟩
theorem WK (z:PE X a ta) (j:PE X (.BoolOp .Or (b::yM) pos) tb):PE X (.BoolOp .Or (a::b::yM) pos) (tOrV ta tb):=by
 intro pins s σ H Q I h
 refine BoolOp_or (thn ↥103 λv s1 ⟨x,H1,e,f,d⟩=>?_)
 obtain ⟨c,rfl,d⟩:=d
 cases f
 refine bT ?_
 cases c with
 | false=>exact j pins s1 σ H1 Q e d
 | true=>exact ⟨.bl true,H1,e,rfl,d⟩
theorem Ub (j:PE X a ta):PE X (.UnaryOp .Not a pos) (WM ta):=by
 intro pins s σ H Q I h
 refine UnaryOp_ (thn ↥124 λv s1 ⟨x,H1,e,d,b⟩=>?_)
 obtain ⟨c,rfl,b⟩:=b
 cases d
 exact not_of (bT ⟨.bl (!c),H1,e,rfl,b⟩)
end
end L2
namespace L2
noncomputable def SqL (K:ag) (H:Hp) (a:Addr) (xs:List V):Prop :=
 Rd H a (.lst xs) \/
  ∃(o:Obj) (b:Array ak) (n:Nat),K.lookup a=some o/\o.cls = .type "list" /\ o.dict=none/\o.data = .seq b n/\b.size<=sizeLine/\ju xs b.toList
noncomputable def SqT (K:ag) (H:Hp) (a:Addr) (xs:List V):Prop :=
 Rd H a (.tup xs) \/
  ∃(o:Obj) (b:Array ak) (n:Nat),K.lookup a=some o/\o.cls = .type "tuple" /\ o.data = .seq b n/\b.size<=sizeLine/\ju xs b.toList
noncomputable def absV:ak->Option V
 | .none=>some .non
 | .bool b=>some (.bl b)
 | .int i _=>some (.int i)
 | .str x _=>some (.str x)
 | .bytes b _=>some (.byt b)
 | .float b _=>some (.flt b)
 | .ref a=>some (.ref a)
 | .type n=>some (.ty n)
 | _=>none
theorem jy.abs {x:V}(r:jy x u):absV u=some x:=by
 cases x with
 | non=>cases r;rfl
 | bl _=>cases r;rfl
 | int _=>obtain ⟨t,rfl⟩:=r;rfl
 | str _=>obtain ⟨t,rfl⟩:=r;rfl
 | byt _=>obtain ⟨t,rfl⟩:=r;rfl
 | flt _=>obtain ⟨t,rfl⟩:=r;rfl
 | ref _=>cases r;rfl
 | ty _=>cases r;rfl
theorem jy.inj {x:V}(r:jy x u) (q:jy y u):x=y:=aJ (r.abs.symm.trans q.abs)
theorem ju.inj:∀{xs ys:List V}{us:List ak},ju xs us->ju ys us->xs=ys
 | _,_,_,.nil,.nil=>rfl
 | _,_,_,.cons r t,.cons b a=>by rw [r.inj b,ju.inj t a]
section
variable {X:Cx}{pins:List (Addr×Obj)}{σ:St}{H:Hp}{s:Shared}{a:Addr}{xs ys:List V}
theorem SqL.of {K:ag}(h:H a=some (.lst xs)):SqL K H a xs:=.inl (.inl h)
theorem SqT.of {K:ag}(h:H a=some (.tup xs)):SqT K H a xs:=.inl (.inl h)
theorem Inv.list (I:Inv X pins σ H s) (h:SqL X.K H a xs):∃its:List ak,ju xs its/\PlainL s.heap a its.toArray/\xs.length<=sizeLine:=by
 rcases h with h | ⟨o,its,n,c,f,d,b,g,r⟩
 ·obtain ⟨z,its,n,r,e⟩:=h.ok I.hok
  exact ⟨its,r,⟨_,n,e,rfl,rfl,rfl⟩,z⟩
 ·refine ⟨its.toList,r,⟨o,n,I.kIn a o c,f,d,by simpa using b⟩,?_⟩
  have e:=r.length
  simp only [bR] at e
  omega
theorem Inv.tuple (I:Inv X pins σ H s) (h:SqT X.K H a xs):∃its:List ak,ju xs its/\IsTup s.heap a its.toArray/\xs.length<=sizeLine:=by
 rcases h with h | ⟨o,its,n,c,d,b,f,r⟩
 ·obtain ⟨z,its,r,p⟩:=h.ok I.hok
  exact ⟨its,r,p,z⟩
 ·refine ⟨its.toList,r,⟨o,I.kIn a o c,d,n,by simpa using b⟩,?_⟩
  have e:=r.length
  simp only [bR] at e
  omega
theorem Inv.list_inj (I:Inv X pins σ H s) (h:SqL X.K H a xs) (h':SqL X.K H a ys):xs=ys:=by
 obtain ⟨b,r,⟨o,n,e,_,_,d⟩,_⟩:=I.list h
 obtain ⟨its',g,⟨o',j,c,_,_,f⟩,_⟩:=I.list h'
 rw [e] at c;cases c
 rw [d] at f
 injection f with i _
 have:b=its':=by simpa using congrArg Array.toList i
 subst this
 exact r.inj g
theorem Inv.tuple_inj (I:Inv X pins σ H s) (h:SqT X.K H a xs) (h':SqT X.K H a ys):xs=ys:=by
 obtain ⟨b,r,⟨o,e,_,n,d⟩,_⟩:=I.tuple h
 obtain ⟨its',g,⟨o',c,_,j,f⟩,_⟩:=I.tuple h'
 rw [e] at c;cases c
 rw [d] at f
 injection f with i _
 have:b=its':=by simpa using congrArg Array.toList i
 subst this
 exact r.inj g
end
noncomputable abbrev Cx.wish (X:Cx) (E:ak->Shared->Prop):Cx:={ X with xe:=E }
noncomputable abbrev Cx.nox (X:Cx):Cx:=X.wish λ_ _=>False
theorem Cx.Ok.wish {X:Cx}(ok:X.Ok) (E:ak->Shared->Prop):(X.wish E).Ok :=
 ⟨ok.mod,ok.kind,ok.glob,ok.blt,ok.above,ok.inj,ok.has,ok.cab,ok.hd,ok.frames,ok.stk,ok.exf,ok.bs,ok.bsz,ok.noex,ok.exfs,ok.funs,ok.frf⟩
theorem Cx.Ok.unwish {X:Cx}(ok:(X.wish E).Ok):X.Ok :=
 ⟨ok.mod,ok.kind,ok.glob,ok.blt,ok.above,ok.inj,ok.has,ok.cab,ok.hd,ok.frames,ok.stk,ok.exf,ok.bs,ok.bsz,ok.noex,ok.exfs,ok.funs,ok.frf⟩
section
variable {X:Cx}{pins:List (Addr×Obj)}{σ:St}{H:Hp}{s:Shared}{E:ak->Shared->Prop}
theorem Inv.wish (I:Inv X pins σ H s) (E:ak->Shared->Prop):Inv (X.wish E) pins σ H s:=⟨I.ok.wish E,I.os,I.bare,I.base,I.loc,I.cell,I.free,I.freeC,I.pin,I.hok,I.len⟩
theorem Inv.unwish (I:Inv (X.wish E) pins σ H s):Inv X pins σ H s:=⟨I.ok.unwish,I.os,I.bare,I.base,I.loc,I.cell,I.free,I.freeC,I.pin,I.hok,I.len⟩
theorem SP.unwish {D:Ends}(h:SP (X.wish E) pins D f s'):SP X pins D f s':=by
 cases f with
 | next=>obtain ⟨a,H',I,q⟩:=h;exact ⟨a,H',I.unwish,q⟩
 | brk=>obtain ⟨a,H',I,q⟩:=h;exact ⟨a,H',I.unwish,q⟩
 | cont=>obtain ⟨a,H',I,q⟩:=h;exact ⟨a,H',I.unwish,q⟩
 | ret u=>obtain ⟨v,a,H',I,r,q⟩:=h;exact ⟨v,a,H',I.unwish,r,q⟩
theorem PE.nox {e:Expr}(h:PE X.nox e t):PE X e t:=λpins s σ H Q I a =>
 bb (h pins s σ H Q (I.wish _) a) (λ_ _ ⟨v,H',b,r,q⟩=>⟨v,H',b.unwish,r,q⟩) λ_ _ z=>bJ z
theorem PSs.nox {st:List Stmt}(h:PSs X.nox st t):PSs X st t:=λpins s σ H D I a =>
 bb (h pins s σ H D (I.wish _) a) (λ_ _ q=>q.unwish) λ_ _ z=>bJ z
end
section
variable {X:Cx}{st:Stmt}{yM:List Stmt}{t u:TS}{e:Expr}{te:TE}{pos:Pos}
noncomputable def Wv:TS:=λD σ H=>D.nx σ H
noncomputable def tSeq (t u:TS):TS:=λD σ H=>t { D with nx:=u D } σ H
theorem jA:PSs X [] Wv:=λ_ _ σ H _ I h=>fF ⟨σ,H,I,h⟩
theorem j6 (h1:PS X st t) (h2:PSs X yM u):PSs X (st::yM) (tSeq t u):=by
 intro pins s σ H D I h
 refine lO (thn (h1 pins s σ H { D with nx:=u D } I h) λf s1 q=>?_)
 cases f with
 | next =>
  obtain ⟨a,H',b,q⟩:=q
  exact h2 pins s1 a H' D b q
 | ret v=>exact q
 | brk=>exact q
 | cont=>exact q
theorem j9 (h1:PS X st t):PSs X [st] t:=by
 intro pins s σ H D I h
 refine lO (thn (h1 pins s σ H D I h) λf s1 q=>?_)
 cases f with
 | next=>exact fF q
 | ret v=>exact q
 | brk=>exact q
 | cont=>exact q
theorem Inv.quiet (I:Inv X pins σ H s):interactive X.env=false:=by simp [interactive,I.ok.kind]
noncomputable def Wh (te:TE):TS:=λD σ H=>te σ H λ_ H1=>D.nx σ H1
theorem jU (z:PE X e te) (j:iU e none pos.line X.env=pure false:=by rfl):PS X (.Expr e pos) (Wh te):=by
 intro pins s σ H D I h
 exact wpAny_Expr_any (thn ↥103 λv s1 ⟨x,H1,b,c,a⟩=>⟨σ,H1,b,a⟩) I.quiet j
noncomputable def tRet (te:TE):TS:=λD σ H=>te σ H D.rt
theorem jj (j:PE X e te):PS X (.Return (some e) pos) (tRet te):=by
 intro pins s σ H D I h
 exact wpAny_Return_some (thn ↥124 λv s1 ⟨x,H1,c,a,b⟩=>⟨x,σ,H1,c,a,b⟩)
noncomputable def tIfS (c:TT) (t u:TS):TS:=λD σ H=>c σ H λb H1=>if b=true then t D σ H1 else u D σ H1
theorem qc (j:PT X c tc) (G:PSs X a t) (z:PSs X b u):PS X (.If c a b pos) (tIfS tc t u):=by
 intro pins s σ H D I h
 refine wpAny_If (thn ↥124 λd s1 ⟨H1,f,e⟩=>?_)
 cases d with
 | true=>exact G pins s1 σ H1 D f e
 | false=>exact z pins s1 σ H1 D f e
end
noncomputable abbrev TG:=V->St->Hp->(St->Hp->Prop)->Prop
noncomputable abbrev TGs:=List V->St->Hp->(St->Hp->Prop)->Prop
noncomputable def PG (X:Cx) (j:Expr) (t:TG):Prop :=
 ∀(pins:List (Addr×Obj)) (s:Shared) (σ:St) (H:Hp) (v:V) (u:ak) (Q:St->Hp->Prop),Inv X pins σ H s->jy v u->t v σ H Q ->
  aA ↥2 X.A (iF j X.env u) (λ_ s'=>∃a H',Inv X pins a H' s'/\Q a H') X.xe s
noncomputable def PGs (X:Cx) (ts:List Expr) (t:TGs):Prop :=
 ∀(pins:List (Addr×Obj)) (s:Shared) (σ:St) (H:Hp) (b:List V) (c:List ak) (Q:St->Hp->Prop),Inv X pins σ H s->ju b c->t b σ H Q ->
  aA ↥2 X.A (assignInOrder ((fH ts X.env).map (·.2)) c) (λ_ s'=>∃a H',Inv X pins a H' s'/\Q a H') X.xe s
noncomputable abbrev UY:=V->V->V->Hp->(Hp->Prop)->Prop
noncomputable def Uc (X:Cx) (t:UY):Prop :=
 ∀(pins:List (Addr×Obj)) (s:Shared) (σ:St) (H:Hp) (o i v:V) (a b u:ak) (Q:Hp->Prop),Inv X pins σ H s->jy o a->jy i b->jy v u->t o i v H Q ->
  aA ↥2 X.A (sY a b u) (λ_ s'=>∃H',Inv X pins σ H' s'/\Q H') X.xe s
noncomputable abbrev TIp:=V->V->Hp->VK->Prop
noncomputable def PIp (X:Cx) (j:Operator) (t:TIp):Prop :=
 ∀(pins:List (Addr×Obj)) (s:Shared) (σ:St) (H:Hp) (x y:V) (v u:ak) (Q:VK),Inv X pins σ H s->jy x v->jy y u->t x y H Q ->
  aA ↥2 X.A (inplaceOp j v u) ↥51 X.xe s
section
variable {X:Cx}{pos:Pos}
noncomputable def uf (i:Nat):TG:=λv σ H Q=>Q (σ.set i (some v)) H
theorem jc {i:Nat}(G:X.N.Nodup) (hi:X.N[i]? = some x) (j:Loc X.env.scope x) (z:X.fn x=true\/X.env.scope.names.lookup x=some .local:=by first | exact .inl rfl | exact .inr rfl | assumption):PG X (.Name x pos) (uf i):=by
 intro pins s σ H v u Q I r h
 exact oE (Qu I G hi j r (λs' a=>⟨_,H,a,h⟩) z)
noncomputable def gNil:TGs:=λa σ H Q=>a=[]/\Q σ H
inductive gCons (t:TG) (u:TGs) (vs:List V) (σ:St) (H:Hp) (Q:St->Hp->Prop):Prop
 | mk (v:_) (r:_) (zz1:vs=v::r) (zz2:t v σ H λσ' H'=>u r σ' H' Q)
theorem qu:PGs X [] gNil:=by
 intro pins s σ H a b Q I r h
 obtain ⟨e,h⟩:=h
 subst e
 cases r
 exact assignInOrder_nil ⟨σ,H,I,h⟩
theorem jn (h1:PG X e t) (h2:PGs X es u)
  (j:(fH (e::es) X.env).map (·.2)=iF e X.env::(fH es X.env).map (·.2):=by rfl):PGs X (e::es) (gCons t u):=by
 intro pins s σ H g k Q I r h
 obtain ⟨v,i,d,h⟩:=h
 subst d
 cases r with
 | cons r b =>
  rw [j]
  refine assignInOrder_cons (thn (h1 pins s σ H _ _ _ I r h) λ_ s1 ⟨a,H1,f,c⟩=>?_)
  exact h2 pins s1 a H1 _ _ Q f b c
inductive gTup (K:ag) (n:Nat) (t:TGs) (v:V) (σ:St) (H:Hp) (Q:St->Hp->Prop):Prop
 | mk (a:_) (xs:_) (zz1:v = .ref a) (zz2:SqT K H a xs) (zz3:xs.length=n) (zz4:t xs σ H Q)
theorem UK {k:Nat}{n:Nat}(G:X.calm=true) (h:PGs X es t)
  (z:(fH es X.env).length=n:=by rfl) (j:(fH es X.env).findIdx? (·.1)=none:=by rfl):PG X (.Tuple es k pos) (gTup X.K n t):=by
 intro pins s σ H v u Q I r c
 obtain ⟨a,xs,m,i,l,c⟩:=c
 subst m
 cases r
 obtain ⟨q,d,g,w⟩:=I.tuple i
 refine assign_Tuple_tuple (I.ok.hd G) g (by simp [z,<- l,d.length]) j λh' f=>?_
 have p:Inv X pins σ H { s with heap:=h' }:=I.kept (t':=s.toks) λb o e=>f b o (aC (ax e)) e
 exact h pins _ σ H xs _ Q p (by simpa using d) c
noncomputable def gSub (to j:TE) (t:UY):TG:=λv σ H Q=>to σ H λo H1=>j σ H1 λi H2=>t o i v H2 λa=>Q σ a
theorem Jd (Y:PE X o to) (hi:PE X i G) (U:Uc X t)
  (ha:∀v,iF (.Subscript o i pos) X.env v=(do
   let j <- dG [v] (eval o X.env)
   let z <- dG [v,j] (eval i X.env)
   dQ pos
   dG [v,j,z] (sY j z v)
   release [v,j,z] []):=by intro _;rfl):PG X (.Subscript o i pos) (gSub to G t):=by
 intro pins s σ H v u Q I r h
 rw [ha]
 refine af (c5 (thn (Y pins s σ H _ I h) λj s1 ⟨x,H1,l,c,f⟩=>?_))
 refine af (c5 (thn (hi pins s1 σ H1 _ l f) λz a ⟨y,H2,k,b,e⟩=>?_))
 refine af (cN (af (c5 (thn (U pins a σ H2 x y v j z u _ k c b r e) λ_ n ⟨m,g,d⟩=>?_))))
 exact wpAny_release ⟨σ,m,g,d⟩
noncomputable def V1 (te:TE) (g:TG):TS:=λD σ H=>te σ H λx H1=>g x σ H1 D.nx
theorem yL (U:PE X e te) (G:PG X tg g) (z:swapsWithSole [tg] e pos.line X.env=pure false:=by rfl) (j:swappedStores [tg] e X.env=pure none:=by rfl)
  (h1:(fH [tg] X.env).map (·.2)=[iF tg X.env]:=by rfl):PS X (.Assign [tg] e pos) (V1 te g):=by
 intro pins s σ H D I h
 refine wpAny_Assign_stores (thn (U pins s σ H _ I h) λv s1 ⟨x,H1,c,a,b⟩=>?_) z j
 rw [h1]
 exact thn (G pins s1 σ H1 x v _ c a b) λ_ d q=>q
theorem zc {i:Nat}(Y:X.N.Nodup) (hi:X.N[i]? = some x) (j:Loc X.env.scope x) (U:PE X e te) (z:iU e (some (.Name x pos')) pos.line X.env=pure false:=by rfl) (G:X.fn x=true\/X.env.scope.names.lookup x=some .local:=by first | exact .inl rfl | exact .inr rfl | assumption) :
  PS X (.Assign [.Name x pos'] e pos) (V1 te (uf i)):=by
 intro pins s σ H D I h
 refine wpAny_Assign_Name (thn (U pins s σ H _ I h) λv s1 ⟨y,H1,d,a,b⟩=>?_) z
 exact Qu d Y hi j a (λf c=>⟨_,H1,c,b⟩) G
theorem jz (i:Nat)(Y:X.N.Nodup) (U:PE X e te) (hi:X.N[i]?=some x:=by rfl) (j:Loc X.env.scope x:=by exact aU rfl) (z:iU e (some (.Name x pos')) pos.line X.env=pure false:=by rfl) (G:X.fn x=true\/X.env.scope.names.lookup x=some .local:=by first | exact .inl rfl | exact .inr rfl | assumption):PS X (.Assign [.Name x pos'] e pos) (V1 te (uf i)):=zc Y hi j U z G
noncomputable def WI (to Y te:TE) (G:V->V->Hp->VK->Prop) (U:TIp) (j:UY):TS:=λD σ H=>to σ H λo H1=>Y σ H1 λi H2=>G o i H2 λx d=>te σ d λy c=>U x y c λz b=>j o i z b λa=>D.nx σ a
noncomputable def Wt (X:Cx) (t:V->V->Hp->VK->Prop):Prop :=
 ∀(pins:List (Addr×Obj)) (s:Shared) (σ:St) (H:Hp) (o i:V) (a b:ak) (Q:VK),Inv X pins σ H s->jy o a->jy i b->t o i H Q ->
  aA ↥2 X.A (lB a b) ↥51 X.xe s
theorem Vv (ho:PE X o to) (hi:PE X i ti) (hg:Wt X U) (he:PE X e te) (hp:PIp X op Y) (hs:Uc X G)
  (ha:∀j z new,augStore i j z new=(do dG [new,j,z] (sY j z new);release [new,j,z] [];pure .next):=by intros;rfl):PS X (.AugAssign (.Subscript o i tpos) op e pos) (WI to ti te U Y G):=by
 intro pins s σ H D I h
 refine wpAny_AugAssign_SubscriptAny (thn (ho pins s σ H _ I h) λj s1 ⟨b,H1,N,d,C⟩=>?_) ha
 refine thn (hi pins s1 σ H1 _ N C) λz q ⟨a,H2,M,c,B⟩=>?_
 refine thn (hg pins q σ H2 b a j z _ M d c B) λf p ⟨l,R,L,u,A⟩=>?_
 refine thn (he pins p σ R _ L A) λv n ⟨k,Q,K,t,y⟩=>?_
 refine thn (hp pins n σ Q l k f v _ K u t y) λnew m ⟨g,P,J,r,x⟩=>?_
 exact thn (hs pins m σ P b a g j z new _ J d c r x) λ_ S ⟨O,E,w⟩=>⟨σ,O,E,w⟩
noncomputable def ipI (f:Int->Int->Int):TIp:=λx y H Q=>∃i j,x = .int i/\y = .int j/\Q (.int (f i j)) H
theorem U7:PIp X .Add (ipI λi j=>i+j):=by
 intro pins s σ H x y v u Q I b a h
 obtain ⟨i,j,d,c,q⟩:=h
 subst d;subst c
 obtain ⟨t,rfl⟩:=b
 obtain ⟨e,rfl⟩:=a
 exact iadd_int ⟨.int _,H,I.tok _,⟨_,rfl⟩,q⟩
end
section
variable {X:Cx}{pos:Pos}
noncomputable def YK (c:TT) (tb:TS):TS:=λD σ H=>∃W:Nat->St->Hp->Prop,(∃m,W m σ H)/\∀m σ H,W m σ H ->
 c σ H λb H1=>if b=true then ∃N:St->Hp->Prop,(∀a H',N a H'->∃d,d<m/\W d a H')/\tb { D with nx:=N,ct:=N,bk:=D.nx } σ H1 else D.nx σ H1
theorem wn (z:PassesOwn ↥2 X.A X.env X.xe) (G:PT X c tc) (U:PSs X body tb):PS X (.While c body [] pos) (YK tc tb):=by
 intro pins s σ H D I h
 obtain ⟨W,⟨B,x⟩,k⟩:=h
 refine wpAny_While (codeAny_whileLoop (λn s'=>∃q H',Inv X pins q H' s'/\W n q H') ?_ B ⟨σ,H,I,x⟩)
 rintro n s1 ⟨e,H1,C,u⟩
 refine dN z (thn (G pins s1 e H1 _ C (k n e H1 u)) λb y ⟨H2,t,i⟩=>?_)
 cases b with
 | true =>
  obtain ⟨N,r,i⟩:=i
  rw [if_pos rfl]
  refine dN z (thn (U pins y e H2 _ t i) λf E g=>?_)
  cases f with
  | next =>
   obtain ⟨a,d,p,l⟩:=g
   obtain ⟨m,o,j⟩:=r a d l
   exact ⟨m,o,a,d,p,j⟩
  | cont =>
   obtain ⟨a,d,p,l⟩:=g
   obtain ⟨m,o,j⟩:=r a d l
   exact ⟨m,o,a,d,p,j⟩
  | brk=>exact g
  | ret v=>exact g
 | false =>
  rw [if_neg au]
  exact fF ⟨e,H2,t,i⟩
end
structure It where
 go:Nat->Hp->Prop
 yld:Nat->Hp->V->Hp->Prop
 stop:Nat->Hp->Prop
noncomputable def ur (X:Cx) (pins:List (Addr×Obj)) (H:Hp) (b:Addr):Prop :=
 H b=none/\b≠X.env.locals/\b∉X.fs/\ ↥123/\ ↥99/\∀p∈X.pn++pins,p.1≠b
theorem Inv.fpOk {X:Cx}{H':Hp}{b:Addr}(I:Inv X pins σ H s) (j:s.heap.objs.size<=b) (G:H' b=none):ur X pins H' b:=by
 refine ⟨G,cz (aQ I.lt j),I.nofs j,.inr (aI I.sz j),λx c e z=>?_,λp a z=>?_⟩
 ·obtain ⟨v,q⟩:=I.cell x c e
  exact absurd (aQ q.lt (by rw [z];exact j)) (cw _)
 ·exact absurd (aQ (ax (I.pin p a).1) (by rw [z];exact j)) (cw _)
structure Turn (P:Program) (w:bA) (K:ag) (tg:Expr) (J:It) (fp:List Addr) (it:Addr) (tn:Nat->Heap->Prop):Prop where
 mem:it∈fp
 obj:∀i h,tn i h->∀b∈fp,∃o,h.get? b=some o/\∀v,o.data≠.cell v
 keep:∀i h h',tn i h->(∀b∈fp,∀o,h.get? b=some o->h'.get? b=some o)->tn i h'
 item:∀(X:Cx),X.prog=P->X.w=w->X.K=K->X.calm=true->∀(i:Nat) (pins:List (Addr×Obj)) (s:Shared) (σ:St) (H:Hp) (E:ak->Shared->Prop),Inv X pins σ H s->(∀b∈fp,ur X pins H b)->tn i s.heap->J.go i H ->
  aA (aF P w) X.A (fS (.ref it)) (λr s1=>∃u,r=some u /\
   aA (aF P w) X.A (dj tg (.ref it) u) (λ_ s2=>∃x H',Inv X pins σ H' s2/\jy x u/\J.yld i H x H'/\tn (i+1) s2.heap/\∀b∈fp,H' b=none) E s1) E s
 done:∀(X:Cx),X.prog=P->X.w=w->X.K=K->X.calm=true->∀(i:Nat) (pins:List (Addr×Obj)) (s:Shared) (σ:St) (H:Hp) (E:ak->Shared->Prop),Inv X pins σ H s->(∀b∈fp,ur X pins H b)->tn i s.heap->J.stop i H ->
  aA (aF P w) X.A (fS (.ref it)) (λr s1=>r=none/\Inv X pins σ H s1) E s
 self:∀(A:bI) (i:Nat) (s:Shared) (Q:ak->Shared->Prop) (E:ak->Shared->Prop),tn i s.heap->Q (.ref it) s->aA (aF P w) A (mO (.ref it)) Q E s
noncomputable abbrev TI:=St->Hp->(It->Hp->Prop)->Prop
noncomputable def PIE (X:Cx) (pins:List (Addr×Obj)) (σ:St) (tg:Expr) (R:It->Hp->Prop) (z:ak) (j:Shared):Prop :=
 ∃(it:Addr) (fp:List Addr) (a:Nat->Heap->Prop) (J:It) (H':Hp),z = .ref it/\Inv X pins σ H' j/\Turn X.prog X.w X.K tg J fp it a/\a 0 j.heap/\(∀b∈fp,ur X pins H' b)/\R J H'
noncomputable def PI (X:Cx) (tg iter:Expr) (j:TI):Prop :=
 ∀(pins:List (Addr×Obj)) (s:Shared) (σ:St) (H:Hp) (R:It->Hp->Prop),Inv X pins σ H s->j σ H R ->
  aA ↥2 X.A (eval iter X.env) (λv s1=>aA ↥2 X.A (mO v) (PIE X pins σ tg R) X.xe s1) X.xe s
theorem Qb {s:Shared}{it:Addr}{n:String}{Q:Unit->Shared->Prop}(z:s.heap.get? it=some o) (Y:o.cls = .type n) (U:o.data = .fields vs)
  (G:["enumerate","zip","dict_itemiterator","dict_reverseitemiterator","odict_iterator","itertools.zip_longest","itertools.pairwise"].contains n=false) (j:Q () s):aA M A (dj tg (.ref it) u) Q E s:=by
 unfold dj
 cases tg <;> first
  | exact wpAny_pure j
  | (cases u <;> first
    | exact wpAny_pure j
    | (refine af (wpAny_load z ?_)
       rw [Y,U]
       show aA M A (if (["enumerate","zip","dict_itemiterator","dict_reverseitemiterator","odict_iterator","itertools.zip_longest","itertools.pairwise"].contains n && vs[0]? == some (cg _))=true then _ else _) Q E s
       rw [if_neg (by intro h;rw [G,Bool.false_and] at h;cases h)]
       exact wpAny_pure j))
noncomputable def Itl (K:ag) (a:Addr):It :=
 ⟨λi H=>∃xs x,SqL K H a xs/\xs[i]? = some x,λi H x H'=>H'=H/\∀xs,SqL K H a xs->xs[i]? = some x,λi H=>∃xs,SqL K H a xs/\xs.length<=i⟩
noncomputable def Itt (K:ag) (a:Addr):It :=
 ⟨λi H=>∃xs x,SqT K H a xs/\xs[i]? = some x,λi H x H'=>H'=H/\∀xs,SqT K H a xs->xs[i]? = some x,λi H=>∃xs,SqT K H a xs/\xs.length<=i⟩
noncomputable def Itr (lo:Int) (n:Nat):It:=⟨λi _=>i<n,λi H x H'=>H'=H/\x = .int (lo+i),λi _=>n<=i⟩
theorem Zd {K:ag}(a it:Addr):Turn P w K tg (Itl K a) [it] it (λi h=>h.IsListIter it a i) where
 mem:=by simp
 obj:=λi h st b hb=>by
  have e:b=it:=by simpa using hb
  subst e
  obtain ⟨o,e,c,d⟩:=st
  exact ⟨o,e,λv z=>by rw [d] at z;cases z⟩
 keep:=λi h h' st k=>st.at λo e=>k it (by simp) o e
 item:=by
  intro X hP hw hK hc i pins s σ H E I hf st hg
  subst hP hw hK
  obtain ⟨xs,x,hq,hx⟩:=hg
  obtain ⟨its,rv,p,hz⟩:=I.list hq
  obtain ⟨u,hu,ru⟩:=rv.get hx
  obtain ⟨f0,f1,f2,f3,f4,f5⟩:=hf it (by simp)
  refine lZ st p.isList (x:=u) (by simpa using hu) λh' st' sb=>?_
  have I1:Inv X pins σ H { s with heap:=h' }:=I.turned (t':=s.toks) (λb o hb e=>(sb.2 b hb).trans e) f0 f1 f3 f4 f5
  obtain ⟨o,e,c,d⟩:=id st'
  exact ⟨u,rfl,Qb (s:={ s with heap:=h' }) e c d ⋯ ⟨x,H,I1,ru,⟨rfl,λys hy=>by rw [I.list_inj hy hq];exact hx⟩,st',λb hb=>(hf b hb).1⟩⟩
 done:=by
  intro X hP hw hK hc i pins s σ H E I hf st hg
  subst hP hw hK
  obtain ⟨xs,hq,hx⟩:=hg
  obtain ⟨its,rv,p,hz⟩:=I.list hq
  obtain ⟨f0,f1,f2,f3,f4,f5⟩:=hf it (by simp)
  have hl:=rv.length
  exact mJ (I.ok.hd hc) st p.isList ↥84 λh' eb=>⟨rfl,I.turned (t':=s.toks) ↥118 f0 f1 f3 f4 f5⟩
 self:=λ_ _ _ _ _ st h=>wpAny_pyIter_listiter st h
theorem QN {K:ag}(a it:Addr):Turn P w K tg (Itt K a) [it] it (λi h=>h.IsTupleIter it a i) where
 mem:=by simp
 obj:=λi h st b hb=>by
  have e:b=it:=by simpa using hb
  subst e
  obtain ⟨o,e,c,d⟩:=st
  exact ⟨o,e,λv z=>by rw [d] at z;cases z⟩
 keep:=λi h h' st k=>st.at λo e=>k it (by simp) o e
 item:=by
  intro X hP hw hK hc i pins s σ H E I hf st hg
  subst hP hw hK
  obtain ⟨xs,x,hq,hx⟩:=hg
  obtain ⟨its,rv,p,hz⟩:=I.tuple hq
  obtain ⟨u,hu,ru⟩:=rv.get hx
  obtain ⟨f0,f1,f2,f3,f4,f5⟩:=hf it (by simp)
  refine wpAny_pyNext_tuple_item st (show s.heap.IsTuple a its.toArray from p) (x:=u) (by simpa using hu) λh' st' sb=>?_
  have I1:Inv X pins σ H { s with heap:=h' }:=I.turned (t':=s.toks) (λb o hb e=>(sb.2 b hb).trans e) f0 f1 f3 f4 f5
  obtain ⟨o,e,c,d⟩:=id st'
  exact ⟨u,rfl,Qb (s:={ s with heap:=h' }) e c d ⋯ ⟨x,H,I1,ru,⟨rfl,λys hy=>by rw [I.tuple_inj hy hq];exact hx⟩,st',λb hb=>(hf b hb).1⟩⟩
 done:=by
  intro X hP hw hK hc i pins s σ H E I hf st hg
  subst hP hw hK
  obtain ⟨xs,hq,hx⟩:=hg
  obtain ⟨its,rv,p,hz⟩:=I.tuple hq
  obtain ⟨f0,f1,f2,f3,f4,f5⟩:=hf it (by simp)
  have hl:=rv.length
  exact wpAny_pyNext_tuple_end (I.ok.hd hc) st (show s.heap.IsTuple a its.toArray from p) ↥84 λh' eb=>⟨rfl,I.turned (t':=s.toks) ↥118 f0 f1 f3 f4 f5⟩
 self:=λ_ _ _ _ _ st h=>wpAny_pyIter_tupleiter st h
theorem ku {K:ag}(it:Addr) (lo:Int) (n:Nat):Turn P w K tg (Itr lo n) [it] it (λi h=>pR h it (lo+(i:Nat)*1) ((n:Int)-(i:Nat)) 1) where
 mem:=by simp
 obj:=λi h st b hb=>by
  have e:b=it:=by simpa using hb
  subst e
  exact ⟨_,st,λv z=>by
   have z':dR _=lP v:=z
   cases z'⟩
 keep:=λi h h' st k=>k it (by simp) _ st
 item:=by
  intro X hP hw hK hc i pins s σ H E I hf st hg
  subst hP hw hK
  obtain ⟨f0,f1,f2,f3,f4,f5⟩:=hf it (by simp)
  have W:=Walks.range (prog:=X.prog) (w:=X.w) (I.ok.hd hc) it lo 1 n
  refine W.item i s _ _ hg st λv h' tk hv st' kk=>?_
  obtain ⟨t,rfl⟩:=hv
  have I1:Inv X pins σ H { s with heap:=h',toks:=tk }:=I.turned (λb o hb e=>kk b o (by simpa using hb) e) f0 f1 f3 f4 f5
  refine ⟨_,rfl,Qb (s:={ s with heap:=h',toks:=tk }) (n:="range_iterator") st' rfl rfl ⋯ ⟨.int (lo+i),H,I1,⟨t,?_⟩,⟨rfl,rfl⟩,st',λb hb=>(hf b hb).1⟩⟩
  rw [Int.mul_one]
 done:=by
  intro X hP hw hK hc i pins s σ H E I hf st hg
  subst hP hw hK
  obtain ⟨f0,f1,f2,f3,f4,f5⟩:=hf it (by simp)
  exact wpAny_pyNext_range_end (I.ok.hd hc) st (by have:n<=i:=hg;omega) λh' eb=>⟨rfl,I.turned (t':=s.toks) ↥118 f0 f1 f3 f4 f5⟩
 self:=λ_ _ _ _ _ st h=>wpAny_pyIter_rangeiter st h
end L2
namespace L2
section
variable {X:Cx}{tg:Expr}
inductive iListI (K:ag) (R:It->Hp->Prop) (x:V) (H1:Hp):Prop
 | mk (a:_) (zz1:x = .ref a) (zz2:(∃xs,SqL K H1 a xs)/\R (Itl K a) H1)
noncomputable def VW (K:ag) (tl:TE):TI:=λσ H R=>tl σ H λx H1=>iListI K R x H1
inductive iTupI (K:ag) (R:It->Hp->Prop) (x:V) (H1:Hp):Prop
 | mk (a:_) (zz1:x = .ref a) (zz2:(∃xs,SqT K H1 a xs)/\R (Itt K a) H1)
noncomputable def Wa (K:ag) (tl:TE):TI:=λσ H R=>tl σ H λx H1=>iTupI K R x H1
theorem Vq (j:PE X l tl):PI X tg l (VW X.K tl):=by
 intro pins s σ H R I h
 refine thn ↥124 λv s1 ⟨x,H1,c,d,f⟩=>?_
 obtain ⟨a,e,⟨xs,g⟩,q⟩:=f
 subst e
 cases d
 obtain ⟨k,m,p,n⟩:=c.list g
 refine cP p.isList ?_
 refine ⟨s1.heap.objs.size,[s1.heap.objs.size],_,_,H1,rfl,c.kept (t':=s1.toks) λb o e=>ah _ e,Zd a _,⟨_,az _ rfl,rfl,rfl⟩,λb i=>?_,q⟩
 have e:b=s1.heap.objs.size:=by simpa using i
 subst e
 exact c.fpOk (ar _) (c.hok.fresh (ar _))
theorem U5 (j:PE X l tl):PI X tg l (Wa X.K tl):=by
 intro pins s σ H R I h
 refine thn ↥124 λv s1 ⟨x,H1,c,f,g⟩=>?_
 obtain ⟨a,e,⟨xs,i⟩,q⟩:=g
 subst e
 cases f
 obtain ⟨d,m,p,n⟩:=c.tuple i
 refine nX (show s1.heap.IsTuple a d.toArray from p) ?_
 refine ⟨s1.heap.objs.size,[s1.heap.objs.size],_,_,H1,rfl,c.kept (t':=s1.toks) λb o e=>ah _ e,QN a _,⟨_,az _ rfl,rfl,rfl⟩,λb k=>?_,q⟩
 have e:b=s1.heap.objs.size:=by simpa using k
 subst e
 exact c.fpOk (ar _) (c.hok.fresh (ar _))
theorem JX {R:It->Hp->Prop}{lo hi:Int}{tk:Nat}(I:Inv X pins σ H s) (h1 : -(2 ^ 62)<=lo) (h2:lo<2 ^ 62) (z : -(2 ^ 62)<=hi) (j:hi<2 ^ 62)
  (q:R (Itr lo (hi-lo).toNat) H):aA ↥2 X.A (mO ↥16) (PIE X pins σ tg R) E { s with heap:=s.heap.push { cls:=.type "range",data:=.fields #[.int lo t,.int hi u,.int 1 v] },toks:=tk }:=by
 refine nZ (pS ..) (small_one h1 h2 z j) ?_
 have a:Inv X pins σ H { s with heap:=s.heap.push { cls:=.type "range",data:=.fields #[.int lo t,.int hi u,.int 1 v] },toks:=tk }:=I.kept λb o e=>ah _ e
 refine ⟨(↥8).objs.size,[(↥8).objs.size],_,_,H,rfl,
  a.kept (t':=tk) λb o e=>ah _ e,ku _ lo (hi-lo).toNat,?_,λb c=>?_,q⟩
 ·have f:lo+((0:Nat):Int)*1=lo:=by simp
  have d:(((hi-lo).toNat:Nat):Int)-((0:Nat):Int)=lQ lo hi 1:=by rw [sL];split <;> omega
  show pR _ _ (lo+((0:Nat):Int)*1) ((((hi-lo).toNat:Nat):Int)-((0:Nat):Int)) 1
  rw [f,d]
  exact az _ rfl
 ·have e:b=(↥8).objs.size:=by simpa using c
  subst e
  exact a.fpOk (ar _) (a.hok.fresh (ar _))
inductive iRng1I (R:It->Hp->Prop) (vs:List V) (H1:Hp):Prop
 | mk (j:Int) (zz1:vs=[.int j]) (zz2 : -(2 ^ 62)<=j/\j<2 ^ 62/\R (Itr 0 j.toNat) H1)
noncomputable def Wg (ta:TA):TI:=λσ H R=>ta σ H λa H1=>iRng1I R a H1
inductive iRng2I (R:It->Hp->Prop) (vs:List V) (H1:Hp):Prop
 | mk (i j:Int) (zz1:vs=[.int i,.int j]) (zz2:(-(2 ^ 62)<=i/\i<2 ^ 62 /\ -(2 ^ 62)<=j/\j<2 ^ 62)) (zz3:R (Itr i (j-i).toNat) H1)
noncomputable def Ws (ta:TA):TI:=λσ H R=>ta σ H λa H1=>iRng2I R a H1
theorem jY {a:Expr}{p:Pos}(U:Gl X "range") (G:X.mg "range" = none) (Y:PA X [a] ta) (z:aN [a] X.env=[(false,eval a X.env)]:=by rfl):PI X tg (.Call (.Name "range" p) [a] [] pos) (Wg ta):=by
 intro pins s σ H R I h
 refine tK (zh I U G rP (cj (thn (Y pos pins s σ H _ I h) λk s1 ⟨i,H1,g,d,b⟩=>?_) z rfl))
 obtain ⟨j,e,b,f,q⟩:=b
 subst e
 cases d with
 | cons r c =>
  cases c
  obtain ⟨t,rfl⟩:=r
  exact call_range_1 (JX g ∅ ∅ b f (by simpa using q))
theorem ut {a b:Expr}{p:Pos}(Y:Gl X "range") (U:X.mg "range" = none) (ha:PA X [a,b] ta) (G:aN [a,b] X.env=[(false,eval a X.env),(false,eval b X.env)]:=by rfl) (z:aN [b] X.env=[(false,eval b X.env)]:=by rfl) :
  PI X tg (.Call (.Name "range" p) [a,b] [] pos) (Ws ta):=by
 intro pins s σ H R I h
 refine tK (zh I Y U rP (cj (thn ↥50 λu s1 ⟨o,H1,n,f,d⟩=>?_) (by rw [G,z]) (by rw [z];rfl)))
 obtain ⟨i,j,e,⟨d,m,l,k⟩,q⟩:=d
 subst e
 cases f with
 | cons r c =>
  cases c with
  | cons g c =>
   cases c
   obtain ⟨t,rfl⟩:=r
   obtain ⟨v,rfl⟩:=g
   exact call_range_2 (JX n d m l k q)
noncomputable def tFor (j:TI) (g:TG) (tb:TS):TS:=λD σ H=>j σ H λJ H1=>∃W:Nat->Nat->St->Hp->Prop,(∃m,W 0 m σ H1)/\∀i m σ H,W i m σ H ->
 (J.stop i H/\D.nx σ H)\/(J.go i H/\∃N:St->Hp->Prop,(∀a H',N a H'->∃b,b<m/\W (i+1) b a H')/\∀x H',J.yld i H x H'->g x σ H' λc H2=>tb { D with nx:=N,ct:=N,bk:=D.nx } c H2)
noncomputable def zt (fp:List Addr) (h:Heap):List (Addr×Obj):=fp.filterMap λb=>(h.get? b).map λo=>(b,o)
theorem qN {fp:List Addr}{h:Heap}{b:Addr}(j:b∈fp) (e:h.get? b=some o):(b,o)∈zt fp h:=List.mem_filterMap.mpr ⟨b,j,by rw [e];rfl⟩
theorem Z5 {p:Addr×Obj}(j:p∈zt fp h):p.1∈fp/\h.get? p.1=some p.2:=by
 obtain ⟨b,a,e⟩:=List.mem_filterMap.mp j
 cases q:h.get? b with
 | none=>rw [q] at e;cases e
 | some o =>
  rw [q] at e
  have c:(b,o)=p:=aJ e
  subst c
  exact ⟨a,q⟩
theorem Inv.pinned {fp:List Addr}(I:Inv X pins σ H s) (G:∀b∈fp,ur X pins H b) (j:∀b∈fp,∃o,s.heap.get? b=some o/\∀v,o.data≠.cell v):Inv X (pins++zt fp s.heap) σ H s :=
 I.pins_of λp f=>(List.mem_append.mp f).elim (λz=>I.pin p (aM _ z)) λz=>by
  obtain ⟨a,e⟩:=Z5 z
  obtain ⟨i,h,g,_⟩:=G p.1 a
  obtain ⟨o,c,d⟩:=j p.1 a
  rw [e] at c;cases c
  exact ⟨e,i,h,g,d⟩
theorem Inv.unpinned {pins pl:List (Addr×Obj)}(I:Inv X (pins++pl) σ H s):Inv X pins σ H s:=I.pins_of λp a=>I.pin p (aM _ (d9 _ a))
theorem qK (G:PassesOwn ↥2 X.A X.env X.xe) (U:X.calm=true) (hi:PI X tg iter wi) (hg:PG X tg g) (j:PSs X body tb)
  (hs:∀x,cQ iter X.env x=pure x:=by intro _;rfl):PS X (.For tg iter body [] pos) (tFor wi g tb):=by
 intro pins s σ H D I h
 refine wpAny_For (thn (hi pins s σ H _ I h) λv s1 h1=>thn h1 λab s2 h2=>?_) hs
 obtain ⟨it,fp,P,J,H2,e,I2,T,Q,Y,W,⟨m0,w0⟩,K⟩:=h2
 subst e
 have p:∀{H':Hp},↥71->∀b∈fp,ur X pins H' b:=λhn b j=>⟨hn b j,(Y b j).2⟩
 refine codeAny_forLoop_any (λn s'=>∃i t H',Inv X pins t H' s'/\P i s'.heap/\ ↥71/\W i n t H') ?_ m0 ⟨0,σ,H2,I2,Q,λb j=>(Y b j).1,w0⟩
 rintro n S ⟨i,q,B,I3,C,E,w3⟩
 rcases K i n q B w3 with ⟨L,qn⟩ | ⟨go,N,hN,step⟩
 ·refine dN G (thn (T.done X rfl rfl rfl U i pins S q B X.xe I3 (p E) C L) λr s4 ⟨O,I4⟩=>?_)
  subst O
  exact fF ⟨q,B,I4,qn⟩
 ·refine dN G (thn (T.item X rfl rfl rfl U i pins S q B X.xe I3 (p E) C go) λr s4 ⟨u,O,h4⟩=>?_)
  subst O
  refine dN G (thn h4 λ_ R ⟨x,H5,I5,r5,y5,y,V⟩=>?_)
  have Z:=I5.pinned (p V) (T.obj _ _ y)
  refine dN G (thn (hg _ R q H5 x u _ Z r5 (step x H5 y5)) λ_ s6 ⟨σ6,H6,I6,q6⟩=>?_)
  refine dN G (thn (j _ s6 σ6 H6 _ I6 q6) λf M l=>?_)
  have again:∀{a:St} {k:Hp},Inv X (pins++zt fp R.heap) a k M->N a k->∃m,m<n/\∃i t H',Inv X pins t H' M/\P i M.heap/\ ↥71/\W i m t H':=λ{a k} c z=>by
   obtain ⟨m',hm,w7⟩:=hN a k z
   refine ⟨m',hm,i+1,a,k,c.unpinned,T.keep _ _ _ y λb j o e=>(c.pin (b,o) (aM _ (aM _ (qN j e)))).1,λb j=>?_,w7⟩
   obtain ⟨o,e,d⟩:=T.obj _ _ y b j
   exact (c.pin (b,o) (aM _ (aM _ (qN j e)))).2.1
  cases f with
  | next=>obtain ⟨a,k,c,z⟩:=l;exact again c z
  | cont=>obtain ⟨a,k,c,z⟩:=l;exact again c z
  | brk=>obtain ⟨a,k,c,l⟩:=l;exact ⟨a,k,c.unpinned,l⟩
  | ret v=>obtain ⟨x7,a,k,c,r7,l⟩:=l;exact ⟨x7,a,k,c.unpinned,r7,l⟩
end
theorem Qh {K:ag}{xs:List V}{g:TG}{tb:TS}{D:Ends}{σ:St}{H:Hp}(Pv:Nat->St->Hp->Prop) (h0:Pv 0 σ H) (Y:∀i σ H,i<=xs.length->Pv i σ H->SqL K H a xs)
  (U:∀i x σ H,xs[i]? = some x->Pv i σ H->g x σ H λj H2=>tb { D with nx:=Pv (i+1),ct:=Pv (i+1),bk:=D.nx } j H2) (hd:∀σ H,Pv xs.length σ H->D.nx σ H) :
  ∃W:Nat->Nat->St->Hp->Prop,↥72/\∀i m σ H,W i m σ H ->
   ((Itl K a).stop i H/\D.nx σ H)\/((Itl K a).go i H/\∃N:St->Hp->Prop,↥102/\∀x H',(Itl K a).yld i H x H'->g x σ H' λj H2=>tb { D with nx:=N,ct:=N,bk:=D.nx } j H2):=by
 refine ⟨λi m σ H=>m=xs.length-i/\i<=xs.length/\Pv i σ H,⟨xs.length,by simp,aT _,h0⟩,?_⟩
 rintro i m σ H ⟨rfl,hi,p⟩
 have q:=Y i σ H hi p
 by_cases b:i<xs.length
 ·refine .inr ⟨⟨xs,xs[i],q,by simp [b]⟩,Pv (i+1),λz H' c=>⟨xs.length-(i+1),∅,rfl,b,c⟩,λx H' y=>?_⟩
  obtain ⟨e,y⟩:=y
  subst e
  exact U i x σ _ (y xs q) p
 ·have e:i=xs.length:=∅
  subst e
  exact .inl ⟨⟨xs,q,ar _⟩,hd σ H p⟩
theorem Js {K:ag}{xs:List V}{g:TG}{tb:TS}{D:Ends}{σ:St}{H:Hp}(Pv:Nat->St->Hp->Prop) (h0:Pv 0 σ H) (Y:∀i σ H,i<=xs.length->Pv i σ H->SqT K H a xs)
  (U:∀i x σ H,xs[i]? = some x->Pv i σ H->g x σ H λj H2=>tb { D with nx:=Pv (i+1),ct:=Pv (i+1),bk:=D.nx } j H2) (hd:∀σ H,Pv xs.length σ H->D.nx σ H) :
  ∃W:Nat->Nat->St->Hp->Prop,↥72/\∀i m σ H,W i m σ H ->
   ((Itt K a).stop i H/\D.nx σ H)\/((Itt K a).go i H/\∃N:St->Hp->Prop,↥102/\∀x H',(Itt K a).yld i H x H'->g x σ H' λj H2=>tb { D with nx:=N,ct:=N,bk:=D.nx } j H2):=by
 refine ⟨λi m σ H=>m=xs.length-i/\i<=xs.length/\Pv i σ H,⟨xs.length,by simp,aT _,h0⟩,?_⟩
 rintro i m σ H ⟨rfl,hi,p⟩
 have q:=Y i σ H hi p
 by_cases b:i<xs.length
 ·refine .inr ⟨⟨xs,xs[i],q,by simp [b]⟩,Pv (i+1),λz H' c=>⟨xs.length-(i+1),∅,rfl,b,c⟩,λx H' y=>?_⟩
  obtain ⟨e,y⟩:=y
  subst e
  exact U i x σ _ (y xs q) p
 ·have e:i=xs.length:=∅
  subst e
  exact .inl ⟨⟨xs,q,ar _⟩,hd σ H p⟩
theorem xk {lo:Int}{n:Nat}{g:TG}{tb:TS}{D:Ends}{σ:St}{H:Hp}(Pv:Nat->St->Hp->Prop) (h0:Pv 0 σ H)
  (U:∀i σ H,i<n->Pv i σ H->g (.int (lo+i)) σ H λj H2=>tb { D with nx:=Pv (i+1),ct:=Pv (i+1),bk:=D.nx } j H2) (Y:∀σ H,Pv n σ H->D.nx σ H) :
  ∃W:Nat->Nat->St->Hp->Prop,↥72/\∀i m σ H,W i m σ H ->
   ((Itr lo n).stop i H/\D.nx σ H)\/((Itr lo n).go i H/\∃N:St->Hp->Prop,↥102/\∀x H',(Itr lo n).yld i H x H'->g x σ H' λj H2=>tb { D with nx:=N,ct:=N,bk:=D.nx } j H2):=by
 refine ⟨λi m σ H=>m=n-i/\i<=n/\Pv i σ H,⟨n,by simp,aT _,h0⟩,?_⟩
 rintro i m σ H ⟨rfl,hi,p⟩
 by_cases a:i<n
 ·refine .inr ⟨a,Pv (i+1),λz H' b=>⟨n-(i+1),∅,rfl,a,b⟩,λx H' y=>?_⟩
  obtain ⟨e,y⟩:=y
  subst e y
  exact U i σ _ a p
 ·have e:i=n:=∅
  subst e
  exact .inl ⟨ar _,Y σ H p⟩
theorem Q8 {c:TT}{tb:TS}{D:Ends}{σ:St}{H:Hp}(Pv:St->Hp->Prop) (μ:St->Hp->Nat) (U:Pv σ H)
  (G:∀σ H,Pv σ H->c σ H λb H1=>if b=true then tb { D with nx:=λj H'=>Pv j H'/\μ j H'<μ σ H,ct:=λj H'=>Pv j H'/\μ j H'<μ σ H,bk:=D.nx } σ H1 else D.nx σ H1)
  (mono:∀σ H Q z,(∀b H1,Q b H1->z b H1)->c σ H Q->c σ H z):YK c tb D σ H:=by
 refine ⟨λm σ H=>m=μ σ H/\Pv σ H,⟨_,rfl,U⟩,?_⟩
 rintro m σ H ⟨rfl,p⟩
 refine mono σ H _ _ (λb H1 q=>?_) (G σ H p)
 cases b with
 | true=>exact ⟨_,λj H' ⟨a,l⟩=>⟨_,l,rfl,a⟩,q⟩
 | false=>exact q
end L2
namespace L2
noncomputable abbrev R2:=V->V->Hp->VK->Prop
noncomputable def OpR (X:Cx) (f:ak->ak->Sem ak) (r:R2):Prop :=
 ∀(pins:List (Addr×Obj)) (s:Shared) (σ:St) (H:Hp) (x y:V) (v u:ak) (Q:VK),Inv X pins σ H s->jy x v->jy y u->r x y H Q ->
  aA ↥2 X.A (f v u) ↥51 X.xe s
noncomputable def UnR (X:Cx) (f:ak->Sem ak) (r:V->Hp->VK->Prop):Prop :=
 ∀(pins:List (Addr×Obj)) (s:Shared) (σ:St) (H:Hp) (x:V) (v:ak) (Q:VK),Inv X pins σ H s->jy x v->r x H Q ->
  aA ↥2 X.A (f v) ↥51 X.xe s
noncomputable def qz (X:Cx) (f:ak) (r:List V->Hp->VK->Prop):Prop :=
 ∀(pins:List (Addr×Obj)) (s:Shared) (σ:St) (H:Hp) (xs:List V) (a:List ak) (Q:VK),Inv X pins σ H s->ju xs a->r xs H Q ->
  aA ↥2 X.A (call f a) ↥51 X.xe s
noncomputable def TruR (X:Cx) (r:V->Hp->(Bool->Hp->Prop)->Prop):Prop :=
 ∀(pins:List (Addr×Obj)) (s:Shared) (σ:St) (H:Hp) (x:V) (v:ak) (Q:Bool->Hp->Prop),Inv X pins σ H s->jy x v->r x H Q ->
  aA ↥2 X.A (tJ v) (TP X pins σ Q) X.xe s
noncomputable def tOp (r:R2) (ta tb:TE):TE:=λσ H Q=>ta σ H λx H1=>tb σ H1 λy H2=>r x y H2 Q
noncomputable def tUn (r:V->Hp->VK->Prop) (ta:TE):TE:=λσ H Q=>ta σ H λx H1=>r x H1 Q
inductive rI (C:Int->Int->Prop) (g:Int->Int->V) (x:V) (y:V) (H:Hp) (Q:VK):Prop
 | mk (i:_) (j:_) (zz1:x = .int i) (zz2:y = .int j) (zz3:C i j/\Q (g i j) H)
inductive rI0 (g:Int->Int->V) (x:V) (y:V) (H:Hp) (Q:VK):Prop
 | mk (i:_) (j:_) (zz1:x = .int i) (zz2:y = .int j) (zz3:Q (g i j) H)
inductive rU (g:Int->V) (x:V) (H:Hp) (Q:VK):Prop
 | mk (i:_) (zz1:x = .int i) (zz2:Q (g i) H)
section
variable {X:Cx}{a b c:Expr}{ta tb tc:TE}{pos:Pos}
theorem UR (ha:PE X a ta) (Y:PE X b tb) {s:Shared}{σ:St}{R:V->V->Hp->Prop}(I:Inv X pins σ H s)
  (h:ta σ H λx H1=>tb σ H1 λy H2=>R x y H2) {Q:ak->Shared->Prop} {f:ak->ak->Sem ak}
  (U:∀v u j x y H2,Inv X pins σ H2 j->jy x v->jy y u->R x y H2->aA ↥2 X.A (f v u) Q X.xe j) :
  aA ↥2 X.A (eval a X.env) (λv G=>aA ↥2 X.A (eval b X.env) (λu z=>aA ↥2 X.A (f v u) Q X.xe z) X.xe G) X.xe s:=by
 refine thn (ha pins s σ H _ I h) λv s1 ⟨x,H1,k,d,g⟩=>?_
 refine thn (Y pins s1 σ H1 _ k g) λu j ⟨y,H2,i,c,e⟩=>?_
 exact U v u j x y H2 i d c e
theorem jk (z:OpR X (fT j) r) (U:PE X a ta) (G:PE X b tb):PE X (.BinOp a j b pos) (tOp r ta tb):=by
 intro pins s σ H Q I h
 exact wpAny_BinOp (UR U G I h λv u c x y H2 f e d q=>z pins c σ H2 x y v u Q f e d q)
theorem zi (z:UnR X (unaryOp j) r) (G:PE X a ta):PE X (.UnaryOp j a pos) (tUn r ta):=by
 intro pins s σ H Q I h
 exact UnaryOp_ (thn (G pins s σ H _ I h) λv s1 ⟨x,H1,d,b,c⟩=>z pins s1 σ H1 x v Q d b c)
theorem opI {f:ak->ak->Sem ak}{C:Int->Int->Prop}{g:Int->Int->Int}
  (rule:∀(i j:Int) (t u:Tok) (s:Shared) (Q:ak->Shared->Prop) (E:ak->Shared->Prop),C i j->Q (.int (g i j) s.toks) { s with toks:=s.toks+1 }->aA ↥2 X.A (f (.int i t) (.int j u)) Q E s) :
  OpR X f (rI C λi j=>.int (g i j)):=by
 intro pins s σ H x y v u Q I c b h
 obtain ⟨i,j,rfl,rfl,d,q⟩:=h
 obtain ⟨t,rfl⟩:=c
 obtain ⟨a,rfl⟩:=b
 exact rule i j t a s _ _ d ⟨.int (g i j),H,I.tok _,⟨_,rfl⟩,q⟩
theorem WA {f:ak->ak->Sem ak}{g:Int->Int->Int}
  (rule:∀(i j:Int) (t u:Tok) (s:Shared) (Q:ak->Shared->Prop) (E:ak->Shared->Prop),Q (.int (g i j) s.toks) { s with toks:=s.toks+1 }->aA ↥2 X.A (f (.int i t) (.int j u)) Q E s) :
  OpR X f (rI0 λi j=>.int (g i j)):=by
 intro pins s σ H x y v u Q I c b h
 obtain ⟨i,j,rfl,rfl,q⟩:=h
 obtain ⟨t,rfl⟩:=c
 obtain ⟨a,rfl⟩:=b
 exact rule i j t a s _ _ ⟨.int (g i j),H,I.tok _,⟨_,rfl⟩,q⟩
theorem Vm {f:ak->ak->Sem ak}{g:Int->Int->Bool}
  (rule:∀(i j:Int) (t u:Tok) (s:Shared) (Q:ak->Shared->Prop) (E:ak->Shared->Prop),Q (.bool (g i j)) s->aA ↥2 X.A (f (.int i t) (.int j u)) Q E s) :
  OpR X f (rI0 λi j=>.bl (g i j)):=by
 intro pins s σ H x y v u Q I c b h
 obtain ⟨i,j,rfl,rfl,q⟩:=h
 obtain ⟨t,rfl⟩:=c
 obtain ⟨a,rfl⟩:=b
 exact rule i j t a s _ _ ⟨.bl (g i j),H,I,rfl,q⟩
noncomputable def Wu (i j:Int):Prop:=0<=j/\j<=1000000/\i.natAbs<2 ^ 64
noncomputable def Yh (i j:Int):Prop:=(-(2 ^ 64)<i/\i<2 ^ 64)\/(-(2 ^ 64)<j/\j<2 ^ 64)
theorem Yh.ok {i j:Int}(h:Yh i j):IntMulOk i j:=by
 rcases h with ⟨h1,h2⟩ | ⟨h1,h2⟩
 ·exact .of_left (sM h1 h2)
 ·exact .of_right (sM h1 h2)
theorem jO:OpR X (fT .Add) (rI0 λi j=>.int (i+j)):=WA λ_ _ _ _ _ _ _ q=>add_int q
theorem xE:OpR X (fT .Sub) (rI0 λi j=>.int (i-j)):=WA λ_ _ _ _ _ _ _ q=>sub_int q
theorem vt:OpR X (fT .Mult) (rI Yh λi j=>.int (i*j)):=opI λ_ _ _ _ _ _ _ a q=>mul_int q a.ok
theorem xi:OpR X (fT .Mod) (rI (λ_ j=>0<j) λi j=>.int (i % j)):=opI λi j _ _ _ _ _ a q=>by
 have h1:(0:Int)<j:=a
 exact mod_int' ∅ (by rw [Int.fmod_eq_emod_of_nonneg i ∅];exact q)
theorem Uz:OpR X (fT .Pow) (rI Wu λi j=>.int (i ^ j.toNat)):=opI λ_ _ _ _ _ _ _ a q=>pow_int_small a.1 a.2.1 a.2.2 q
theorem unI {f:ak->Sem ak}{g:Int->Int}
  (rule:∀(i:Int) (t:Tok) (s:Shared) (Q:ak->Shared->Prop) (E:ak->Shared->Prop),Q (.int (g i) s.toks) { s with toks:=s.toks+1 }->aA ↥2 X.A (f (.int i t)) Q E s) :
  UnR X f (rU λi=>.int (g i)):=by
 intro pins s σ H x v Q I a h
 obtain ⟨i,rfl,q⟩:=h
 obtain ⟨t,rfl⟩:=a
 exact rule i t s _ _ ⟨.int (g i),H,I.tok _,⟨_,rfl⟩,q⟩
theorem xh:UnR X (unaryOp .USub) (rU λi=>.int (-i)):=unI λ_ _ _ _ _ q=>neg_int q
end
noncomputable def U6:V->V->Bool
 | .non,.non=>true | .non,.int _=>true | .int _,.non=>true | .non,.bl _=>true | .bl _,.non=>true | .non,.str _=>true | .str _,.non=>true
 | .int _,.int _=>true | .bl _,.bl _=>true | .str _,.str _=>true | .byt _,.byt _=>true
 | .int _,.str _=>true | .str _,.int _=>true | .bl _,.str _=>true | .str _,.bl _=>true
 | _,_=>false
noncomputable def rEq:R2:=λx y H Q=>U6 x y=true/\Q (.bl (decide (x=y))) H
noncomputable def rNe:R2:=λx y H Q=>U6 x y=true/\Q (.bl (!decide (x=y))) H
theorem XJ {i j:Int}:decide (V.int i=V.int j)=(i == j):=by
 rw [dO]
 simp
theorem Yu {i j:Bool}:decide (V.bl i=V.bl j)=(i == j):=by
 rw [dO]
 simp
theorem XG :decide (V.str i=V.str j)=(i == j):=by
 rw [dO]
 simp
theorem Xz :decide (V.byt i=V.byt j)=(i.toList == j.toList):=by
 rw [dO]
 cases i
 cases j
 simp
section
variable {X:Cx}{a b c:Expr}{ta tb tc:TE}{pos:Pos}
theorem jP {Q:VK}{k j:Bool}(I:Inv X pins σ H s) (q:Q (.bl k) H) (e:k=j):EP X pins σ Q (.bool j) s:=by
 subst e
 exact ⟨.bl k,H,I,rfl,q⟩
theorem vZ:OpR X (cn .Eq) rEq:=by
 intro pins s σ H x y v u Q I d a h
 obtain ⟨c,q⟩:=h
 cases x with
 | non =>
  cases d
  cases y with
  | non=>cases a;exact PySem.EqNone.eq_none_none ↥25
  | bl j=>cases a;exact PySem.EqNone.eq_none_bool ↥25
  | int j=>obtain ⟨b,rfl⟩:=a;exact PySem.EqNone.eq_none_int ↥25
  | str j=>obtain ⟨b,rfl⟩:=a;exact PySem.EqNone.eq_none_str ↥25
  | _=>exact absurd (show false=true from c) au
 | bl i =>
  cases d
  cases y with
  | non=>cases a;exact PySem.EqNone.eq_bool_none ↥25
  | bl j=>cases a;exact eq_bool (jP I q Yu)
  | str j=>obtain ⟨b,rfl⟩:=a;exact PySem.EqMixed.eq_bool_str ↥25
  | _=>exact absurd (show false=true from c) au
 | int i =>
  obtain ⟨t,rfl⟩:=d
  cases y with
  | non=>cases a;exact PySem.EqNone.eq_int_none ↥25
  | int j=>obtain ⟨b,rfl⟩:=a;exact eq_int (jP I q XJ)
  | str j=>obtain ⟨b,rfl⟩:=a;exact PySem.EqMixed.eq_int_str ↥25
  | _=>exact absurd (show false=true from c) au
 | str i =>
  obtain ⟨t,rfl⟩:=d
  cases y with
  | non=>cases a;exact PySem.EqNone.eq_str_none ↥25
  | bl j=>cases a;exact PySem.EqMixed.eq_str_bool ↥25
  | int j=>obtain ⟨b,rfl⟩:=a;exact PySem.EqMixed.eq_str_int ↥25
  | str j=>obtain ⟨b,rfl⟩:=a;exact eq_str (jP I q XG)
  | _=>exact absurd (show false=true from c) au
 | byt i =>
  obtain ⟨t,rfl⟩:=d
  cases y with
  | byt j=>obtain ⟨b,rfl⟩:=a;exact PySem.W.eq_bytes (jP I q Xz)
  | _=>exact absurd (show false=true from c) au
 | _=>cases y <;> exact absurd (show false=true from c) au
theorem Yc:OpR X (cn .NotEq) rNe:=by
 intro pins s σ H x y v u Q I d a h
 obtain ⟨c,q⟩:=h
 cases x with
 | non =>
  cases d
  cases y with
  | non=>cases a;exact PySem.EqNone.ne_none_none ↥25
  | bl j=>cases a;exact PySem.EqNone.ne_none_bool ↥25
  | int j=>obtain ⟨b,rfl⟩:=a;exact PySem.EqNone.ne_none_int ↥25
  | str j=>obtain ⟨b,rfl⟩:=a;exact PySem.EqNone.ne_none_str ↥25
  | _=>exact absurd (show false=true from c) au
 | bl i =>
  cases d
  cases y with
  | non=>cases a;exact PySem.EqNone.ne_bool_none ↥25
  | bl j=>cases a;exact ne_bool (jP I q (congrArg not Yu))
  | str j=>obtain ⟨b,rfl⟩:=a;exact PySem.EqMixed.ne_bool_str ↥25
  | _=>exact absurd (show false=true from c) au
 | int i =>
  obtain ⟨t,rfl⟩:=d
  cases y with
  | non=>cases a;exact PySem.EqNone.ne_int_none ↥25
  | int j=>obtain ⟨b,rfl⟩:=a;exact ne_int (jP I q (congrArg not XJ))
  | str j=>obtain ⟨b,rfl⟩:=a;exact PySem.EqMixed.ne_int_str ↥25
  | _=>exact absurd (show false=true from c) au
 | str i =>
  obtain ⟨t,rfl⟩:=d
  cases y with
  | non=>cases a;exact PySem.EqNone.ne_str_none ↥25
  | bl j=>cases a;exact PySem.EqMixed.ne_str_bool ↥25
  | int j=>obtain ⟨b,rfl⟩:=a;exact PySem.EqMixed.ne_str_int ↥25
  | str j=>obtain ⟨b,rfl⟩:=a;exact ne_str (jP I q (congrArg not XG))
  | _=>exact absurd (show false=true from c) au
 | byt i =>
  obtain ⟨t,rfl⟩:=d
  cases y with
  | byt j=>obtain ⟨b,rfl⟩:=a;exact PySem.W.ne_bytes (jP I q (congrArg not Xz))
  | _=>exact absurd (show false=true from c) au
 | _=>cases y <;> exact absurd (show false=true from c) au
theorem vP:OpR X (cn .Lt) (rI0 λi j=>.bl (decide (i<j))):=Vm λ_ _ _ _ _ _ _ q=>lt_int q
theorem qJ:OpR X (cn .LtE) (rI0 λi j=>.bl (decide (i<=j))):=Vm λ_ _ _ _ _ _ _ q=>le_int q
theorem uL:OpR X (cn .Gt) (rI0 λi j=>.bl (decide (j<i))):=Vm λ_ _ _ _ _ _ _ q=>gt_int q
theorem YW:OpR X (cn .GtE) (rI0 λi j=>.bl (decide (j<=i))):=Vm λ_ _ _ _ _ _ _ q=>ge_int q
theorem UD:OpR X (cn .Is) (λx y H Q=>y = .non/\Q (.bl (decide (x = .non))) H):=by
 intro pins s σ H x y v u Q I a b h
 obtain ⟨rfl,q⟩:=h
 cases b
 refine is_none_gen (jP I q ?_)
 cases x <;> first
  | (cases a;rfl)
  | (obtain ⟨t,rfl⟩:=a;rfl)
theorem jK (b:Expr) {j:CmpOp}(h:j≠.In:=by decide) (h2:j≠.NotIn:=by decide):eU j b=false:=by
 have c:(j == CmpOp.In)=false:=by cases j <;> first | rfl | exact absurd rfl h
 have a:(j == CmpOp.NotIn)=false:=by cases j <;> first | rfl | exact absurd rfl h2
 cases b <;> simp [eU,c,a]
theorem ym (z:OpR X (cn j) r) (Y:PE X a ta) (U:PE X b tb) (G:eU j b=false):PE X (.Compare a [j] [b] pos) (tOp r ta tb):=by
 intro pins s σ H Q I h
 exact wpAny_Compare1 (UR Y U I h λv u c x y H2 f e d q=>z pins c σ H2 x y v u Q f e d q) G
inductive tTestI (Q:Bool->Hp->Prop) (x:V) (H':Hp):Prop
 | mk (k:_) (zz1:x = .bl k) (zz2:Q k H')
noncomputable def Qo (t:TE):TT:=λσ H Q=>t σ H λx H'=>tTestI Q x H'
theorem jv (G:OpR X (cn j) r) (ha:PE X a ta) (Y:PE X b tb) (U:eU j b=false):PT X (.Compare a [j] [b] pos) (Qo (tOp r ta tb)):=by
 intro pins s σ H Q I h
 refine mI (thn (ha pins s σ H _ I h) λv s1 ⟨x,H1,q,i,n⟩=>thn (Y pins s1 σ H1 _ q n) λu d ⟨y,H2,p,g,m⟩ =>
  thn (G pins d σ H2 x y v u _ p i g m) λc w ⟨z,t,o,f,k,e,l⟩=>?_) U
 subst e
 cases f
 exact bT ⟨t,o,l⟩
noncomputable def Yq (r j:R2) (ta tb tc:TE):TE:=λσ H Q=>ta σ H λx H1=>tb σ H1 λy H2=>r x y H2 λz a=>∃k,z = .bl k /\
 (if k=true then tc σ a λb c=>j y b c Q else Q (.bl false) a)
theorem y4 (ho:OpR X (cn G) r) (U:OpR X (cn j) Y) (ha:PE X a ta) (hb:PE X b tb) (hc:PE X c tc)
  (hm:lastMarks [G,j] [b,c]=false:=by with_unfolding_all rfl):PE X (.Compare a [G,j] [b,c] pos) (Yq r Y ta tb tc):=by
 intro pins s σ H Q I h
 refine Compare_chain (thn (ha pins s σ H _ I h) λv s1 ⟨x,H1,K,A,D⟩=>chain_link (thn (hb pins s1 σ H1 _ K D) λu q ⟨y,H2,J,f,C⟩ =>
  thn (ho pins q σ H2 x y v u _ J A f C) λd p ⟨z,l,i,w,k,e,g⟩=>?_)) hm
 subst e
 cases w
 refine bT ?_
 cases k with
 | false=>exact ite_ff ⟨.bl false,l,i,rfl,g⟩
 | true=>exact ite_tt (chain_last (thn (hc pins p σ l _ i g) λn o ⟨m,L,E,t,B⟩=>U pins o σ L y m u n Q E f t B))
theorem zo (ho:OpR X (cn G) r) (U:OpR X (cn j) Y) (ha:PE X a ta) (hb:PE X b tb) (hc:PE X c tc)
  (hm:lastMarks [G,j] [b,c]=false:=by with_unfolding_all rfl):PT X (.Compare a [G,j] [b,c] pos) (Qo (Yq r Y ta tb tc)):=by
 intro pins s σ H Q I h
 refine isTrue_chain (thn (ha pins s σ H _ I h) λv s1 ⟨x,H1,R,B,J⟩=>test_link (thn (hb pins s1 σ H1 _ R J) λu q ⟨y,H2,P,f,E⟩ =>
  thn (ho pins q σ H2 x y v u _ P B f E) λd p ⟨z,l,i,A,k,e,g⟩=>?_)) hm
 subst e
 cases A
 refine bT ?_
 cases k with
 | false =>
  obtain ⟨k',M,K⟩:=g
  cases M
  exact ite_ff ⟨l,i,K⟩
 | true =>
  refine ite_tt (test_last (thn (hc pins p σ l _ i g) λn o ⟨m,T,O,w,D⟩=>thn (U pins o σ T y m u n _ O f w D) λd' Z ⟨V,S,N,t,k2,L,C⟩=>?_))
  subst L
  cases t
  exact bT ⟨S,N,C⟩
noncomputable def UV (K:ag) (x:V) (H:Hp) (k:Bool):Prop :=
 match x with
 | .non=>k=false
 | .bl b=>k=b
 | .int i=>k=(i != 0)
 | .str y=>y.length<=sizeLine/\k=((y.length:Int) != 0)
 | .byt y=>y.size<=sizeLine/\k=((y.size:Int) != 0)
 | .ref p=>(∃xs,SqL K H p xs/\k = !xs.isEmpty)\/(∃xs,SqT K H p xs/\k = !xs.isEmpty)\/∃kvs,H p=some (.dK kvs)/\k = !kvs.isEmpty
 | _=>False
theorem X0 {κ:Type}{kvs:List (κ×V)}{vs:List (κ×ak)}(r:KV kvs vs):(!vs.isEmpty) = !kvs.isEmpty:=by
 cases r <;> rfl
theorem wq (r:ju xs its):(!its.toArray.isEmpty) = !xs.isEmpty:=by
 cases r <;> simp
theorem uE:(sizeLine:Nat)<2 ^ 63:=by rw [bQ];decide
theorem Uj:TruR X (λx H Q=>∃k,UV X.K x H k/\Q k H):=by
 intro pins s σ H x v Q I c h
 obtain ⟨k,e,q⟩:=h
 have z:=uE
 have u:sizeLine=16777216:=bQ
 cases x with
 | non =>
  cases c
  have a:k=false:=e
  subst a
  exact truthy_none ⟨H,I,q⟩
 | bl b =>
  cases c
  have a:k=b:=e
  subst a
  exact bT ⟨H,I,q⟩
 | int i =>
  obtain ⟨t,rfl⟩:=c
  have a:k=(i != 0):=e
  subst a
  exact PySem.P.truthy_int ⟨H,I,q⟩
 | str y =>
  obtain ⟨t,rfl⟩:=c
  obtain ⟨n,a⟩:y.length<=sizeLine/\k=((y.length:Int) != 0):=e
  subst a
  exact PySem.P.truthy_str ∅ ⟨H,I.tok _,q⟩
 | byt y =>
  obtain ⟨t,rfl⟩:=c
  obtain ⟨n,a⟩:y.size<=sizeLine/\k=((y.size:Int) != 0):=e
  subst a
  exact PySem.W.truthy_bytes ∅ ⟨H,I.tok _,q⟩
 | ref p =>
  cases c
  have a:(∃xs,SqL X.K H p xs/\k = !xs.isEmpty)\/(∃xs,SqT X.K H p xs/\k = !xs.isEmpty)\/∃kvs,H p=some (.dK kvs)/\k = !kvs.isEmpty:=e
  rcases a with ⟨xs,d,a⟩ | ⟨xs,d,a⟩ | ⟨kvs,d,a⟩
  ·subst a
   obtain ⟨j,r,g,l⟩:=I.list d
   have f:=r.length
   exact wpAny_truthy_list g.isList (by simp only [av];omega) ⟨H,I.tok _,by rw [wq r];exact q⟩
  ·subst a
   obtain ⟨j,r,g,l⟩:=I.tuple d
   have f:=r.length
   exact truthy_tuple g (by simp only [av];omega) ⟨H,I.tok _,by rw [wq r];exact q⟩
  ·subst a
   obtain ⟨l,o,vs,r,m⟩:kvs.length<=sizeLine/\(p == dX)=false/\∃vs,KV kvs vs/\s.heap.DictOf (jC X.prog X.w) p vs:=I.hok p _ d
   have f:kvs.length=vs.length:=aZ r
   exact wpAny_truthy_dict o m ∅ ⟨H,I.tok _,by rw [X0 r];exact q⟩
 | _=>exact (show False from e).elim
theorem Ye (G:PE X a ta) (z:∀j,isTrue a X.env j=(do let v <- j;dQ a.pos;dG [v] (tJ v))) :
  PT X a (λσ H Q=>ta σ H λx H'=>∃k,UV X.K x H' k/\Q k H'):=by
 intro pins s σ H Q I h
 exact isTrue_plain (thn (G pins s σ H _ I h) λv s1 ⟨x,H1,d,b,c⟩=>Uj pins s1 σ H1 x v Q d b c) (z _)
theorem xB {x:V}(r:ju [x] us):∃u,us=[u]/\jy x u:=by
 cases r with
 | cons b a=>cases a;exact ⟨_,rfl,b⟩
theorem XI {x y:V}(r:ju [x,y] us):∃u w',us=[u,w']/\jy x u/\jy y w':=by
 cases r with
 | cons d c =>
  cases c with
  | cons b a=>cases a;exact ⟨_,_,rfl,d,b⟩
inductive cI_call_abs (xs:List V) (H:Hp) (Q:VK):Prop
 | mk (i:_) (zz1:xs=[.int i]) (zz2:Q (.int (if i<0 then -i else i)) H)
theorem Yr:qz X (.builtin "abs") cI_call_abs:=by
 intro pins s σ H xs a Q I r h
 obtain ⟨i,rfl,q⟩:=h
 obtain ⟨u,rfl,t,rfl⟩:=xB r
 exact call_abs_int λu tk=>⟨.int (if i<0 then -i else i),H,I.tok _,⟨_,rfl⟩,q⟩
inductive cI_call_max2 (xs:List V) (H:Hp) (Q:VK):Prop
 | mk (i:_) (j:_) (zz1:xs=[.int i,.int j]) (zz2:Q (.int (if j > i then j else i)) H)
theorem ux (z:X.calm=true):qz X (.builtin "max") cI_call_max2:=by
 intro pins s σ H xs c Q I r h
 obtain ⟨i,j,rfl,q⟩:=h
 obtain ⟨u,b,rfl,⟨t,rfl⟩,⟨d,rfl⟩⟩:=XI r
 refine max_two_ints (I.ok.hd z) λh' tk k=>⟨_,H,I.kept k,?_,q⟩
 by_cases a:j > i
 ·rw [if_pos a,if_pos a];exact ⟨_,rfl⟩
 ·rw [if_neg a,if_neg a];exact ⟨_,rfl⟩
inductive cI_call_min2 (xs:List V) (H:Hp) (Q:VK):Prop
 | mk (i:_) (j:_) (zz1:xs=[.int i,.int j]) (zz2:Q (.int (if j<i then j else i)) H)
theorem uv (z:X.calm=true):qz X (.builtin "min") cI_call_min2:=by
 intro pins s σ H xs c Q I r h
 obtain ⟨i,j,rfl,q⟩:=h
 obtain ⟨u,b,rfl,⟨t,rfl⟩,⟨d,rfl⟩⟩:=XI r
 refine min_two_ints (I.ok.hd z) λh' tk k=>⟨_,H,I.kept k,?_,q⟩
 by_cases a:j<i
 ·rw [if_pos a,if_pos a];exact ⟨_,rfl⟩
 ·rw [if_neg a,if_neg a];exact ⟨_,rfl⟩
theorem Zy:qz X (.type "int") (λxs H Q=>(∃i,xs=[.int i]/\Q (.int i) H)\/∃k,xs=[.bl k]/\Q (.int (if k then 1 else 0)) H):=by
 intro pins s σ H xs b Q I r h
 rcases h with ⟨i,rfl,q⟩ | ⟨k,rfl,q⟩
 ·obtain ⟨u,rfl,t,rfl⟩:=xB r
  exact call_int_int ⟨.int i,H,I,⟨_,rfl⟩,q⟩
 ·obtain ⟨u,rfl,a⟩:=xB r
  cases a
  exact call_int_bool ⟨.int (if k then 1 else 0),H,I.tok _,⟨_,rfl⟩,q⟩
end
end L2
namespace L2
structure ObjM (h:Heap) (x dx C:Addr) (mA:Str->Option ak):Prop where
 obj:h.get? x=some (di C dx)
 ns:h.Ns1 dx mA
 ne:dx≠x
theorem Zb {h:Heap}(n:h.Ns1 dx mA):∃j,h.get? dx=some j/\∀name,iX name j=some (mA name):=by
 obtain ⟨o,es,l,d,i,g,_,f⟩:=n
 refine ⟨o,d,λname=>?_⟩
 have e:=f name
 unfold nsFind findBy at e
 rw [<- Array.find?_toList] at e
 unfold iX
 rw [i]
 dsimp only
 split
 ·rename_i y q
  rw [q] at e
  exact congrArg some e
 ·rename_i q
  rw [q] at e
  have a:es.toList.any (·.refKey)=false:=by
   rw [List.any_eq_false]
   intro y c
   obtain ⟨z,t,b⟩:=g y (Array.mem_toList_iff.mp c)
   simp [DictEntry.refKey,b]
  have k:¬es.toList.any (·.refKey)=true:=by rw [a];exact au
  rw [if_neg k]
  exact congrArg some e
theorem ObjM.look {x dx:Addr}(I:ObjM h x dx C mA):∃j,PySem.W.InstAt h x (di C dx) C (some j)/\∀name,iX name j=some (mA name) :=
 let ⟨j,a,b⟩:=Zb I.ns
 ⟨j,⟨I.obj,rfl,rfl,a⟩,b⟩
section
variable {prog:Program}{w:bA}{A:bI}{E:ak->Shared->Prop}{s:Shared}{K:ag}{x dx C f:Addr}{mA:Str->Option ak}{name:Str}{v:ak}
theorem VG {j:Bool}{Q:ak->Shared->Prop}(X:K.In s.heap) (I:ObjM s.heap x dx C mA) (Y:fm K C name=true) (U:fU K C=true)
  (ha:bU K (.ref C) name=some none) (G:mA name=some v) (z:pq v=true) (h:Q v { s with toks:=s.toks+1 }) :
  aA (aF prog w) A (getAttr (.ref x) name j) Q E s:=by
 obtain ⟨b,J,a⟩:=I.look
 exact PySem.W.get_value X J (iP Y).1 (PySem.W.findObj_own U ha rfl (by rw [a,G])) z h
theorem ZX {Q:ak×List ak->Shared->Prop}(X:K.In s.heap) (I:ObjM s.heap x dx C mA) (j:fm K C name=true)
  (U:bU K (.ref C) name=some (some (.ref f))) (G:oF K (.ref f)=true) (z:mA name=none) (h:Q (.ref f,[.ref x]) s) :
  aA (aF prog w) A (ie (.ref x) name pl) Q E s:=by
 obtain ⟨a,J,b⟩:=I.look
 exact PySem.W.method_fn X J (iP j).1 (iP j).2 U (beq_iff_eq.mp G) (by show (iX name a).map (·.isSome)=some false;rw [b,z];rfl) h
theorem Vn {Q:Unit->Shared->Prop}(X:K.In s.heap) (I:ObjM s.heap x dx C mA)
  (U:bU K (.ref C) "__setattr__" = some (some (.builtin "object.__setattr__"))) (Y:lC K C=true) (G:mz K C name=some none) (hh:fU K C=true)
  (z:oC mA ns) (hsz:ns.length<=sizeLine)
  (h:∀h',ObjM h' x dx C (λy=>if y=name then some v else mA y)->eM dx s.heap h'->Q () { s with heap:=h',toks:=s.toks+2 }) :
  aA (aF prog w) A (setAttr (.ref x) name v) Q E s:=by
 obtain ⟨n,J,o⟩:=I.look
 refine PySem.W.set_plain X J U (PySem.W.osa_open (s:={ s with toks:=s.toks+1 }) (r:=none) X J Y G λb=>?_)
 obtain ⟨p,k,g⟩:=PySem.W.any_some hh
 have j:s.heap.get? x=some ⟨.ref C,some dx,.plain,#[]⟩:=I.obj
 refine af (wpAny_pure (af (af (wpAny_loadPart j (af (PySem.W.Looks.here (s:={ s with toks:=s.toks+1 }) (PySem.W.looks_clsIn X k) ?_))))))
 rw [g]
 refine wpAny_pure (a:=some dx) (af (wpAny_pure (af ?_)))
 refine wpAny_nsSet1 (s:={ s with toks:=s.toks+1 }) I.ns λh' d c=>?_
 obtain ⟨oD,l,m,e,f,i⟩:=d.count (PySem.Within.cons name v z)
 refine af (wpAny_lookBehind e (by rw [f];exact pastItsLine_dict (aI i (by rw [bc];omega))) ?_)
 exact wpAny_pure (h _ ⟨(c.2 _ (cC I.ne)).trans I.obj,d,I.ne⟩ c)
theorem Yx {vs:List ak}{kw:List (Str×ak)}(X:K.In s.heap) (j:mB K C=true)
  (hi:bU K (.ref C) "__init__" = some (some (.ref f))) (z:PySem.W.typeIn K (.ref f)=some (.type "function"))
  (h:d7 (aF prog w) (A.under (.builtin "type.__call__" ⟨.ref C::vs,kw⟩)) (.call (.ref f) ⟨.ref ↥13::vs,kw⟩) (PySem.W.InitBack ↥13 R)
   { s with heap:=(s.heap.push cD).push (di C s.heap.objs.size) }) :
  d7 (aF prog w) A (.call (.ref C) ⟨vs,kw⟩) R s:=by
 obtain ⟨b,g,d,t,os⟩:=s
 exact PySem.W.make_core (PySem.W.makes_of X j) (PySem.W.looks_findIn X hi) (λa=>PySem.W.bind_fn X a z) (.inl rfl) h
end
noncomputable def jp (f:Str) (v:V):List (Str×V)->List (Str×V)
 | []=>[(f,v)]
 | (g,x)::r=>if g=f then (g,v)::r else (g,x)::jp f v r
theorem jt (f g:Str) (v:V):∀fs:List (Str×V),(jp f v fs).lookup g=if g=f then some v else fs.lookup g
 | []=>by
  show eL g [(f,v)]=_
  by_cases h:g=f
  ·have a:(g == f)=true:=beq_iff_eq.mpr h
   simp only [eL,a,if_pos h]
  ·have a:(g == f)=false:=beq_eq_false_iff_ne.mpr h
   simp only [eL,a,if_neg h]
 | (k,x)::r=>by
  have c:=jt f g v r
  rw [show jp f v ((k,x)::r)=(if k=f then (k,v)::r else (k,x)::jp f v r) from rfl]
  by_cases b:k=f
  ·rw [if_pos b]
   by_cases h:g=k
   ·have a:(g == k)=true:=beq_iff_eq.mpr h
    simp only [eL,a,if_pos (h.trans b)]
   ·have a:(g == k)=false:=beq_eq_false_iff_ne.mpr h
    simp only [eL,a,if_neg (λe:g=f=>h (e.trans b.symm))]
  ·rw [if_neg b]
   by_cases h:g=k
   ·have a:(g == k)=true:=beq_iff_eq.mpr h
    simp only [eL,a,if_neg (λe:g=f=>b (h.symm.trans e))]
   ·have a:(g == k)=false:=beq_eq_false_iff_ne.mpr h
    simp only [eL,a]
    exact c
theorem uq (f:Str) (v:V):∀fs:List (Str×V),f∈(jp f v fs).map (·.1)/\∀g,g∈fs.map (·.1)->g∈(jp f v fs).map (·.1)
 | []=>⟨by simp [jp],λg h=>by simp at h⟩
 | (k,x)::r=>by
  obtain ⟨c,b⟩:=uq f v r
  rw [show jp f v ((k,x)::r)=(if k=f then (k,v)::r else (k,x)::jp f v r) from rfl]
  by_cases a:k=f
  ·rw [if_pos a]
   subst a
   exact ⟨by simp,λg h=>by simpa using h⟩
  ·rw [if_neg a]
   refine ⟨?_,λg h=>?_⟩
   ·rw [aO]
    exact aD _ c
   ·rw [aO] at h ⊢
    rcases List.mem_cons.mp h with e | e
    ·exact List.mem_cons.mpr (.inl e)
    ·exact aD _ (b g e)
theorem jT (f:Str) (v:V):∀fs:List (Str×V),(jp f v fs).length<=fs.length+1
 | []=>by simp [jp]
 | (k,x)::r=>by
  have b:=jT f v r
  rw [show jp f v ((k,x)::r)=(if k=f then (k,v)::r else (k,x)::jp f v r) from rfl]
  by_cases a:k=f
  ·rw [if_pos a,bc,bc];omega
  ·rw [if_neg a,bc,bc];omega
theorem yA.some_of (r:yA (some v) o):∃u,o=some u/\jy v u:=by
 cases o with
 | none=>exact (show False from r).elim
 | some u=>exact ⟨u,rfl,r⟩
theorem yA.none_of (r:yA none o):o=none:=by
 cases o with
 | none=>rfl
 | some u=>exact (show False from r).elim
theorem Zr (r:jy v u):pq u=true:=by
 cases v with
 | non=>cases (show u=b8 from r);rfl
 | bl b=>cases (show u=lW b from r);rfl
 | int i=>obtain ⟨t,e⟩:=(show ∃t,u=df i t from r);cases e;rfl
 | str x=>obtain ⟨t,e⟩:=(show ∃t,u=nv x t from r);cases e;rfl
 | byt b=>obtain ⟨t,e⟩:=(show ∃t,u=Value.bytes b t from r);cases e;rfl
 | flt b=>obtain ⟨t,e⟩:=(show ∃t,u=pQ b t from r);cases e;rfl
 | ref a=>cases (show u=aV a from r);rfl
 | ty n=>cases (show u=cO n from r);rfl
section
variable {P:Program}{w:bA}{H H':Hp}{h h':Heap}{a C dx:Addr}{fs fs':List (Str×V)}
theorem uY (j:HOk P w H h) (e:H a=some ↥113):∃mA,ObjM h a dx C mA/\(∀f,yA (fs.lookup f) (mA f))/\oC mA (fs.map (·.1))/\fs.length<=1000/\H dx=some (.own a):=by
 obtain ⟨d,z,ne,b,mA,n,r,q⟩:=(show qa P w H h a ↥113 from j a _ e)
 exact ⟨mA,⟨b,n,ne⟩,r,q,z,d⟩
end
structure Cls (K:ag) (C:Addr):Prop where
 pg:fm K C Str.empty=true
 hd:fU K C=true
 po:lC K C=true
 sa:bU K (.ref C) "__setattr__" = some (some (.builtin "object.__setattr__"))
theorem Cls.get {K:ag}(c:Cls K C) (f:Str):fm K C f=true:=c.pg
noncomputable def zg (K:ag) (C:Addr) (f:Str):Prop:=bU K (.ref C) f=some none
theorem zg.taker {K:ag}(n:zg K C f):mz K C f=some none:=by
 unfold mz
 rw [show bU K (.ref C) f=some none from n]
 rfl
structure Meth (K:ag) (C:Addr) (m:Str) (f:Addr):Prop where
 at_:bU K (.ref C) m=some (some (.ref f))
 fn:oF K (.ref f)=true
 kp:c7 K (.ref f)=true
section
variable {X:Cx}{pins:List (Addr×Obj)}{σ:St}{H:Hp}{s:Shared}{a C dx:Addr}{fs:List (Str×V)}{f:Str}{v:V}{A:bI}{E:ak->Shared->Prop}
theorem Xn {b:Bool}{Q:ak->Shared->Prop}(I:Inv X pins σ H s) (e:H a=some ↥113) (c:Cls X.K C) (n:zg X.K C f) (l:fs.lookup f=some v)
  (h:∀u s',Inv X pins σ H s'->jy v u->Q u s'):aA ↥2 A (getAttr (.ref a) f b) Q E s:=by
 obtain ⟨mA,O,r,_,_,_⟩:=uY I.hok e
 obtain ⟨u,g,d⟩:=yA.some_of (v:=v) (o:=mA f) (by rw [<- l];exact r f)
 exact VG I.kIn O (c.get f) c.hd n g (Zr d) (h u _ (I.tok _) d)
theorem yt {Q:ak×List ak->Shared->Prop}(I:Inv X pins σ H s) (e:H a=some ↥113) (c:Cls X.K C) (k:Meth X.K C m g) (l:fs.lookup m=none)
  (h:Q (.ref g,[.ref a]) s):aA ↥2 A (ie (.ref a) m pl) Q E s:=by
 obtain ⟨mA,O,r,_,_,_⟩:=uY I.hok e
 have b:mA m=none:=yA.none_of (by rw [<- l];exact r m)
 exact ZX I.kIn O (c.get m) k.at_ k.fn b h
theorem QJ {Q:Unit->Shared->Prop}(I:Inv X pins σ H s) (e:H a=some ↥113) (c:Cls X.K C) (n:zg X.K C f) (U:fs.length<1000) (G:jy y u)
  (h:∀s',Inv X pins σ (upd H a (.ins C dx (jp f y fs))) s'->Q () s'):aA ↥2 A (setAttr (.ref a) f u) Q E s:=by
 obtain ⟨mA,O,r,i,_,j⟩:=uY I.hok e
 have l:(fs.map (·.1)).length<=sizeLine:=by rw [aa,bQ];omega
 refine Vn I.kIn O c.sa c.po n.taker c.hd i l λh' d k=>h _ ?_
 have p:∃o,h'.get? dx=some o:=let ⟨o,_,_,v,_⟩:=d.ns;⟨o,v⟩
 refine I.write (x:=a) (e:=dx) (by rw [e];exact dm) (.inr j) (λb q t z=>(k.2 b t).trans z) p ?_
 refine ⟨by rw [j7 O.ne];exact j,?_,O.ne,d.obj,_,d.ns,λg=>?_,λg m=>?_⟩
 ·have:=jT f y fs;omega
 ·show yA ((jp f y fs).lookup g) (if g=f then some u else mA g)
  rw [jt]
  by_cases q:g=f
  ·rw [if_pos q,if_pos q];exact G
  ·rw [if_neg q,if_neg q];exact r g
 ·by_cases q:g=f
  ·rw [q];exact (uq f y fs).1
  ·refine (uq f y fs).2 g (i g λz=>m ?_)
   show (if g=f then some u else mA g)=none
   rw [if_neg q];exact z
theorem Inv.made (I:Inv X pins σ H s):Inv X pins σ (upd (upd H s.heap.objs.size (.own ↥13)) ↥13 (.ins C s.heap.objs.size []))
  { s with heap:=(s.heap.push cD).push (di C s.heap.objs.size) }:=by
 have c:(s.heap.push cD).get? s.heap.objs.size=some cD:=az s.heap rfl
 have h:((s.heap.push cD).push (di C s.heap.objs.size)).get? ↥13=some (di C s.heap.objs.size):=by
  have:=az (s.heap.push cD) (o:=di C s.heap.objs.size) rfl
  rwa [bX] at this
 have g:(s.heap.push cD).Ns s.heap.objs.size (λ_=>none):=⟨cD,#[],_,c,rfl,(λe f=>absurd f (by simp)),λ_=>rfl⟩
 have i:=I.laid (a:=s.heap.objs.size) (o:=.own ↥13) (h':=s.heap.push cD) (t':=s.toks) (λb u q=>ah _ q) (ar _) ⟨_,c⟩
 refine i.laid (a:=s.heap.objs.size+1) (o:=.ins C s.heap.objs.size []) (t':=s.toks) (λb u q=>ah _ q) (oG (bX _ _)) ?_
 have ne:s.heap.objs.size≠s.heap.objs.size+1:=aC (d5 _)
 refine ⟨by rw [j7 ne,j4],aT _,ne,h,λ_=>none,(Heap.Ns1.of_empty g).at λo q=>ah _ q,λ_=>dm,λy d=>absurd rfl d⟩
theorem VE {prog:Program}{w:bA}{env:Env}{e:Expr}{f:Str}{pos:Pos}{s:Shared}{Q:ak->Shared->Prop}(z:dY e f env (eval e env)=eval e env)
  (h:aA (aF prog w) A (eval e env) (λo j=>aA (aF prog w) A (getAttr o f true) Q E j) E s):aA (aF prog w) A (eval (.Attribute e f pos) env) Q E s :=
 Attribute_any_ h (by rw [arm_eval_Attribute,z])
end
inductive tFldI (K:ag) (f:Str) (Q:VK) (x:V) (H1:Hp):Prop
 | mk (a:_) (C:_) (dx:_) (fs:_) (v:_) (zz1:x = .ref a) (zz2:H1 a=some ↥113) (zz3:Cls K C) (zz4:zg K C f) (zz5:fs.lookup f=some v) (zz6:Q v H1)
noncomputable def Ww (K:ag) (ta:TE) (f:Str):TE:=λσ H Q=>ta σ H λx H1=>tFldI K f Q x H1
inductive sFldI (K:ag) (f:Str) (D:Ends) (σ:St) (y:V) (x:V) (H2:Hp):Prop
 | mk (a:_) (C:_) (dx:_) (fs:_) (zz1:x = .ref a) (zz2:H2 a=some ↥113) (zz3:Cls K C) (zz4:zg K C f) (zz5:fs.length<1000) (zz6:D.nx σ (upd H2 a (.ins C dx (jp f y fs))))
noncomputable def Wd (K:ag) (ta tv:TE) (f:Str):TS:=λD σ H=>tv σ H λy H1=>ta σ H1 λx H2=>sFldI K f D σ y x H2
section
variable {X:Cx}{o e value:Expr}{f:Str}{pos pos' tpos:Pos}{ta tv:TE}
theorem UL (j:PE X e ta) (z:dY e f X.env (eval e X.env)=eval e X.env):PE X (.Attribute e f pos) (Ww X.K ta f):=by
 intro pins s σ H Q I h
 refine VE z (thn ↥124 λu s1 ⟨x,H1,k,b,a,C,dx,fs,v,ex,g,c,n,l,q⟩=>?_)
 subst ex
 obtain rfl:u=aV a:=b
 exact Xn k g c n l λm o i d=>⟨v,H1,i,d,q⟩
theorem UF (G:PE X o ta) (j:PE X value tv) (z:iU value (some (.Attribute o f pos')) pos.line X.env=pure false):PS X (.Assign [.Attribute o f pos'] value pos) (Wd X.K ta tv f):=by
 intro pins s σ H D I h
 refine plainObj_wpAny_Assign_Attribute (thn ↥124 λu s1 ⟨y,H1,p,b,q⟩=>thn (G pins s1 σ H1 _ p q) λg t ⟨x,H2,m,d,a,C,dx,fs,ex,i,c,n,l,e⟩=>?_) z
 subst ex
 obtain rfl:g=aV a:=d
 exact QJ m i c n l b λr k=>⟨σ,_,k,e⟩
theorem VR (U:PE X e te) (I:Inv X pins σ H s)
  (h:te σ H λx H1=>∃a C dx fs g,x = .ref a/\H1 a=some ↥113/\Cls X.K C/\Meth X.K C m g/\fs.lookup m=none /\
   ∀s1,Inv X pins σ H1 s1->aA ↥2 X.A (lR pos (.ref g) [.ref a] (ck pos (aN j X.env)) ↥114) Q X.xe s1)
  (G:eval (.Call (.Attribute e m apos) j [] pos) X.env=(do
   let z <- eval e X.env
   dQ apos.atName
   let (f,first) <- dG [z] (ie z m pl)
   lR pos f first (ck pos (aN j X.env)) ↥114)) :
  aA ↥2 X.A (eval (.Call (.Attribute e m apos) j [] pos) X.env) Q X.xe s:=by
 refine eY (pl:=pl) (thn (U pins s σ H _ I h) λu s1 ⟨x,H1,b,d,a,C,dx,fs,g,ex,i,c,k,l,q⟩=>?_) G
 subst ex
 obtain rfl:u=aV a:=d
 exact yt b i c k l (q s1 b)
end
section
variable {X:Cx}{pins:List (Addr×Obj)}{σ:St}{H:Hp}{s:Shared}{A:bI}{E:ak->Shared->Prop}{Q:ak->Shared->Prop}{c:ak}{b:Bool}
inductive TyOf (K:ag) (H:Hp):V->ak->Prop where
 | non:TyOf K H .non (.type "NoneType")
 | bl (x:Bool):TyOf K H (.bl x) (.type "bool")
 | int (i:Int):TyOf K H (.int i) (.type "int")
 | str (x:Str):TyOf K H (.str x) (.type "str")
 | flt (x:UInt64):TyOf K H (.flt x) (.type "float")
 | lst {a:Addr} {xs:List V} (e:H a=some (.lst xs)):TyOf K H (.ref a) (.type "list")
 | frz {a:Addr} {o:Obj} {xs:List V} (e:H a=some (.frz o (.lst xs))):TyOf K H (.ref a) (.type "list")
 | tup {a:Addr} {xs:List V} (e:H a=some (.tup xs)):TyOf K H (.ref a) (.type "tuple")
 | dK {a:Addr} {kvs:List (Key×V)} (e:H a=some (.dK kvs)):TyOf K H (.ref a) (.type "dict")
 | dT {a:Addr} {kvs:List (List Key×V)} (e:H a=some (.dT kvs)):TyOf K H (.ref a) (.type "dict")
 | ins {a C dx:Addr} {fs:List (Str×V)} (e:H a=some ↥113) (cl:Cls K C) (ha:bU K (.ref C) "__class__" = some (some (.builtin "object.__class__")))
   (hn:PySem.W.specialIn K (.builtin "object.__class__") "__get__" = some (some (.builtin "getset_descriptor.__get__"))) (htk:PySem.W.takesIn K (.builtin "object.__class__")=some true)
   (hm:PySem.W.mroIn K C (.type "object")=some true):TyOf K H (.ref a) (.ref C)
theorem Zi (I:Inv X pins σ H s) (j:jy x u) (ty:TyOf X.K H x t) (e:eE X.K t c=some b) (h:∀tk,Q (.bool b) { s with toks:=tk }) :
  aA ↥2 A (call (.builtin "isinstance") [u,c]) Q E s:=by
 cases ty with
 | non=>cases (show u=b8 from j);exact cx PySem.W.kitx_none I.kIn dm e ↥93 h
 | bl y=>cases (show u=lW y from j);exact cx PySem.W.kitx_bool I.kIn dm e ↥93 h
 | int i=>obtain ⟨t,q⟩:=(show ∃t,u=df i t from j);cases q;exact cx PySem.W.kitx_int I.kIn dm e ↥93 h
 | str y=>obtain ⟨t,q⟩:=(show ∃t,u=nv y t from j);cases q;exact cx PySem.W.kitx_str I.kIn dm e ↥93 h
 | flt y=>obtain ⟨t,q⟩:=(show ∃t,u=pQ y t from j);cases q;exact cx PySem.W.kitx_float I.kIn dm e ↥93 h
 | @lst a xs d =>
  cases (show u=aV a from j)
  obtain ⟨_,_,n,_,h1⟩:=(show qa X.prog X.w H s.heap a (.lst xs) from I.hok a _ d)
  exact cx oH I.kIn ⟨_,h1,rfl⟩ e ↥93 h
 | @frz a k xs d =>
  cases (show u=aV a from j)
  obtain ⟨_,_,_,n,_,h1⟩:=(show qa X.prog X.w H s.heap a (.frz k (.lst xs)) from I.hok a _ d)
  exact cx oH I.kIn ⟨_,h1,rfl⟩ e ↥93 h
 | @tup a xs d =>
  cases (show u=aV a from j)
  obtain ⟨_,_,_,p⟩:=(show qa X.prog X.w H s.heap a (.tup xs) from I.hok a _ d)
  obtain ⟨o,h1,h2,_⟩:=p
  exact cx PySem.W.kitx_tuple I.kIn ⟨o,h1,h2⟩ e ↥93 h
 | @dK a kvs d =>
  cases (show u=aV a from j)
  obtain ⟨_,_,B,_,p⟩:=(show qa X.prog X.w H s.heap a (.dK kvs) from I.hok a _ d)
  obtain ⟨o,es,v,h1,h2,_⟩:=p
  exact cx oI I.kIn ⟨o,h1,h2.1⟩ e ↥93 h
 | @dT a kvs d =>
  cases (show u=aV a from j)
  obtain ⟨_,_,xs,_,o,es,v,h1,h2,_⟩:=(show qa X.prog X.w H s.heap a (.dT kvs) from I.hok a _ d)
  exact cx oI I.kIn ⟨o,h1,h2.1⟩ e ↥93 h
 | @ins a C dx fs d g r l f m =>
  cases (show u=aV a from j)
  obtain ⟨mA,O,_⟩:=uY I.hok d
  obtain ⟨D,J,_⟩:=O.look
  exact cx (PySem.W.kitx_own (g.get _) g.hd r l f m) I.kIn J e ↥93 h
end
end L2
namespace L2
structure Room (k:Nat) (A:bI):Prop where
 hd:A.handled=none
 dp:A.depth+3*k+5<recursionLimit
 un:A.units+16*k+200<cLine
theorem Room.mono {j k:Nat}{A:bI}(r:Room k A) (h:j<=k):Room j A:=⟨r.hd,by have:=r.dp;omega,by have:=r.un;omega⟩
theorem Room.deeper {k:Nat}{A:bI}(r:Room (k+1) A) (env:Env):Room k (A.deeper env) :=
 ⟨r.hd,by have:=r.dp;show A.depth+1+3*k+5<_;omega,by have:=r.un;show A.units+3+16*k+200<_;omega⟩
theorem Room.in1 {k:Nat}{A:bI}(r:Room (k+1) A):Room k A.in1 :=
 ⟨r.hd,by have:=r.dp;show A.depth+3*k+5<_;omega,by have:=r.un;show A.units+1+16*k+200<_;omega⟩
theorem QM {A:bI}{us:List ak}{kw:List (Str×ak)}: (↥67).depth=A.depth+1:=by
 first | rfl | simp [oJ,Code.weight,Code.isCreation,Code.isGuard,Code.isCaller,Code.frames,oK,guardIds]
theorem QW {A:bI}{us:List ak}{kw:List (Str×ak)}: (↥67).units=A.units+1:=by
 first | rfl | simp [oJ,Code.cUnits,Code.frames,oK]
theorem Room.make {k:Nat}{A:bI}(r:Room (k+1) A) (C:Addr) (us:List ak) (kw:List (Str×ak)):Room k ↥67 :=
 ⟨r.hd,by have:=r.dp;rw [QM];omega,by have:=r.un;rw [QW];omega⟩
theorem Room.depth {k:Nat}{A:bI}(r:Room k A):A.depth<recursionLimit:=by have:=r.dp;omega
theorem Room.units {k:Nat}{A:bI}(r:Room k A):A.units+64<cLine:=by have:=r.un;omega
noncomputable def gU:TA:=λ_ H Q=>Q [] H
noncomputable def Wp (ta:TE) (j:TA):TA:=λσ H Q=>ta σ H λx H1=>j σ H1 λxs H2=>Q (x::xs) H2
section
variable {X:Cx}{e:Expr}{es:List Expr}{te:TE}{t:TA}{pos:Pos}
theorem j2:PA X [] gU:=λ_ _ _ _ H Q I h=>oM ⟨[],H,I,.nil,h⟩
theorem j0 (G:PE X e te) (z:PA X es t) (j:aN (e::es) X.env=↥31::aN es X.env:=by rfl):PA X (e::es) (Wp te t):=by
 intro pos pins s σ H Q I h
 rw [j]
 show aA _ _ (spliced (↥31::ck pos (aN es X.env))) _ _ s
 refine iY (thn (G pins s σ H _ I h) λu s1 ⟨x,H1,g,b,d⟩=>?_)
 exact thn (z pos pins s1 σ H1 _ g d) λi k ⟨xs,H2,f,a,c⟩=>⟨x::xs,H2,f,.cons b a,c⟩
end
noncomputable abbrev Sp:=List V->Hp->VK->XK->Prop
noncomputable abbrev CXT:=List Env->Hp->Shared->XK->ak->Shared->Prop
structure Env0 (P:Program) (w:bA) (K:ag) (mg:Str->Option ak) (base:Heap) (A:bI) (outer:List Env) (s:Shared) (H:Hp):Prop where
 frames:A.frames=some outer
 mod:Mod K mg base
 bs:∀b o,base.get? b=some o->s.heap.get? b=some o/\H b=none
 bsz:base.objs.size<=s.heap.objs.size
 funs:s.heap.FunFrames base outer
 frf:∀b∈frs outer,H b=none
 hok:HOk P w H s.heap
 bare:il s.gens
noncomputable def CE (outer:List Env) (P:Program) (w:bA) (H:Hp) (s:Shared) (Q:VK) (u:ak) (s':Shared):Prop :=
 ∃v H',s'.os=s.os/\il s'.gens/\Un (frs outer) [] H H' s.heap s'.heap/\HOk P w H' s'.heap/\jy v u/\Q v H'
noncomputable def CR (CX:CXT) (outer:List Env) (P:Program) (w:bA) (H:Hp) (s:Shared) (Q:VK) (E:XK) (r:o8) (s':Shared):Prop :=
 match r with
 | .ok (.ret u)=>CE outer P w H s Q u s'
 | .ok _=>False
 | .error e=>CX outer H s E e s'
structure FnOk (P:Program) (w:bA) (K:ag) (mg:Str->Option ak) (base:Heap) (CX:CXT) (k:Nat) (f:Addr) (fd:FuncData) (ps:List Str) (sp:Sp):Prop where
 len:∀vs H Q E,sp vs H Q E->vs.length=ps.length
 run:∀(A:bI) (outer:List Env) (s:Shared) (H:Hp) (args:Args) (us:List ak) (vs:List V) (Q:VK) (E:XK),Room k A->Env0 P w K mg base A outer s H->rG s fd args (ps.zip us)->ju vs us->sp vs H Q E ->
  d7 (aF P w) A (.call (.ref f) args) (CR CX outer P w H s Q E) s
theorem Env0.make {w:bA}{K:ag}{mg:Str->Option ak}{base:Heap}{A:bI}{outer:List Env}(e:Env0 P w K mg base A outer s H) (C:Addr) (us:List ak) (kw:List (Str×ak)) :
  Env0 P w K mg base ↥67 outer s H:=⟨by first | exact e.frames | (simpa [oJ,Code.envs,oK,pushEnvs] using e.frames),e.mod,e.bs,e.bsz,e.funs,e.frf,e.hok,e.bare⟩
theorem Env0.in1 {w:bA}{K:ag}{mg:Str->Option ak}{base:Heap}{A:bI}{outer:List Env}(e:Env0 P w K mg base A outer s H) :
  Env0 P w K mg base A.in1 outer s H:=⟨e.frames,e.mod,e.bs,e.bsz,e.funs,e.frf,e.hok,e.bare⟩
section
variable {X:Cx}{pins:List (Addr×Obj)}{σ:St}{H:Hp}{s s':Shared}
theorem Inv.env0 (I:Inv X pins σ H s):Env0 X.prog X.w X.K X.mg X.base X.A X.stack s H :=
 ⟨I.ok.frames,I.ok.mod,I.bs,aI I.ok.bsz I.sz,I.stack,I.stkFree,I.hok,I.bare⟩
theorem Inv.after (I:Inv X pins σ H s) (h:CE X.stack X.prog X.w H s Q u s'):EP X pins σ Q u s':=by
 obtain ⟨v,H',os,bare,un,hok,r,q⟩:=h
 obtain ⟨c,g,d,t,a⟩:=s'
 obtain rfl:a=s.os:=os
 exact ⟨v,H',I.call (h':=c) (g':=g) (d':=d) (t':=t) (ch:=[]) un hok bare (λb z=>absurd z (by simp)),r,q⟩
end
noncomputable def VY (sp:Sp) (dvs:List V) (E:XK) (t:TA):TE:=λσ H Q=>t σ H λa H1=>sp (a++dvs) H1 Q E
inductive tMethI (C:Addr) (m:Str) (sp:Sp) (dvs:List V) (E:XK) (t:TA) (σ:St) (Q:VK) (x:V) (H1:Hp):Prop
 | mk (a:_) (dx:_) (fs:_) (zz1:x = .ref a) (zz2:H1 a=some ↥113) (zz3:fs.lookup m=none) (zz4:t σ H1 λvs H2=>sp (x::(vs++dvs)) H2 Q E)
noncomputable def XX (C:Addr) (m:Str) (sp:Sp) (dvs:List V) (E:XK) (ta:TE) (t:TA):TE:=λσ H Q=>ta σ H λx H1=>tMethI C m sp dvs E t σ Q x H1
noncomputable def zW (K:ag) (fd:FuncData) (ps:List Str) (ds:List ak):Prop :=
 ∀(s:Shared) (a:List ak),K.In s.heap->(a++ds).length=ps.length->rG s fd ⟨a,[]⟩ (ps.zip (a++ds))
theorem zW.all {K:ag}{ps:List Str}(h:∀us:List ak,us.length=ps.length->cR fd ⟨us,[]⟩=pure (ps.zip us)):zW K fd ps []:=λs us _ a=>by
 rw [b0] at a ⊢
 exact .of_eq (h us a)
noncomputable def wV (CX:CXT) (X:Cx) (E:XK):Prop:=∀(pins:List (Addr×Obj)) (σ:St) (H:Hp) (s:Shared) (e:ak) (s':Shared),Inv X pins σ H s->CX X.stack H s E e s'->X.xe e s'
section
variable {X:Cx}{CX:CXT}{k:Nat}{f C:Addr}{fd:FuncData}{ps:List Str}{sp:Sp}{dvs:List V}{ds:List ak}{E:XK}{x m:Str}{p pos apos:Pos}{e o:Expr}{es:List Expr}{ta:TE}{t:TA}
theorem Xc (F:FnOk X.prog X.w X.K X.mg X.base CX k f fd ps sp) (z:Room k X.A) (U:zW X.K fd ps ds) (G:ju dvs ds) (j:wV CX X E)
  (I:Inv X pins σ H s) (r:ju vs us) (h:sp (vs++dvs) H Q E):aA ↥2 X.A (call (.ref f) us) ↥51 X.xe s:=by
 have b:ju (vs++dvs) (us++ds):=r.append G
 have c:(us++ds).length=ps.length:=by rw [<- b.length];exact F.len _ _ _ _ h
 refine m6 (dU (F.run X.A X.stack s H ⟨us,[]⟩ (us++ds) (vs++dvs) Q E z I.env0 (U s us I.kIn c) b h) λr s' a=>?_)
 cases r with
 | error e=>exact j pins σ H s e s' I a
 | ok fl =>
  cases fl with
  | ret u=>exact I.after a
  | next=>exact bJ a
  | brk=>exact bJ a
  | cont=>exact bJ a
theorem V4 (F:FnOk X.prog X.w X.K X.mg X.base CX k f fd ps sp) (U:Room k X.A) (hg:Gl X x) (Y:X.mg x=some (.ref f)) (hk:c7 X.K (.ref f)=true) (hb:zW X.K fd ps ds) (hd:ju dvs ds) (G:wV CX X E)
  (ha:PA X (e::es) t) (z: ↥24=false:=by decide) (he:aN (e::es) X.env=↥31::aN es X.env:=by rfl) (j: (↥66).any (·.1)=false:=by rfl) :
  PE X ↥70 (VY sp dvs E t):=by
 intro pins s σ H Q I h
 refine cK (yR I hg Y ?_ z)
 refine eN (h₀:=X.base) I.ok.mod.kin hk (thn ↥50 λc s1 ⟨b,H1,a,r,q⟩=>⟨a.kIn,?_⟩) he j
 exact Xc F U hb hd G a r q
theorem V6 (he:PE X o ta) (c:Cls X.K C) (U:Meth X.K C m f) (F:FnOk X.prog X.w X.K X.mg X.base CX k f fd ps sp) (hr:Room k X.A) (hb:zW X.K fd ps ds) (hd:ju dvs ds) (Y:wV CX X E) (ha:PA X (e::es) t)
  (z:aN (e::es) X.env=↥31::aN es X.env:=by rfl) (G: (↥66).any (·.1)=false:=by rfl)
  (ht:eval ↥45 X.env=(do
   let j <- eval o X.env
   dQ apos.atName
   let (f,first) <- dG [j] (ie j m pl)
   lR pos f first (ck pos (aN (e::es) X.env)) ↥114):=by rfl) :
  PE X ↥45 (XX C m sp dvs E ta t):=by
 intro pins s σ H Q I h
 refine eY (pl:=pl) (thn (he pins s σ H _ I h) λu s1 ⟨x,H1,d,g,a,dx,fs,ex,n,l,q⟩=>?_) ht
 subst ex
 obtain rfl:u=aV a:=g
 refine yt d n c U l ?_
 refine eN (first:=[.ref a]) (h₀:=X.base) I.ok.mod.kin U.kp (thn (ha pos pins s1 σ H1 _ d q) λus p ⟨vs,H2,b,r,i⟩=>⟨b.kIn,?_⟩) z G
 exact Xc (us:=.ref a::us) (vs:=.ref a::vs) F hr hb hd Y b (.cons rfl r) i
theorem YA (he:PE X o ta) (c:Cls X.K C) (z:Meth X.K C m f) (F:FnOk X.prog X.w X.K X.mg X.base CX k f fd ps sp) (Y:Room k X.A) (hb:zW X.K fd ps ds) (hd:ju dvs ds) (G:wV CX X E)
  (U:eval ↥110 X.env=(do
   let j <- eval o X.env
   dQ apos.atName
   let (f,first) <- dG [j] (ie j m pl)
   lR pos f first (ck pos (aN [] X.env)) ↥114):=by rfl) :
  PE X ↥110 (XX C m sp dvs E ta gU):=by
 intro pins s σ H Q I h
 refine eY (pl:=pl) (thn (he pins s σ H _ I h) λu s1 ⟨x,H1,b,d,a,dx,fs,ex,e,l,q⟩=>?_) U
 subst ex
 obtain rfl:u=aV a:=d
 refine yt b e c z l ?_
 exact PySem.W.callWith_K0 (first:=[.ref a]) b.kIn z.kp (Xc (us:=[.ref a]) (vs:=[.ref a]) F Y hb hd G b (.cons rfl .nil) q)
structure Mk (K:ag) (C f:Addr):Prop where
 makes:mB K C=true
 init:bU K (.ref C) "__init__" = some (some (.ref f))
 fn:oF K (.ref f)=true
 kp:c7 K (.ref C)=true
end
section
variable {X:Cx}{CX:CXT}{k:Nat}{f C:Addr}{fd:FuncData}{ps ks:List Str}{sp:Sp}{E:XK}{x m:Str}{p pos apos kpos:Pos}{e o:Expr}{es:List Expr}{kws:List m7}{te ta:TE}{t tk:TA}{nm:Option Str}
variable {g:List ak->List ak->List ak}{gV:List V->List V->List V}
end
structure FnScope (N P:List Str) (sc:Scope):Prop where
 kind:sc.kind = .function
 co:sc.isCoroutine=false
 gen:sc.isGenerator=false
 nd:N.Nodup
 pre:N.take P.length=P
 par:∀x∈P,sc.names.lookup x=some .local\/sc.names.lookup x=some .cell
 nofree:∀y∈sc.names,y.2≠.free
theorem kW {kindOf:Str->Option fW}{x:Str}:∀{binds:List (Str×ak)}{m:Str->Option ak},(∀v,(x,v)∉binds)->rQ kindOf binds m x=m x
 | [],_,_=>rfl
 | (n,v)::r,m,h=>by
  unfold rQ
  rw [kW λw a=>h w (aD _ a)]
  split
  ·have:x≠n:=by rintro rfl;exact h v aK
   simp [this]
  ·rfl
theorem gC {kindOf:Str->Option fW}{x:Str}:∀{binds:List (Str×ak)}{m:Str->Option ak},(∀v,(x,v)∉binds)->rR kindOf binds m x=m x
 | [],_,_=>rfl
 | (n,v)::r,m,h=>by
  unfold rR
  rw [gC λw a=>h w (aD _ a)]
  split
  ·rfl
  ·have:x≠n:=by rintro rfl;exact h v aK
   simp [this]
theorem hZ {kindOf:Str->Option fW}:∀{P:List Str}{vs:List ak}{i:Nat}{m:Str->Option ak},P.Nodup->P[i]? = some x->vs[i]? = some v->kindOf x=some .local ->
  rQ kindOf (P.zip vs) m x=some v
 | [],_,_,_,_,h,_,_=>by simp at h
 | _::_,[],_,_,_,_,h,_=>by simp at h
 | p::P,w::vs,0,m,a,h1,h2,b=>by
  simp at h1 h2;subst h1;subst h2
  show rQ kindOf ((p,w)::P.zip vs) m p=_
  unfold rQ
  rw [kW λv c=>(List.nodup_cons.mp a).1 (iG c).1,if_pos b]
  simp
 | p::P,w::vs,i+1,m,a,h1,h2,b=>by
  show rQ kindOf ((p,w)::P.zip vs) m x=_
  unfold rQ
  exact hZ (i:=i) (List.nodup_cons.mp a).2 (by simpa using h1) (by simpa using h2) b
theorem kT {kindOf:Str->Option fW}:∀{P:List Str}{vs:List ak}{i:Nat}{m:Str->Option ak},P.Nodup->P[i]? = some x->vs[i]? = some v->kindOf x≠some .local ->
  rR kindOf (P.zip vs) m x=some v
 | [],_,_,_,_,h,_,_=>by simp at h
 | _::_,[],_,_,_,_,h,_=>by simp at h
 | p::P,w::vs,0,m,a,h1,h2,b=>by
  simp at h1 h2;subst h1;subst h2
  show rR kindOf ((p,w)::P.zip vs) m p=_
  unfold rR
  rw [gC λv c=>(List.nodup_cons.mp a).1 (iG c).1,if_neg b]
  simp
 | p::P,w::vs,i+1,m,a,h1,h2,b=>by
  show rR kindOf ((p,w)::P.zip vs) m x=_
  unfold rR
  exact kT (i:=i) (List.nodup_cons.mp a).2 (by simpa using h1) (by simpa using h2) b
noncomputable def start (N:List Str) (vs:List V):St:=vs.map some++aP (N.length-vs.length) none
noncomputable def vj (CX:CXT) (P:Program) (w:bA) (K:ag) (mg:Str->Option ak) (base:Heap) (N:List Str) (qual:Str) (scope:Scope) (f:Addr) (cd:ak) (A:bI) (outer:List Env) (s:Shared) (H:Hp) (E:XK):Cx where
 prog:=P
 w:=w
 K:=K
 mg:=mg
 base:=base
 A:=A.deeper (lI qual scope s.heap.objs.size f cd)
 N:=N
 s₀:=s
 H₀:=H
 env:=lI qual scope s.heap.objs.size f cd
 outer:=outer
 stack:=lI qual scope s.heap.objs.size f cd::outer
 ex:=[]
 calm:=true
 fn:=λ_=>true
 pn:=[]
 xe:=λe s'=>aA (aF P w) (A.deeper (lI qual scope s.heap.objs.size f cd)) (nA (lI qual scope s.heap.objs.size f cd) e) (λ_ s''=>CX outer H s E e s'') (λe' s''=>CX outer H s E e' s'') s'
theorem Qc {j:Scope}{n:Nat}(h:j.names.lookup x=some .cell):∃c,(pw n j.names []).lookup x=some c:=by
 have q:=fX j.names n [] (.inl h)
 exact Option.isSome_iff_exists.mp q
theorem gj {CX:CXT}{P:Program}{w:bA}{K:ag}{mg:Str->Option ak}{base:Heap}{N ps:List Str}{G:Str}{scope:Scope}{f:Addr}{U:ak}{A:bI}{outer:List Env}{s s1:Shared}{H:Hp}{E:XK}{us:List ak}{vs:List V}
  (S:FnScope N ps scope) (Y:A.handled=none) (j:Env0 P w K mg base A outer s H) (hl:vs.length=ps.length) (r:ju vs us)
  (x:InCallC s s.heap.objs.size (rQ (lI G scope s.heap.objs.size f U).kindOf (ps.zip us) λ_=>none) (pw ↥13 scope.names []) (rR (lI G scope s.heap.objs.size f U).kindOf (ps.zip us) λ_=>none) s1) :
  Inv (vj CX P w K mg base N G scope f U A outer s H E) [] (start N vs) H s1:=by
 have C:ps.length<=N.length:=by have:=congrArg mP S.pre;rw [aE] at this;omega
 obtain ⟨h1,tk,rfl,o⟩:=x.done
 have d:∀b:Addr,b∉(vj CX P w K mg base N G scope f U A outer s H E).ex:=λb z=>absurd (show b∈([]:List Addr) from z) (by simp)
 refine ⟨⟨j.mod,S.kind,rfl,rfl,ar _,λy z c h1 h2=>?_,λy hy=>?_,λy c _ h=>?_,λ_=>Y,Around.frames_deeper j.frames,.inr ⟨rfl,rfl⟩,λb z=>absurd z (d b),j.bs,j.bsz,λb _ _=>d b,λb z=>absurd z (d b),j.funs,j.frf⟩,
  rfl,j.bare,Un.kept o,⟨_,x.toInCall.ns,λi y v h1 h2 D=>?_⟩,λy c h=>⟨_,x.cell y c h⟩,j.hok.fresh (ar _),λy c h=>?_,λp g=>absurd (show p∈([]:List (Addr×Obj)) from g) (by simp),j.hok.kept o,?_⟩
 ·exact name_of_addr x.apart (du h1) (du h2)
 ·have hy:scope.names.lookup y=some .cell\/scope.names.lookup y=some .free:=hy
  rcases hy with hy | hy
  ·exact Qc hy
  ·exact absurd rfl (S.nofree _ (du hy))
 ·exact c3 (x.above y c (du h))
 ·have hi:i<vs.length:=by
   unfold start at h2
   by_cases hi:i<vs.length
   ·exact hi
   ·rw [cu (by simpa using hi)] at h2
    rw [fL] at h2
    split at h2 <;> cases h2
  have B:vs[i]? = some v:=by
   unfold start at h2
   rw [cB (by simpa using hi),aw] at h2
   cases e:vs[i]? with
   | none=>rw [e] at h2;cases h2
   | some a=>rw [e] at h2;cases h2;rfl
  obtain ⟨u,m,t⟩:=r.get B
  have g:ps[i]? = some y:=by
   rw [<- S.pre,List.getElem?_take_of_lt ∅];exact h1
  have l:ps.Nodup:=by rw [<- S.pre];exact S.nd.sublist (List.take_sublist _ _)
  refine ⟨u,t,?_⟩
  rcases S.par y (aB g) with k | k
  ·exact .inl ⟨k,hZ l g m k⟩
  ·obtain ⟨c,e⟩:=Qc (n:=s.heap.objs.size+1) k
   refine .inr ⟨.inl k,c,e,?_⟩
   have q:=x.cell y c e
   rw [kT l g m (by show scope.names.lookup y≠_;rw [k];decide)] at q
   exact q
 ·exact j.hok.fresh (c3 (x.above y c (du h)))
 ·unfold start
  show _=N.length
  rw [ay,aa,bE]
  omega
theorem Yw {K:ag}{k:Nat}{kV pm oc:ak}{od:Option Addr}
  {U:Array (Option ak)}  {sp:Sp} (lk:K.lookup f=some ⟨oc,od,.func (bS name j params body scope dV kV doc pm an z ct),U⟩) (Y:cS K z j=true) (S:FnScope N ps scope)
  (len:∀vs H Q E,sp vs H Q E->vs.length=ps.length)
  (G:∀(A:bI) (outer:List Env) (s:Shared) (H:Hp) (vs:List V) (Q:VK) (E:XK),Room k (A.deeper (lI j scope s.heap.objs.size f z))->sp vs H Q E ->
   ∃t,PSs ↥127 body t/\t { nx:=λ_ H'=>Q .non H',rt:=Q } (start N vs) H) :
  FnOk P w K mg base CX (k+1) f (bS name j params body scope dV kV doc pm an z ct) ps sp:=by
 refine ⟨len,λA outer s H X C vs Q E m c T r h=>?_⟩
 have O:=len _ _ _ _ h
 have B:K.In s.heap:=c.mod.kin.keeps λb o e=>(c.bs b o e).1
 have p:s.heap.NoLimit:=c.mod.nolimit.keeps λb o e=>(c.bs b o e).1
 have g:∀y∈ps.zip C,scope.names.lookup y.1=some .local\/(scope.names.lookup y.1=some .cell/\((pw ↥13 scope.names []).lookup y.1).isSome=true):=λ⟨n,v⟩ D=>by
  rcases S.par n (iG D).1 with q | q
  ·exact .inl q
  ·exact .inr ⟨q,fX _ _ _ (.inl q)⟩
 refine codeAny_call_function m.depth (B _ _ lk) rfl S.co S.gen rfl (PySem.W.codeRec_of B Y) (T _ _ _ _ ?_)
 refine iZ S.kind g λenv R s1 x=>?_
 subst R
 refine ⟨p.keeps x.toInCall.keep,codeAny_func ?_⟩
 obtain ⟨t,L,M⟩:=G A outer s H vs Q E (m.deeper _) h
 have I:Inv ↥127 [] (start N vs) H s1:=gj S m.hd c O r x
 refine bb (L [] s1 (start N vs) H _ I M) (λfl s' a=>?_) λe s' a=>a
 have i:∀{d:St} {H':Hp} {v:V} {u:ak},Inv ↥127 [] d H' s'->jy v u->Q v H'->CE outer P w H s Q u s' :=
  λ{d H' v u} J l q=>⟨v,H',J.os,J.bare,J.base,J.hok,l,q⟩
 cases fl with
 | ret u =>
  obtain ⟨v,d,H',J,l,q⟩:=a
  exact i J l q
 | next =>
  obtain ⟨d,H',J,q⟩:=a
  exact i (v:=V.non) (u:=b8) J rfl q
 | brk =>
  obtain ⟨_,_,_,q⟩:=a
  exact bJ q
 | cont =>
  obtain ⟨_,_,_,q⟩:=a
  exact bJ q
end L2
namespace L2
section
variable {X:Cx}{x:Str}{p pos:Pos}{e:Expr}{es:List Expr}{t:TA}{id T:String}{r:List V->Hp->VK->Prop}
noncomputable def tCB (r:List V->Hp->VK->Prop) (t:TA):TE:=λσ H Q=>t σ H λa H1=>r a H1 Q
theorem jd (hc:qz X (.builtin id) r) (hg:Gl X x) (Y:X.mg x=none) (G:fR x=some (.builtin id)) (ha:PA X (e::es) t) (U:x ≠ "__name__":=by decide) (z: ↥24=false:=by decide)
  (he:aN (e::es) X.env=↥31::aN es X.env:=by rfl) (j: (↥66).any (·.1)=false:=by rfl):PE X ↥70 (tCB r t):=by
 intro pins s σ H Q I h
 refine cK (zh I hg Y G ?_ U z)
 exact PyProof.Rows.callWith_builtin1 (thn ↥50 λb s1 ⟨a,H1,f,c,d⟩=>hc pins s1 σ H1 a b Q f c d) he j
theorem qd (hc:qz X (.type T) r) (hg:Gl X x) (Y:X.mg x=none) (G:fR x=some (.type T)) (ha:PA X (e::es) t) (U:x ≠ "__name__":=by decide) (z: ↥24=false:=by decide)
  (he:aN (e::es) X.env=↥31::aN es X.env:=by rfl) (j: (↥66).any (·.1)=false:=by rfl):PE X ↥70 (tCB r t):=by
 intro pins s σ H Q I h
 refine cK (zh I hg Y G ?_ U z)
 exact cj (thn ↥50 λb s1 ⟨a,H1,f,c,d⟩=>hc pins s1 σ H1 a b Q f c d) he j
end
end L2
namespace HT
open PySem PyProof.Rows
section
open PySem.SeqAt
open PySem.AutoSeq1 (wpAny_loadPart')
open PySem.MeetsSeq PySem.MeetsSeq2 PySem.MeetsSeq3
end
section
variable {prog:Program}{w:bA}{A:bI}{E:ak->Shared->Prop}{s:Shared}
noncomputable def sIx (n d:Nat):Option Int->Nat
 | none=>d
 | some v=>if v<0 then (v+(n:Int)).toNat else min v.toNat n
theorem sIx_none (n d:Nat):sIx n d none=d:=rfl
theorem sIx_nat (n d k:Nat):sIx n d (some (k:Int))=min k n:=by
 show (if (k:Int)<0 then ((k:Int)+(n:Int)).toNat else min (k:Int).toNat n)=min k n
 rw [if_neg ∅,aW]
theorem slicePart_ {Q:Option Int->Shared->Prop}(p:rS v o) (h:Q o s):aA (aF prog w) A (Builtin.Slice.slicePartIndex v) Q E s:=by
 cases p with
 | none=>exact slicePart_none h
 | int i t=>exact slicePart_int h
end
end HT
namespace L2
noncomputable abbrev TO:=St->Hp->(Option Int->Hp->Prop)->Prop
noncomputable def PO (X:Cx) (e:Option Expr) (t:TO):Prop :=
 ∀(pins:List (Addr×Obj)) (s:Shared) (σ:St) (H:Hp) (Q:Option Int->Hp->Prop),Inv X pins σ H s->t σ H Q ->
  aA ↥2 X.A (evalPart e X.env) (λu s'=>∃o H',Inv X pins σ H' s'/\rS u o/\Q o H') X.xe s
noncomputable def Vg:TO:=λ_ H Q=>Q none H
inductive tPartI (Q:Option Int->Hp->Prop) (x:V) (H1:Hp):Prop
 | mk (i:_) (zz1:x = .int i) (zz2:Q (some i) H1)
noncomputable def Wx (t:TE):TO:=λσ H Q=>t σ H λx H1=>tPartI Q x H1
section
variable {X:Cx}{e:Expr}{te:TE}{lo hi:Option Expr}{tl th:TO}{pos p2:Pos}
theorem zA:PO X none Vg:=by
 intro pins s σ H Q I h
 rw [lJ]
 exact wpAny_pure ⟨none,H,I,.none,h⟩
theorem zy (h:PE X e te):PO X (some e) (Wx te):=by
 intro pins s σ H Q I c
 rw [nM]
 refine thn (h pins s σ H _ I c) λu s1 ⟨x,H1,d,a,b⟩=>?_
 obtain ⟨i,rfl,q⟩:=b
 obtain ⟨t,rfl⟩:=a
 exact ⟨some i,H1,d,.int i t,q⟩
noncomputable def SlR (X:Cx) (r:V->Option Int->Option Int->Hp->VK->Prop):Prop :=
 ∀(pins:List (Addr×Obj)) (s:Shared) (σ:St) (H:Hp) (x:V) (v b a:ak) (lo hi:Option Int) (c:Addr) (Q:VK),Inv X pins σ H s->jy x v->s.heap.IsSliceOf c b a .none->rS b lo->rS a hi->r x lo hi H Q ->
  ∃T id,rT (.type T) "__getitem__" = pure (some (.builtin id))/\s.TypeIs v T/\aA ↥2 X.A (lB v (.ref c)) ↥51 X.xe s
noncomputable def tSl (r:V->Option Int->Option Int->Hp->VK->Prop) (te:TE) (tl th:TO):TE:=λσ H Q=>te σ H λx H1=>tl σ H1 λl H2=>th σ H2 λu a=>r x l u a Q
theorem xQ (G:SlR X r) (Y:PE X e te) (U:PO X lo tl) (z:PO X hi th):PE X (.Subscript e (.Slice lo hi none p2) pos) (tSl r te tl th):=by
 intro pins s σ H Q I h
 refine m8 (thn (Y pins s σ H _ I h) λv s1 ⟨x,H1,E,i,m⟩=>?_)
 refine pT (thn (U pins s1 σ H1 _ E m) λd g ⟨l,H2,D,o,k⟩=>thn (z pins g σ H2 _ D k) λc a ⟨u,f,C,n,j⟩=>?_)
 rw [lJ]
 refine wpAny_pure ?_
 have B:Inv X pins σ f { a with heap:=a.heap.push { cls:=.type "slice",data:=.fields #[d,c,.none] } }:=C.kept (t':=a.toks) λb J q=>ah _ q
 obtain ⟨T,id,y,p,t⟩:=G pins { a with heap:=a.heap.push { cls:=.type "slice",data:=.fields #[d,c,.none] } } σ f x v d c l u a.heap.objs.size Q B i (l3 ..) o n j
 show aA ↥2 X.A (ip e (.Slice lo hi none p2) v (.ref a.heap.objs.size)) ↥51 X.xe { a with heap:=a.heap.push { cls:=.type "slice",data:=.fields #[d,c,.none] } }
 exact tf (ops:=[.ref a.heap.objs.size,v]) p y t ↥56
noncomputable def vT (xs:List V) (lo hi:Option Int):List V:=(xs.drop (HT.sIx xs.length 0 lo)).take (HT.sIx xs.length xs.length hi-HT.sIx xs.length 0 lo)
theorem Qq (xs:List V) (lo hi:Option Int):(vT xs lo hi).length<=xs.length:=by
 unfold vT
 rw [aE,fq]
 omega
end
end L2
namespace L2
noncomputable def ixN (n:Nat) (i:Int):Option Nat:=if 0<=i then (if i<n then some i.toNat else none) else if -(n:Int)<=i then some (i+n).toNat else none
noncomputable def atI {α:Type}(xs:List α) (i:Int):Option α:=(ixN xs.length i).bind λj=>xs[j]?
theorem Xx {n:Nat}{i:Int}{j:Nat}(h:ixN n i=some j):seqIndex? i n=some j/\j<n /\ -(n:Int)<=i/\i<n:=by
 unfold ixN at h
 by_cases a:0<=i
 ·rw [if_pos a] at h
  by_cases h1:i<n
  ·rw [if_pos h1] at h
   have e:i.toNat=j:=aJ h
   exact ⟨by rw [mQ a h1,e],∅,∅,h1⟩
  ·rw [if_neg h1] at h;cases h
 ·rw [if_neg a] at h
  by_cases h1 : -(n:Int)<=i
  ·rw [if_pos h1] at h
   have e:(i+n).toNat=j:=aJ h
   exact ⟨by rw [m9 ∅ h1,e],∅,h1,∅⟩
  ·rw [if_neg h1] at h;cases h
theorem Ji {α:Type}{xs:List α}{i:Int}{v:α}(h:atI xs i=some v):∃j,seqIndex? i xs.length=some j/\xs[j]? = some v/\j<xs.length /\ -(xs.length:Int)<=i/\i<xs.length:=by
 unfold atI at h
 cases e:ixN xs.length i with
 | none=>rw [e] at h;cases h
 | some j =>
  rw [e] at h
  obtain ⟨h1,h2,b,a⟩:=Xx e
  exact ⟨j,h1,h,h2,b,a⟩
theorem zD {α:Type}{xs:List α}{j:Nat}{v:α}(h:xs[j]? = some v):atI xs (j:Int)=some v:=by
 have a:j<xs.length:=(List.getElem?_eq_some_iff.mp h).1
 have e:ixN xs.length (j:Int)=some j:=by
  unfold ixN
  rw [if_pos ∅,if_pos ∅];simp
 unfold atI;rw [e];exact h
theorem zk {α:Type}(xs:List α) (v:α):atI (xs++[v]) (-1)=some v:=by
 have a:(xs++[v]).length=xs.length+1:=by simp
 have e:ixN (xs++[v]).length (-1)=some xs.length:=by
  unfold ixN
  rw [a,if_neg ⋯,if_pos ∅]
  congr 1
  omega
 unfold atI
 rw [e]
 show (xs++[v])[xs.length]? = some v
 simp
noncomputable def Vi (b:Expr):Prop:=∀o i,mS b false o i=operate [o,i] (lB o i)
noncomputable def IxR (X:Cx) (r:R2):Prop :=
 ∀(value a:Expr) (pins:List (Addr×Obj)) (s:Shared) (σ:St) (H:Hp) (x y:V) (v u:ak) (Q:VK),Inv X pins σ H s->jy x v->jy y u->r x y H Q ->
  mS a false v u=operate [v,u] (lB v u)->aA ↥2 X.A (ip value a v u) ↥51 X.xe s
noncomputable def MtR (X:Cx) (id:String) (r:V->List V->Hp->VK->Prop):Prop :=
 ∀(pins:List (Addr×Obj)) (s:Shared) (σ:St) (H:Hp) (x:V) (xs:List V) (v:ak) (a:List ak) (Q:VK),Inv X pins σ H s->jy x v->ju xs a->r x xs H Q ->
  aA ↥2 X.A (call (.builtin id) (v::a)) ↥51 X.xe s
section
variable {X:Cx}{a b:Expr}{ta tb:TE}{pos:Pos}
theorem ji (z:IxR X r) (U:PE X a ta) (G:PE X b tb) (j:Vi b):PE X (.Subscript a b pos) (tOp r ta tb):=by
 intro pins s σ H Q I h
 exact m8 (UR U G I h λv u c x y H2 f e d q=>z a b pins c σ H2 x y v u Q f e d q (j _ _))
inductive rIxL (K:ag) (x:V) (y:V) (H:Hp) (Q:VK):Prop
 | mk (p:_) (xs:_) (i:_) (v:_) (zz1:x = .ref p) (zz2:y = .int i) (zz3:SqL K H p xs) (zz4:atI xs i=some v) (zz5:Q v H)
inductive rIxT (K:ag) (x:V) (y:V) (H:Hp) (Q:VK):Prop
 | mk (p:_) (xs:_) (i:_) (v:_) (zz1:x = .ref p) (zz2:y = .int i) (zz3:SqT K H p xs) (zz4:atI xs i=some v) (zz5:Q v H)
theorem VN:IxR X (rIxL X.K):=by
 intro value l pins s σ H x y v u Q I n m h f
 obtain ⟨p,xs,i,z,rfl,rfl,o,B,q⟩:=h
 cases n
 obtain ⟨t,rfl⟩:=m
 obtain ⟨e,r,b,E⟩:=I.list o
 obtain ⟨j,h1,h2,J,D,C⟩:=Ji B
 obtain ⟨w,k,d⟩:=r.get h2
 have A:=r.length
 have G:=uE
 have a:EP X pins σ Q w s:=⟨z,H,I,d,q⟩
 by_cases g:0<=i
 ·have c:i.toNat=j:=by
   rw [mQ g C] at h1
   exact aJ h1
  exact item_listR b.isList g ∅ (by rw [c];simpa using k) a f
 ·have c:(i+(e.toArray.size:Int)).toNat=j:=by
   rw [m9 ∅ D] at h1
   rw [av,<- A]
   exact aJ h1
  exact ma (x:=w) b.isList.typeIs slot_list_getitem.lookup
   (md (Q:=λr s'=>r=w/\EP X pins σ Q r s') b.isList ∅ (by rw [av] <;> omega) ∅ (by rw [c];simpa using k) ⟨rfl,a⟩) f
theorem UE:IxR X (rIxT X.K):=by
 intro value d pins s σ H x y v u Q I f e h g
 obtain ⟨p,xs,i,z,rfl,rfl,k,m,q⟩:=h
 cases f
 obtain ⟨t,rfl⟩:=e
 obtain ⟨o,r,b,A⟩:=I.tuple k
 obtain ⟨j,h1,h2,E,D,C⟩:=Ji m
 obtain ⟨w,n,a⟩:=r.get h2
 have l:=r.length
 have B:=uE
 have c:EP X pins σ Q w s:=⟨z,H,I,a,q⟩
 exact ma (x:=w) b.typeIs slot_tuple_getitem.lookup
  (getItem_tuple (j:=j) (Q:=λr s'=>r=w/\EP X pins σ Q r s') b ∅ ∅ (by rw [av,<- l];exact h1) (by simpa using n) ⟨rfl,c⟩) g
theorem QO (its:List ak) (n j:Nat) (u:ak):b7 (·.setIfInBounds j u) { cls:=.type "list",data:=.seq its.toArray n }={ cls:=.type "list",data:=.seq (its.set j u).toArray n }:=by
 simp [b7]
theorem Inv.lst {p:Addr}{xs:List V}(I:Inv X pins σ H s) (h:H p=some (.lst xs)) :
  ∃(its:List ak) (n:Nat),ju xs its/\s.heap.get? p=some { cls:=.type "list",data:=.seq its.toArray n }/\xs.length<=sizeLine:=by
 obtain ⟨z,its,n,r,e⟩:=I.hok p _ h
 exact ⟨its,n,r,e,z⟩
theorem Inv.lstUpd {p:Addr}{xs ys:List V}{its its':List ak}{n j:Nat}{f:Obj->Obj}(I:Inv X pins σ H s) (h:H p=some (.lst xs))
  (U:s.heap.get? p=some { cls:=.type "list",data:=.seq its.toArray n }) (z:f { cls:=.type "list",data:=.seq its.toArray n }={ cls:=.type "list",data:=.seq its'.toArray j }) (r:ju ys its') (G:ys.length<=sizeLine) (t:Nat) :
  Inv X pins σ (upd H p (.lst ys)) { s with heap:=s.heap.update p f,toks:=t }:=by
 have e:(s.heap.update p f).get? p=some { cls:=.type "list",data:=.seq its'.toArray j }:=by
  rw [d4 f U (by rw [z] <;> rfl),z]
 refine I.write (x:=p) (e:=p) (by rw [h];trivial) (.inl rfl) (λb u a q=>(bF _ _ (cC a)).trans q) ⟨_,e⟩ ?_
 exact ⟨G,its',j,r,e⟩
noncomputable def Wb:V->V->V->Hp->(Hp->Prop)->Prop:=λo i v H Q=>∃p xs k j,o = .ref p/\i = .int k/\H p=some (.lst xs)/\ixN xs.length k=some j/\Q (upd H p (.lst (xs.set j v)))
theorem yE:Uc X Wb:=by
 intro pins s σ H o i v B C u Q I x y w h
 obtain ⟨p,xs,k,j,rfl,rfl,e,A,q⟩:=h
 cases x
 obtain ⟨t,rfl⟩:=y
 obtain ⟨a,n,r,b,z⟩:=I.lst e
 obtain ⟨h1,h2,g,f⟩:=Xx A
 have c:=r.length
 have D:=uE
 have m:Inv X pins σ (upd H p (.lst (xs.set j v))) { s with heap:=s.heap.update p (b7 (·.setIfInBounds j u)) } :=
  I.lstUpd e b (QO a n j u) (r.set w j) (by rw [iH];exact z) s.toks
 by_cases l:0<=k
 ·have d:k.toNat=j:=by
   rw [mQ l f] at h1
   exact aJ h1
  exact PySem.W.ki_setAt b l ∅ (by rw [av,<- c];exact f) (by rw [d];exact ⟨_,m,q⟩)
 ·have d:(k+(a.toArray.size:Int)).toNat=j:=by
   rw [m9 ∅ g] at h1
   rw [av,<- c]
   exact aJ h1
  exact PySem.W.ki_setBack b ∅ (by rw [av,<- c];exact g) ∅ (by rw [d];exact ⟨_,m,q⟩)
theorem gW (lo hi:Option Int) (n:Nat):(fM lo hi none n).1=((HT.sIx n 0 lo:Nat):Int)/\(fM lo hi none n).2.1=((HT.sIx n n hi:Nat):Int)/\(fM lo hi none n).2.2=1:=by
 refine ⟨?_,?_,rfl⟩
 ·cases lo with
  | none=>simp [fM,HT.sIx]
  | some i =>
   simp only [fM,HT.sIx,px,show (1:Int) > 0 by decide,if_true]
   by_cases h:i<0
   ·simp only [h,if_true] <;> omega
   ·simp only [h,if_false] <;> omega
 ·cases hi with
  | none=>simp [fM,HT.sIx]
  | some i =>
   simp only [fM,HT.sIx,px,show (1:Int) > 0 by decide,if_true]
   by_cases h:i<0
   ·simp only [h,if_true] <;> omega
   ·simp only [h,if_false] <;> omega
theorem kM (its:List ak) (lo hi:Option Int):slicePick its.toArray lo hi none=((its.drop (HT.sIx its.length 0 lo)).take (HT.sIx its.length its.length hi-HT.sIx its.length 0 lo)).toArray:=by
 obtain ⟨h1,h2,a⟩:=gW lo hi its.toArray.size
 unfold slicePick
 rw [h1,h2,a]
 simp only [sliceRange_one,pick_run,av] <;> rfl
inductive rSlL (K:ag) (x:V) (lo:Option Int) (hi:Option Int) (H:Hp) (Q:VK):Prop
 | mk (a:_) (xs:_) (zz1:x = .ref a) (zz2:SqL K H a xs) (zz3:∀p,H p=none->Q (.ref p) (upd H p (.lst (vT xs lo hi))))
theorem YZ:SlR X (rSlL X.K):=by
 intro pins s σ H x v n m lo hi p Q I e k g f h
 obtain ⟨a,xs,rfl,j,q⟩:=h
 cases e
 obtain ⟨l,r,d,i⟩:=I.list j
 have c:=r.length
 refine ⟨"list",_,slot_list_getitem.lookup,d.isList.typeIs,?_⟩
 refine lK d.isList k g f .none (by simp) ?_ (by rw [av] <;> omega)
 rw [kM,<- c]
 refine ⟨.ref s.heap.objs.size,_,I.laid (t':=s.toks) (o:=.lst (vT xs lo hi)) (λb t q=>ah _ q) (ar _) ?_,rfl,q _ (I.hok.fresh (ar _))⟩
 exact ⟨aI (Qq xs lo hi) i,_,0,(r.drop (HT.sIx xs.length 0 lo)).take (HT.sIx xs.length xs.length hi-HT.sIx xs.length 0 lo),az _ rfl⟩
noncomputable def vY:V->Bool
 | .non=>true
 | .bl _=>true
 | .int _=>true
 | .str _=>true
 | _=>false
noncomputable def eqV:V->V->Bool
 | .non,.non=>true
 | .bl a,.bl b=>a == b
 | .bl a,.int b=>(if a then 1 else 0) == b
 | .int a,.bl b=>a == (if b then 1 else 0)
 | .int a,.int b=>a == b
 | .str a,.str b=>a == b
 | _,_=>false
theorem Ue (z:jy y u) (j:jy x v) (U:vY y=true) (G:vY x=true):SeqAt.EqAt A s u v (eqV y x):=by
 cases y with
 | non =>
  cases z
  cases x with
  | non=>cases j;exact SeqAt.EqAt.same _
  | bl b=>cases j;exact SeqAt.EqAt.none_bool b
  | int b=>obtain ⟨t,rfl⟩:=j;exact SeqAt.EqAt.none_int b t
  | str b=>obtain ⟨t,rfl⟩:=j;exact SeqAt.EqAt.none_str b t
  | _=>exact absurd (show false=true from G) au
 | bl a =>
  cases z
  cases x with
  | non=>cases j;exact SeqAt.EqAt.bool_none a
  | bl b=>cases j;exact SeqAt.EqAt.bool_bool a b
  | int b=>obtain ⟨t,rfl⟩:=j;exact SeqAt.EqAt.bool_int a b t
  | str b=>obtain ⟨t,rfl⟩:=j;exact SeqAt.EqAt.bool_str a b t
  | _=>exact absurd (show false=true from G) au
 | int a =>
  obtain ⟨c,rfl⟩:=z
  cases x with
  | non=>cases j;exact SeqAt.EqAt.int_none a c
  | bl b=>cases j;exact SeqAt.EqAt.int_bool a c b
  | int b=>obtain ⟨t,rfl⟩:=j;exact SeqAt.EqAt.int_int a c b t
  | str b=>obtain ⟨t,rfl⟩:=j;exact nU a c b t
  | _=>exact absurd (show false=true from G) au
 | str a =>
  obtain ⟨c,rfl⟩:=z
  cases x with
  | non=>cases j;exact SeqAt.EqAt.str_none a c
  | bl b=>cases j;exact SeqAt.EqAt.str_bool a c b
  | int b=>obtain ⟨t,rfl⟩:=j;exact nW a c b t
  | str b=>obtain ⟨t,rfl⟩:=j;exact SeqAt.EqAt.str_str a c b t
  | _=>exact absurd (show false=true from G) au
 | _=>exact absurd (show false=true from U) au
noncomputable def eqU (x:V) (u:ak):Bool:=match u with
 | .none=>eqV .non x
 | .bool b=>eqV (.bl b) x
 | .int i _=>eqV (.int i) x
 | .str z _=>eqV (.str z) x
 | _=>false
theorem YC (r:jy y u) (f:vY y=true):eqU x u=eqV y x:=by
 cases y with
 | non=>cases r;rfl
 | bl b=>cases r;rfl
 | int i=>obtain ⟨t,rfl⟩:=r;rfl
 | str z=>obtain ⟨t,rfl⟩:=r;rfl
 | _=>exact absurd (show false=true from f) au
theorem vF {x:V}:∀{xs:List V}{us:List ak},ju xs us->xs.all vY=true->us.any (eqU x)=xs.any λy=>eqV y x
 | _,_,.nil,_=>rfl
 | y::xs,u::us,.cons r t,f=>by
  rw [nN,bz] at f
  rw [fC,fC,YC r f.1,vF t f.2]
theorem yK (j:jy x v) (z:vY x=true):∀{xs:List V}{us:List ak},ju xs us->xs.all vY=true->∀u∈us,SeqAt.EqAt A s u v (eqU x u)
 | _,_,.nil,_=>λu hu=>by cases hu
 | y::xs,u::us,.cons r t,f=>λa hu=>by
  rw [nN,bz] at f
  rcases List.mem_cons.mp hu with rfl | hu
  ·rw [YC r f.1];exact Ue r j f.1 z
  ·exact yK j z t f.2 a hu
noncomputable def inV (x:V) (xs:List V):Bool:=xs.any λy=>eqV y x
inductive rIn (K:ag) (neg:Bool) (x:V) (y:V) (H:Hp) (Q:VK):Prop
 | mk (p:_) (xs:_) (zz1:y = .ref p) (zz2:(SqL K H p xs\/SqT K H p xs)) (zz3:vY x=true) (zz4:xs.all vY=true) (zz5:Q (.bl (if neg then !inV x xs else inV x xs)) H)
theorem ZJ:OpR X (cn .In) (rIn X.K false):=by
 intro pins s σ H x y v u Q I d f h
 obtain ⟨p,xs,rfl,hq,e,fs,q⟩:=h
 cases f
 rcases hq with hq | hq
 ·obtain ⟨a,r,b,g⟩:=I.list hq
  refine SeqAt.in_listAt (eqU x) b.isList ↥104 ⟨.bl _,H,I,rfl,?_⟩
  rw [show a.toArray.any (eqU x)=a.any (eqU x) by simp,vF r fs]
  exact q
 ·obtain ⟨a,r,b,g⟩:=I.tuple hq
  refine SeqAt.in_tupleAt (eqU x) b ↥104 ⟨.bl _,H,I,rfl,?_⟩
  rw [show a.toArray.any (eqU x)=a.any (eqU x) by simp,vF r fs]
  exact q
theorem gY:OpR X (cn .NotIn) (rIn X.K true):=by
 intro pins s σ H x y v u Q I d f h
 obtain ⟨p,xs,rfl,hq,e,fs,q⟩:=h
 cases f
 rcases hq with hq | hq
 ·obtain ⟨a,r,b,g⟩:=I.list hq
  refine SeqAt.notIn_listAt (eqU x) b.isList ↥104 ⟨.bl _,H,I,rfl,?_⟩
  rw [show a.toArray.any (eqU x)=a.any (eqU x) by simp,vF r fs]
  exact q
 ·obtain ⟨a,r,b,g⟩:=I.tuple hq
  refine SeqAt.notIn_tupleAt (eqU x) b ↥104 ⟨.bl _,H,I,rfl,?_⟩
  rw [show a.toArray.any (eqU x)=a.any (eqU x) by simp,vF r fs]
  exact q
inductive cI_call_len_seq (K:ag) (xs:List V) (H:Hp) (Q:VK):Prop
 | mk (p:_) (ys:_) (zz1:xs=[.ref p]) (zz2:(SqL K H p ys\/SqT K H p ys)) (zz3:Q (.int ys.length) H)
theorem gJ:qz X (.builtin "len") (cI_call_len_seq X.K):=by
 intro pins s σ H xs g Q I r h
 obtain ⟨p,ys,rfl,hq,q⟩:=h
 obtain ⟨u,rfl,e⟩:=xB r
 cases e
 have i:=uE
 rcases hq with hq | hq
 ·obtain ⟨d,b,c,f⟩:=I.list hq
  have a:=b.length
  exact Calls.call_len_list c.isList ↥120 ⟨.int ys.length,H,I.tok _,⟨s.toks+1,by rw [av,a]⟩,q⟩
 ·obtain ⟨d,b,c,f⟩:=I.tuple hq
  have a:=b.length
  exact len_tuple c ↥120 ⟨.int ys.length,H,I.tok _,⟨s.toks+1,by rw [av,a]⟩,q⟩
inductive cI_call_list_of (K:ag) (xs:List V) (H:Hp) (Q:VK):Prop
 | mk (p:_) (ys:_) (zz1:xs=[.ref p]) (zz2:(SqL K H p ys\/SqT K H p ys)) (zz3:∀l,H l=none->Q (.ref l) (upd H l (.lst ys)))
theorem J7:qz X (.type "list") (cI_call_list_of X.K):=by
 intro pins s σ H xs v Q I r h
 obtain ⟨p,ys,rfl,hq,q⟩:=h
 obtain ⟨u,rfl,t⟩:=xB r
 cases t
 have g:∀(a:List ak),ju ys a->ys.length<=sizeLine->∀(h':Heap) (d:Nat),(∀b o',s.heap.get? b=some o'->h'.get? b=some o') ->
   h'.get? s.heap.objs.size=some { cls:=.type "list",dict:=none,data:=.seq a.toArray d,slots:=#[] }->EP X pins σ Q ↥16 { s with heap:=h' }:=λa c f h' d kp e =>
  ⟨.ref s.heap.objs.size,_,I.laid (t':=s.toks) kp (ar _) (show qa X.prog X.w _ h' _ (.lst ys) from ⟨f,a,d,c,e⟩),rfl,q _ (I.hok.fresh (ar _))⟩
 rcases hq with hq | hq
 ·obtain ⟨a,c,i,f⟩:=I.list hq
  have k:=c.length
  obtain ⟨o,j,m,n,l⟩:=i.isList
  exact sO p (.inl rfl) j m l (λh' d kp e=>g a c f h' d kp e) ↥120
 ·obtain ⟨a,c,i,f⟩:=I.tuple hq
  have k:=c.length
  obtain ⟨o,j,m,n,l⟩:=i
  exact sO p (.inr rfl) j m l (λh' d kp e=>g a c f h' d kp e) ↥120
inductive cI_call_tuple_of (K:ag) (xs:List V) (H:Hp) (Q:VK):Prop
 | mk (p:_) (ys:_) (zz1:xs=[.ref p]) (zz2:((SqL K H p ys/\∀l,H l=none->Q (.ref l) (upd H l (.tup ys)))\/(SqT K H p ys/\Q (.ref p) H)))
theorem kF:qz X (.type "tuple") (cI_call_tuple_of X.K):=by
 intro pins s σ H xs m Q I r h
 obtain ⟨p,ys,rfl,h⟩:=h
 obtain ⟨u,rfl,j⟩:=xB r
 cases j
 rcases h with ⟨f,q⟩ | ⟨f,q⟩
 ·obtain ⟨a,c,d,g⟩:=I.list f
  have k:=c.length
  refine call_tuple_list d.isList (λh' kp=>?_) ↥120
  have i:Inv X pins σ H { s with heap:=h' }:=I.kept (t':=s.toks) kp
  have l:Inv X pins σ (upd H h'.objs.size (.tup ys)) { s with heap:=h'.push { cls:=.type "tuple",data:=.seq a.toArray } } :=
   i.laid (t':=s.toks) (λb o e=>ah _ e) (ar _) (show qa X.prog X.w _ _ _ (.tup ys) from ⟨g,a,c,IsTup.new _ _⟩)
  exact ⟨.ref h'.objs.size,_,l,rfl,q _ (i.hok.fresh (ar _))⟩
 ·obtain ⟨a,c,d,g⟩:=I.tuple f
  exact call_tuple_same d ⟨.ref p,H,I,rfl,q⟩
noncomputable def tyV (K:ag) (T:String) (x:V) (H:Hp):Prop:=match x with
 | .str _=>T = "str"
 | .int _=>T = "int"
 | .ref p=>(T = "list" /\ ∃xs,SqL K H p xs)\/(T = "tuple" /\ ∃o,K.lookup p=some o/\o.cls = .type "tuple" /\ o.dict=none) \/
   (T = "dict" /\ ((∃kvs,H p=some (.dK kvs))\/∃kvs,H p=some (.dT kvs)))\/(T = "set" /\ ∃S n,H p=some (.set S n))
 | _=>False
theorem ZV {T:String}(I:Inv X pins σ H s) (r:jy x v) (ty:tyV X.K T x H) :
  s.TypeIs v T/\∀a,v = .ref a->∃j,s.heap.get? a=some j/\j.dict=none:=by
 cases x with
 | str z =>
  obtain ⟨t,rfl⟩:=r
  cases (show T = "str" from ty)
  exact ⟨typeIs_str s z t,λ_ e=>nomatch e⟩
 | int i =>
  obtain ⟨t,rfl⟩:=r
  cases (show T = "int" from ty)
  exact ⟨rV s i t,λ_ e=>nomatch e⟩
 | ref p =>
  cases r
  rcases ty with ⟨rfl,xs,h⟩ | ⟨rfl,o,b,k,d⟩ | ⟨rfl,b⟩ | ⟨rfl,S,n,b⟩
  ·obtain ⟨l,_,g,_⟩:=I.list h
   refine ⟨g.isList.typeIs,λa e=>?_⟩
   cases e
   obtain ⟨o,n,e,c,d,_⟩:=g
   exact ⟨o,e,d⟩
  ·refine ⟨⟨o,I.kIn p o b,k⟩,λa e=>?_⟩
   cases e
   exact ⟨o,I.kIn _ o b,d⟩
  ·have z:∃o,s.heap.get? p=some o/\o.ExactDict:=by
    rcases b with ⟨kvs,b⟩ | ⟨kvs,b⟩
    ·obtain ⟨_,_,_,_,o,_,_,e,ex,_⟩:=I.hok p _ b
     exact ⟨o,e,ex⟩
    ·obtain ⟨_,_,_,_,o,_,_,e,ex,_⟩:=I.hok p _ b
     exact ⟨o,e,ex⟩
   obtain ⟨o,e,ex⟩:=z
   refine ⟨⟨o,e,ex.1⟩,λa f=>?_⟩
   cases f
   exact ⟨o,e,ex.2.1⟩
  ·obtain ⟨o,_,_,_,e,ex,_⟩:=I.hok p _ b
   refine ⟨⟨o,e,ex.1⟩,λa f=>?_⟩
   cases f
   exact ⟨o,e,ex.2.1⟩
 | _=>exact bJ ty
noncomputable def Wj (K:ag) (T:String) (r:V->List V->Hp->VK->Prop) (to:TE):TE:=λσ H Q=>to σ H λx H1=>tyV K T x H1/\r x [] H1 Q
noncomputable def tBM (K:ag) (T:String) (r:V->List V->Hp->VK->Prop) (to:TE) (t:TA):TE:=λσ H Q=>to σ H λx H1=>tyV K T x H1/\t σ H1 λxs H2=>r x xs H2 Q
variable {o e:Expr}{es:List Expr}{to:TE}{t:TA}{name:Str}{apos cpos:Pos}{T id:String}{r:V->List V->Hp->VK->Prop}
theorem YD (Y:o9 T) (G:Slot T name id) (U:oa (.builtin id)=pure (.type "method_descriptor")) (hm:MtR X id r) (ho:PE X o to)
  (z:dY o name X.env (eval o X.env)=eval o X.env:=by rfl) (j: ↥131=true:=by rfl):PE X (.Call (.Attribute o name apos) [] [] cpos) (Wj X.K T r to):=by
 intro pins s σ H Q I h
 refine wpAny_Call_method0_late z j (thn (ho pins s σ H _ I h) λv s1 ⟨x,H1,b,a,ty,c⟩=>?_)
 obtain ⟨h1,h2⟩:=ZV b a ty
 exact ⟨T,id,Y,G,U,h1,h2,fY rfl (PySem.evalArgs_none (hm pins s1 σ H1 x [] v [] Q b a .nil c))⟩
theorem WR (pa:o9 T) (U:Slot T name id) (ab:oa (.builtin id)=pure (.type "method_descriptor")) (hm:MtR X id r) (ho:PE X o to) (ha:PA X (e::es) t)
  (G:dY o name X.env (eval o X.env)=eval o X.env:=by rfl)
  (Y:((ck cpos (aN (e::es) X.env)).all (λx=>!x.1) && (fV cpos (dS [] X.env)).all (λx=>x.1.isSome)
   && decide ((e::es).length+([]:List m7).length+(if ([]:List m7).isEmpty then 0 else 1)<30))=true:=by rfl)
  (z: ↥131=true:=by rfl) (hs:aN (e::es) X.env=↥31::aN es X.env:=by rfl) (j:(ck cpos (aN es X.env)).any (·.1)=false:=by rfl) :
  PE X (.Call (.Attribute o name apos) (e::es) [] cpos) (tBM X.K T r to t):=by
 intro pins s σ H Q I h
 refine wpAny_Call_method_late G Y z rfl (thn (ho pins s σ H _ I h) λv s1 ⟨x,H1,c,a,ty,l⟩=>?_)
 obtain ⟨h1,h2⟩:=ZV c a ty
 refine ⟨T,id,pa,U,ab,h1,h2,?_⟩
 have b:=ha cpos pins s1 σ H1 _ c l
 rw [hs] at b ⊢
 refine fY (by show (false || (ck cpos (aN es X.env)).any (·.1))=false;rw [j] <;> rfl) (iA ?_)
 exact thn b λf g ⟨d,H2,m,i,k⟩=>hm pins g σ H2 x d v f Q m a i k
end
end L2
namespace L2
noncomputable def MtM (X:Cx) (id:String) (r:V->List V->Hp->VK->Prop):Prop :=
 ∀(pins:List (Addr×Obj)) (s:Shared) (σ:St) (H:Hp) (x:V) (xs:List V) (v:ak) (a:List ak) (Q:VK),Inv X pins σ H s->jy x v->ju xs a->r x xs H Q ->
  aA ↥2 X.A (call (.builtin id) (v::a)) ↥51 X.xe s
theorem ju.one:∀{x:V}{us:List ak},ju [x] us->∃u,us=[u]/\jy x u
 | _,_,.cons r .nil=>⟨_,rfl,r⟩
theorem ju.zero:∀{us:List ak},ju [] us->us=[]
 | _,.nil=>rfl
theorem ju.dropLast {xs:List V}(h:ju xs us):ju xs.dropLast us.dropLast:=by
 induction h with
 | nil=>exact .nil
 | cons r t a =>
  cases t with
  | nil=>exact .nil
  | cons q b=>exact .cons r a
theorem ju.reverse {xs:List V}(h:ju xs us):ju xs.reverse us.reverse:=by
 induction h with
 | nil=>exact .nil
 | cons r t a=>rw [lE,lE];exact ju.append a (.cons r .nil)
theorem ju.rep {xs:List V}(h:ju xs us):∀k:Nat,ju (aP k xs).flatten (aP k us).flatten
 | 0=>.nil
 | k+1=>by
  rw [cX,cX,cE,cE]
  exact ju.append h (ju.rep h k)
theorem QT {α:Type}(l:List α):l.eraseIdx (l.length-1)=l.dropLast:=by
 induction l with
 | nil=>rfl
 | cons a r c =>
  cases r with
  | nil=>rfl
  | cons b r =>
   have e:(a::b::r).length-1=((b::r).length-1)+1:=by
    have h1:(a::b::r).length=r.length+2:=rfl
    have h2:(b::r).length=r.length+1:=rfl
    omega
   rw [e,List.eraseIdx_cons_succ,c]
   all_goals rfl
theorem gg (its:List ak):∀(k:Nat) (acc:List ak),
  rW (λz j=>z++j) acc.toArray (aP k its.toArray)=(acc++(aP k its).flatten).toArray
 | 0,acc=>by simp
 | k+1,acc=>by
  have e:acc.toArray++its.toArray=(acc++its).toArray:=by simp
  have a:(acc++its)++(aP k its).flatten=acc++(aP (k+1) its).flatten:=by
   rw [cX,cE,fc]
  rw [<- a,<- gg its k (acc++its),<- e,cX,List.foldl_cons]
section
variable {X:Cx}{pins:List (Addr×Obj)}{σ:St}{H:Hp}{s:Shared}{l b:Addr}{xs ys zs:List V}
theorem Inv.lset {its its':List ak}{n:Nat}{f:Array ak->Array ak}{t':Nat}(I:Inv X pins σ H s) (U:H l=some (.lst xs))
  (e:s.heap.get? l=some { cls:=.type "list",data:=.seq its.toArray n }) (G:f its.toArray=its'.toArray) (z:ju ys its') (j:ys.length<=sizeLine) :
  Inv X pins σ (upd H l (.lst ys)) { s with heap:=s.heap.update l (b7 f),toks:=t' }:=by
 have q:=PySem.IsL.update e f
 rw [G] at q
 refine I.write (x:=l) (e:=l) (by rw [U];exact trivial) (.inl rfl) (λc u b a=>(bF s.heap (b7 f) (cC b)).trans a) ⟨_,q⟩ ?_
 exact ⟨j,its',_,z,q⟩
theorem Inv.lnew {t':Nat}(I:Inv X pins σ H s) (z:ju ys its) (j:ys.length<=sizeLine) :
  Inv X pins σ (upd H s.heap.objs.size (.lst ys)) { s with heap:=s.heap.push { cls:=.type "list",data:=.seq its.toArray },toks:=t' } :=
 I.laid (λ_ _ q=>ah _ q) (ar _) ⟨j,its,0,z,az _ rfl⟩
theorem Inv.fresh (I:Inv X pins σ H s):H s.heap.objs.size=none:=I.hok.fresh (ar _)
theorem Inv.lstM (I:Inv X pins σ H s) (j:H l=some (.lst xs)):xs.length<=sizeLine/\∃(its:List ak) (n:Nat),ju xs its/\xs.length=its.length/\s.heap.get? l=some { cls:=.type "list",data:=.seq its.toArray n }:=by
 obtain ⟨z,its,n,r,e⟩:=I.hok l _ j
 exact ⟨z,its,n,r,r.length,e⟩
theorem Jv {n:Nat}(h:n<=sizeLine):dZ n=false:=by
 unfold dZ
 exact decide_eq_false ∅
end
section
variable {X:Cx}
inductive rAppend  (x:V) (vs:List V) (H:Hp) (Q:VK):Prop
 | mk (l:_) (xs:_) (y:_) (zz1:x = .ref l) (zz2:vs=[y]) (zz3:H l=some (.lst xs)) (zz4:xs.length<sizeLine) (zz5:Q .non (upd H l (.lst (xs++[y]))))
theorem qk:MtM X "list.append" rAppend:=by
 intro pins s σ H x g v i Q I c d h
 obtain ⟨l,xs,y,rfl,rfl,b,j,q⟩:=h
 cases c
 obtain ⟨u,rfl,f⟩:=d.one
 obtain ⟨z,a,n,r,k,e⟩:=I.lstM b
 refine ig F.slot_list_append ⟨_,e,rfl⟩ F.entry_list_append (F.args_list_append_2 _ _) (PySem.list_append l a.toArray n u (by rw [av];omega)) ⟨e,?_⟩
 refine ⟨.non,_,I.lset (its':=a++[u]) b e (by simp) (r.append (.cons f .nil)) ?_,rfl,q⟩
 rw [ay,bp]
 omega
inductive rExtend  (x:V) (vs:List V) (H:Hp) (Q:VK):Prop
 | mk (l:_) (b:_) (xs:_) (zs:_) (zz1:x = .ref l) (zz2:vs=[.ref b]) (zz3:H l=some (.lst xs)) (zz4:H b=some (.lst zs)) (zz5:xs.length+zs.length<=sizeLine) (zz6:Q .non (upd H l (.lst (xs++zs))))
theorem W6:MtM X "list.extend" rExtend:=by
 intro pins s σ H x A v B Q I i j h
 obtain ⟨l,b,xs,zs,rfl,rfl,g,p,C,q⟩:=h
 cases i
 obtain ⟨u,rfl,k⟩:=j.one
 cases k
 obtain ⟨z,c,n,r,D,e⟩:=I.lstM g
 obtain ⟨y,a,o,m,w,t⟩:=I.lstM p
 have f:c.toArray.size+a.toArray.size<=sizeLine:=by rw [av,av];omega
 have d:¬(!c.toArray.isEmpty && dZ (c.toArray.size+a.toArray.size))=true:=by
  rw [Jv f,Bool.and_false]
  exact au
 refine ig F.slot_list_extend ⟨_,e,rfl⟩ F.entry_list_extend (F.args_list_extend_2 _ _)
  (AutoSeq1.list_extend_list_list_0 l c.toArray n b a.toArray o d (by rw [av];omega) ∅) ⟨e,t,?_⟩
 refine ⟨.non,_,I.lset (its':=c++a) g e (by simp) (r.append m) ?_,rfl,q⟩
 rw [ay]
 omega
inductive rPop  (x:V) (vs:List V) (H:Hp) (Q:VK):Prop
 | mk (l:_) (xs:_) (y:_) (zz1:x = .ref l) (zz2:vs=[]) (zz3:H l=some (.lst xs)) (zz4:xs[xs.length-1]? = some y) (zz5:Q y (upd H l (.lst xs.dropLast)))
theorem Um:MtM X "list.pop" rPop:=by
 intro pins s σ H x o v p Q I f g h
 obtain ⟨l,xs,y,rfl,rfl,d,j,q⟩:=h
 cases f
 have c:=g.zero
 subst c
 obtain ⟨z,a,n,r,m,e⟩:=I.lstM d
 obtain ⟨u,k,i⟩:=r.get j
 have b:a.toArray[a.toArray.size-1]? = some u:=by
  show a.toArray[a.length-1]? = some u
  rw [<- ib,<- m]
  exact k
 refine ig F.slot_list_pop ⟨_,e,rfl⟩ F.entry_list_pop (F.args_list_pop_1 _) (MeetsSeq.list_pop_last l a.toArray n u b (by rw [av];omega)) ⟨e,?_⟩
 refine ⟨y,_,I.lset (its':=a.dropLast) d e ?_ r.dropLast ?_,i,q⟩
 ·show a.toArray.eraseIdxIfInBounds (a.toArray.size-1)=a.dropLast.toArray
  rw [av,List.eraseIdxIfInBounds_toArray,QT]
 ·rw [mT]
  omega
inductive rCat  (x:V) (y:V) (H:Hp) (Q:VK):Prop
 | mk (l:_) (b:_) (xs:_) (zs:_) (zz1:x = .ref l) (zz2:y = .ref b) (zz3:H l=some (.lst xs)) (zz4:H b=some (.lst zs)) (zz5:xs.length+zs.length<=sizeLine) (zz6:∀p,H p=none->Q (.ref p) (upd H p (.lst (xs++zs))))
theorem UN:OpR X (fT .Add) rCat:=by
 intro pins s σ H x y v u Q I f d h
 obtain ⟨l,b,xs,zs,rfl,rfl,i,j,w,q⟩:=h
 cases f
 cases d
 obtain ⟨z,c,n,r,A,e⟩:=I.lstM i
 obtain ⟨p,a,t,g,o,m⟩:=I.lstM j
 refine PySem.P.add_list e m ?_ (by rw [av,av];omega)
 have k:c.toArray++a.toArray=(c++a).toArray:=by simp
 rw [k]
 exact ⟨.ref _,_,I.lnew (t':=s.toks) (r.append g) (by rw [ay];omega),rfl,q _ I.fresh⟩
inductive rRep  (x:V) (y:V) (H:Hp) (Q:VK):Prop
 | mk (l:_) (k:_) (xs:_) (zz1:x = .ref l) (zz2:y = .int k) (zz3:H l=some (.lst xs)) (zz4 : -(2 ^ 63)<=k) (zz5:k<2 ^ 63) (zz6:xs.length*k.toNat<=sizeLine) (zz7:∀p,H p=none->Q (.ref p) (upd H p (.lst (aP k.toNat xs).flatten)))
theorem Ve {α:Type}(xs:List α) (k:Nat):(aP k xs).flatten.length=k*xs.length:=by
 induction k with
 | zero=>simp
 | succ k a=>rw [cX,cE,ay,a,me,Nat.add_comm]
theorem YQ:OpR X (fT .Mult) rRep:=by
 intro pins s σ H x y v u Q I A w h
 obtain ⟨l,k,xs,rfl,rfl,C,h1,h2,p,q⟩:=h
 cases A
 obtain ⟨t,rfl⟩:=w
 obtain ⟨z,b,n,r,B,e⟩:=I.lstM C
 have i:b.toArray.size*k.toNat<=sizeLine:=by rw [av,<- B];exact p
 have o:¬b.toArray.size*k.toNat > (2 ^ 63-1) / 8:=by
  have:(sizeLine:Nat)<=(2 ^ 63-1) / 8:=⋯
  omega
 have j:¬(!Builtin.List.listFitsIndex k)=true:=by
  rw [fitsIndex_both h1 h2]
  exact au
 have c:¬dZ (b.toArray.size*k.toNat)=true:=by
  rw [Jv i]
  exact au
 have g:rW (λf d=>f++d) #[] (aP (if b.toArray.isEmpty=true then 0 else k.toNat) b.toArray)=(aP k.toNat b).flatten.toArray:=by
  have D:∀m:Nat,rW (λf d=>f++d) #[] (aP m b.toArray)=(aP m b).flatten.toArray:=λm=>by
   have:=gg b m []
   rw [List.nil_append] at this
   exact this
  rw [D]
  cases b with
  | nil=>simp
  | cons a E=>rw [if_neg (by simp)]
 refine wpAny_binaryOp_repeat_ref (T:="list") (U:="int") ⋯ ⟨_,e,rfl⟩ (λs'=>rV s' k t) noFill_list_mul F.fills_int_mul pZ repeat_list F.slot_int_index.lookup
  (ig pZ (rV s k t) F.entry_int_rmul (F.args_int_rmul_2 _ _) (int___rmul___int_list k t l b.toArray n)
   ⟨e,rfl,⟨_,e,rfl⟩,ig F.slot_list_mul ⟨_,e,rfl⟩ F.entry_list_mul (F.args_list_mul_2 _ _) (AutoListH.list___mul___list_int_3 l b.toArray n k t j o c) ⟨e,?_⟩⟩)
 rw [g]
 exact ⟨.ref _,_,I.lnew (t':=s.toks) (r.rep k.toNat) (by rw [Ve,mf];exact p),rfl,q _ I.fresh⟩
end
section
variable {prog:Program}{w:bA}{A:bI}{E:ak->Shared->Prop}{s:Shared}
set_option maxRecDepth 100000 in
end
section
variable {X:Cx}
end
end L2
namespace Att
open PySem PySem.W PySem.Calls PyProof.Rows
theorem uP :∀(ns:List Int) (vs:List ak),WellAll P h vs (ns.map WData.int)->dv vs ns:=by
 intro ns
 induction ns with
 | nil =>
  intro vs w
  rw [mh] at w
  cases w
  exact .nil
 | cons n ns c =>
  intro vs w
  rw [aO] at w
  cases w with
  | cons a b =>
   cases a
   exact .cons _ _ (c _ b)
theorem Z3 {l:OpenLaw}{n:Nat}(U:l.most=some n) 
  (j:l.row.toRowW.claim.pre args=true) (G:WellAll P h z args) :
  ∃a vs ns,z=[aV a]/\args=[WData.list (ns.map WData.int)]/\h.get? a=some { cls:=.type "list",data:=.seq vs.toArray }/\dv vs ns/\ns.length<=n:=by
 have g:WShape.hasAll [] args [.list .int]=true:=(pre_splitW j).1
 have i:l.pre.holds [] { args:=args }=true:=(pre_splitW j).2
 obtain ⟨d,r,rfl,h1,h2⟩:=hasAllW_cons g
 obtain rfl:=hasAllW_nil h2
 obtain ⟨xs,rfl,s⟩:=hasW_list h1
 obtain ⟨ns,rfl⟩:=items_int s
 have e:ns.length<=n:=by
  unfold OpenLaw.pre at i
  have c:(WTm.not (.lt (.lit (.int (n:Int))) (.len (.arg 0)))).holds [] { args:=[.list (ns.map .int)] }=true:=by
   have c:=(holds_andW i).1
   rw [U] at c
   exact c
  have b:=condW_of c (w_not (w_lt w_lit (w_len_list (w_arg rfl))))
  rw [aa] at b
  refine Nat.le_of_not_lt λq=>?_
  have o:(n:Int)<((ns.length:Nat):Int):=∅
  first
   | (rw [decide_eq_true o] at b;exact absurd b ⋯)
   | (simp at b;omega)
 cases G with
 | cons m k =>
  cases k
  cases m with
  | list p f=>exact ⟨_,_,ns,rfl,rfl,p,uP ns _ f,e⟩
theorem Z7 (l:OpenLaw) (args:List WData):l.row.toRowW.claim.post args (.bool true) args=true :=
 postW_of (r:=l.row.toRowW) (X:=(true == true))
  (show WShape.has [] (.bool true) .bool=true by first | rfl | decide | simp [WShape.has,WShape.arms,WShape.armsAll])
  (show (WTm.eq .res (.lit (.bool true))).value [] { args:=args,res:=some (.bool true),after:=args }=some (.bool (true == true)) from w_eq_bool (w_res rfl) w_lit) rfl
theorem attach_call {l:OpenLaw}{n:Nat}{q:Program}{loose:List Str}{XP:(Str->Option ak)->Heap->Prop}{YP:bA->Heap->Prop}{d:DefRec}
  (hn:l.most=some n) (ab:d.params.defaults=[])
  (call:∀(w:bA) (s₀ j:Shared) (mg mb:Str->Option ak) (z:Addr) (o:Obj) (pm U doc:ak) (a:Addr) (vs:List ak) (ns:List Int),
   Ground q loose [] XP w s₀ mg mb j.heap->YP w j.heap ->
   j.heap.get? z=some o->o.data = .func (docDef d.name d.params d.body d.scope pm U doc)->j.heap.CodeRec U d.name->mg d.name=some (.ref z) ->
   j.heap.get? a=some { cls:=.type "list",data:=.seq vs.toArray }->dv vs ns->ns.length<=n->j.gens = #[] ->
   d7 (aF l.prog w) nB (.call (.ref z) ⟨[.ref a],[]⟩) (λr s'=>r = .ok (.ret (.bool true))/\OldK j.heap s'.heap/\s'.os=j.os/\il s'.gens) j) :
  WalkO q loose XP YP l.row.toRowW d [] (λf vs=>PySem.call f vs):=by
 intro w s₀ j mg mb G Y z o pm U doc C kV t y k m i x D p I c v E h H
 obtain rfl:C = .none:=Dflts.none m ab
 obtain rfl:kV = .none:=Dflts.noKw m
 obtain ⟨a,vs,ns,rfl,rfl,e,b,g⟩:=Z3 hn c h
 refine enter_call (dU (call w s₀ j mg mb z o pm U doc a vs ns G Y t (fd_plain y) k i e b g x) λr s' s=>?_)
 obtain ⟨rfl,h2,B,A⟩:=s
 exact ⟨.inl ⟨.bool true,.bool true,[],rfl,λ_=>rfl,.bool true,Z7 l _,λ_=>⟨fZ,λ_ u=>(nomatch u)⟩⟩,h2,B,A⟩
section
variable {prog:Program}{w:bA}{A:bI}{E:ak->Shared->Prop}{s:Shared}{K:Frag}
noncomputable def ledger (h:Heap) (L d:Addr):List (Addr×Obj):=(aG h.objs.size).filterMap λa=>if a=L\/a=d then none else (h.get? a).map λo=>(a,o)
end
end Att
namespace L2
theorem uB:∀{vs:List ak}{ns:List Int},dv vs ns->ju ↥62 vs
 | _,_,.nil=>.nil
 | _,_,.cons n t h=>.cons ⟨t,rfl⟩ (uB h)
end L2
namespace L2
end L2
namespace L2
noncomputable def xb (s:Stmt) (j:Nat):Stmt:=match s with
 | .ClassDef _ _ _ body _ _ _ _ _ _ _=>body.getD j (.Pass ⟨0,0,0,0⟩)
 | _=>.Pass ⟨0,0,0,0⟩
noncomputable def jX (s:Stmt):Arguments:=match s with
 | .FunctionDef _ a _ _ _ _ _ _ _ _=>a
 | _=>{ posonlyargs:=[],args:=[],vararg:=none,kwonlyargs:=[],kw_defaults:=[],kwarg:=none,defaults:=[] }
noncomputable def jR (s:Stmt):List Stmt:=match s with
 | .FunctionDef _ _ b _ _ _ _ _ _ _=>b
 | _=>[]
noncomputable def j8 (s:Stmt):Scope:=match s with
 | .FunctionDef _ _ _ _ _ _ a _ _ _=>a
 | _=>{ kind:=.function,names:=[],isGenerator:=false,isCoroutine:=false }
noncomputable abbrev CX0:CXT:=λ_ _ _ _ _ _=>False
noncomputable abbrev E0:XK:=λ_ _ _=>False
theorem YL :wV CX0 X E0:=λ_ _ _ _ _ _ _ h=>h.elim
structure Fun (K:ag) (x qual:Str) (st:Stmt) (f:Addr) (fd:FuncData):Prop where
 ex:∃(oc:ak) (od:Option Addr) (kV doc pm:ak) (an:Option Addr) (cdv ct:ak) (osl:Array (Option ak)),
  fd=bS x qual (jX st) (jR st) (j8 st) .none kV doc pm an cdv ct/\K.lookup f=some ⟨oc,od,.func fd,osl⟩/\cS K cdv qual=true
 kp:c7 K (.ref f)=true
section
variable {P:Program}{w:bA}{K:ag}{mg:Str->Option ak}{base:Heap}
theorem Fun.ok {x:Str}{st:Stmt}{N:List Str}{k:Nat}{sp:Sp}(F:Fun K x z st f fd) (S:FnScope N ps (j8 st)) (len:∀vs H Q E,sp vs H Q E->vs.length=ps.length)
  (G:∀(j:ak) (A:bI) (outer:List Env) (s:Shared) (H:Hp) (vs:List V) (Q:VK) (E:XK),Room k (A.deeper (lI z (j8 st) s.heap.objs.size f j))->sp vs H Q E ->
   ∃t,PSs (vj CX0 P w K mg base N z (j8 st) f j A outer s H E).nox (jR st) t/\t { nx:=λ_ H'=>Q .non H',rt:=Q } (start N vs) H):FnOk P w K mg base CX0 (k+1) f fd ps sp:=by
 obtain ⟨i,g,kV,doc,pm,m,j,l,e,rfl,c,b⟩:=F.ex
 refine Yw c b S len λA outer s H vs Q E d a=>?_
 obtain ⟨t,h,q⟩:=G j A outer s H vs Q E d a
 exact ⟨t,h.nox,q⟩
theorem Fun.binds {x:Str}{st:Stmt}{ps:List Str}(F:Fun K x z st f fd)
  (h:∀(kV doc pm:ak) (U:Option Addr) (j G:ak) (us:List ak),us.length=ps.length->cR (bS x z (jX st) (jR st) (j8 st) .none kV doc pm U j G) ⟨us,[]⟩=pure (ps.zip us)):zW K fd ps []:=by
 obtain ⟨d,c,kV,doc,pm,U,j,G,a,rfl,e,b⟩:=F.ex
 exact .all (h kV doc pm U j G)
theorem vy {st:Stmt}{Y:ak}{U:Option Addr}{G:Array (Option ak)}{kV pm:ak}(l:K.lookup f=some ⟨Y,U,.func (bS x j (jX st) (jR st) (j8 st) .none kV doc pm an z ct),G⟩)
  (c:cS K z j=true) (k:c7 K (.ref f)=true):Fun K x j st f (bS x j (jX st) (jR st) (j8 st) .none kV doc pm an z ct):=⟨⟨Y,U,kV,doc,pm,an,z,ct,G,rfl,l,c⟩,k⟩
end
theorem jM {k:Nat}(j:Room k A):A.units+1<cLine:=bZ (Nat.add_le_add_left (by decide:1<=64) _) j.units
theorem jb {n:Nat}(h:n<=1000):n<sizeLine:=bZ h ⋯
section
variable {X:Cx}
theorem pv (i:Nat) (U:X.N[i]? = some x:=by rfl) (z:Vis X.env.scope x:=by first | exact aU rfl | exact fI (aU rfl) | exact fI (fI rfl)) (G: ↥24=false:=by decide)
  (j:(x == ("__classdict__" : Str))=false:=by decide):PE X (.Name x pos) (tVar i):=Ui U z G j
end
theorem Uo {A B:Prop}(h:B):if false=true then A else B:=by
 rw [if_neg au]
 exact h
theorem kB {A B:Prop}(h:A):if true=true then A else B:=by
 rw [if_pos rfl]
 exact h
noncomputable def jf (H H':Hp):Prop:=∀b o,H b=some o->H' b=some o
theorem jf.refl (H:Hp):jf H H:=λ_ _ h=>h
theorem jf.trans (a:jf H H1) (b:jf H1 H2):jf H H2:=λc o h=>b c o (a c o h)
theorem jf.free (e:jf H H') (h:H' l=Option.none):H l=Option.none:=by
 cases q:H l with
 | none=>rfl
 | some o =>
  rw [e l o q] at h
  cases h
end L2
section
namespace L2
theorem QH (env:Env) (f:Str×fW->List (Str×Addr)->Sem (ForInStep (List (Str×Addr))))
  (U:∀n k r,f (n,k) r=if (k == bh)=true then (sZ env n >>= λa=>pure (c8 ((n,a)::r))) else pure (c8 r)) :
  ∀(j:List (Str×fW)) (acc:List (Str×Addr)),(∀x∈j,x.2 = .free->∃c,env.cells.lookup x.1=some c) ->
  ∃G,tj j acc f=pure G/\∀x,G.lookup x=if (x,bh)∈j then env.cells.lookup x else acc.lookup x:=by
 intro j
 induction j with
 | nil=>intro acc _;exact ⟨acc,rfl,λx=>by rw [if_neg (by simp)]⟩
 | cons y r l =>
  intro acc h
  obtain ⟨n,k⟩:=y
  have m:∀x∈r,x.2 = .free->∃c,env.cells.lookup x.1=some c:=λx d=>h x (aD _ d)
  by_cases g:k = .free
  ·subst g
   obtain ⟨c,o⟩:=h (n,.free) aK rfl
   obtain ⟨G,e,p⟩:=l ((n,c)::acc) m
   refine ⟨G,?_,λx=>?_⟩
   ·rw [iI,U,if_pos (by rfl)]
    have q:sZ env n=pure c:=by unfold sZ;rw [o]
    rw [q]
    exact e
   ·rw [p x]
    by_cases d:x=n
    ·subst d
     rw [if_pos (aK),cM,beq_self_eq_true]
     by_cases b:(x,bh)∈r
     ·rw [if_pos b]
     ·rw [if_neg b];exact o.symm
    ·have i:(x == n)=false:=beq_eq_false_iff_ne.mpr d
     rw [cM,i]
     by_cases b:(x,bh)∈r
     ·rw [if_pos b,if_pos (aD _ b)]
     ·rw [if_neg b,if_neg (by
       intro z
       rcases List.mem_cons.mp z with z | z
       ·exact d (congrArg Prod.fst z)
       ·exact b z)]
  ·obtain ⟨G,e,p⟩:=l acc m
   have i:(k == bh)=false:=by simpa using g
   refine ⟨G,?_,λx=>?_⟩
   ·rw [iI,U,i,if_neg au]
    exact e
   ·rw [p x]
    by_cases b:(x,bh)∈r
    ·rw [if_pos b,if_pos (aD _ b)]
    ·rw [if_neg b,if_neg (by
      intro z
      rcases List.mem_cons.mp z with z | z
      ·exact g (congrArg tm z).symm
      ·exact b z)]
theorem vx {scope:Scope}{env:Env}(h:∀x∈scope.names,x.2 = .free->∃c,env.cells.lookup x.1=some c) :
  ∃j,og scope env=pure j/\∀x,j.lookup x=if (x,bh)∈scope.names then env.cells.lookup x else none:=by
 have d:=QH env (λ(x:Str×fW) r=>match x with | (n,k)=>if (k == bh)=true then (sZ env n >>= λa=>pure (c8 ((n,a)::r))) else pure (c8 r)) (λ_ _ _=>rfl) scope.names [] h
 obtain ⟨j,e,p⟩:=d
 refine ⟨j,?_,λx=>by rw [p x];rfl⟩
 unfold og
 have b:tj scope.names ([]:List (Str×Addr)) (λ(x:Str×fW) r=>match x with | (n,k)=>if (k == bh)=true then (sZ env n >>= λa=>pure (c8 ((n,a)::r))) else pure (c8 r))=(pure j:Sem _):=e
 show (tj scope.names ([]:List (Str×Addr)) _ >>= λf=>pure f)=_
 first
  | (rw [b];rfl)
  | (simp only [bind_pure];exact b)
structure CompSc (osc:Scope) (ON:List Str) (scope:Scope) (own:Nat) (N:List Str) (caps:List Nat):Prop where
 kind:scope.kind = .function
 nocell:∀y∈scope.names,y.2≠.cell
 loc:∀y∈scope.names,y.2 = .local->scope.names.lookup y.1=some .local
 fre:∀y∈scope.names,y.2 = .free->scope.names.lookup y.1=some .free/\(osc.names.lookup y.1=some .cell\/osc.names.lookup y.1=some .free)
 len:N.length=own+caps.length
 cap:∀p∈(N.drop own).zip caps,ON[p.2]? = some p.1/\(p.1,bh)∈scope.names
noncomputable def ve (own:Nat) (caps:List Nat) (σ:St):St:=aP own none++caps.map λj=>(σ[j]?).getD none
noncomputable def Cx.block (X:Cx) (scope:Scope) (j:List (Str×Addr)) (C:Addr) (N:List Str) (s:Shared) (H:Hp) (ex:List Addr):Cx :=
 { X with N:=N,s₀:=s,H₀:=H,env:=rX scope j C X.env,outer:=X.stack,ex:=ex,fn:=λx=>decide (scope.names.lookup x=some .local),pn:=[],xe:=λ_ _=>False }
theorem yh {env:Env}:∀{j:List (Str×fW)}{x:Str}{k:fW},
  (j.map λ(n,k)=>if ↥85 then (n,iq) else (n,k)).lookup x=some k ->
  ∃z,j.lookup x=some z/\(z=k\/(z = .free/\k = .cell))
 | [],_,_,h=>by simp at h
 | (n,c)::r,x,k,h=>by
  have f:=@yh env r x k
  have h':eL x ((if ↥86=true then (n,iq) else (n,c))::r.map λ(n,k)=>if ↥85 then (n,iq) else (n,k))=some k:=h
  cases a:x == n with
  | true =>
   by_cases b: ↥86=true
   ·rw [if_pos b,cM,a] at h'
    cases h'
    refine ⟨c,by rw [cM,a],.inr ⟨?_,rfl⟩⟩
    rw [bz,bz] at b
    exact eq_of_beq b.1.1
   ·rw [if_neg b,cM,a] at h'
    cases h'
    exact ⟨c,by rw [cM,a],.inl rfl⟩
  | false =>
   have h2:eL x (r.map λ(n,k)=>if ↥85 then (n,iq) else (n,k))=some k:=by
    by_cases b: ↥86=true
    ·rw [if_pos b,cM,a] at h';exact h'
    ·rw [if_neg b,cM,a] at h';exact h'
   obtain ⟨z,e,d⟩:=f h2
   exact ⟨z,by rw [cM,a];exact e,d⟩
noncomputable def Jt (X:Cx) (ifs:List Expr) (t:TT):Prop :=
 ∀(pins:List (Addr×Obj)) (s:Shared) (σ:St) (H:Hp) (Q:Bool->Hp->Prop),Inv X pins σ H s->t σ H Q ->
  aA ↥2 X.A (tj ifs true λc r=>if r=true then do let ok <- isTrue c X.env (eval c X.env);pure (c8 ok) else pure (c8 r)) (TP X pins σ Q) X.xe s
noncomputable def WS:TT:=λ_ H Q=>Q true H
theorem jr :Jt X [] WS:=λ_ _ _ H _ I h=>wpAny_tests_nil ⟨H,I,h⟩
theorem zj (h:PT X c t):Jt X [c] t:=λpins s σ H Q I a=>wpAny_tests_one (h pins s σ H Q I a)
section
variable {prog:Program}{w:bA}{A:bI}{R:o8->Shared->Prop}{s:Shared}
theorem Qe {elt j iter:Expr}{ifs:List Expr}{it acc:ak}{env:Env}(I:Nat->Shared->Prop)
  (z:∀n s,I n s->aA (aF prog w) A (fS it) (λr U=>match r with
   | none=>R (.ok .next) U
   | some v=>aA (aF prog w) A (dj j it v) (λ_ s₂=>aA (aF prog w) A (iF j env v) (λ_ s₃ =>
     aA (aF prog w) A (tj ifs true λc r=>if r=true then do let ok <- isTrue c env (eval c env);pure (c8 ok) else pure (c8 r)) (λok G =>
      if ok=true then aA (aF prog w) A (eval elt env) (λx s₅ =>
       aA (aF prog w) A (call (.builtin "list.append") [acc,x]) (λ_ Y=>∃m,m<n/\I m Y) (λ_ _=>False) s₅) (λ_ _=>False) G
      else ∃m,m<n/\I m G) (λ_ _=>False) s₃) (λ_ _=>False) s₂) (λ_ _=>False) U) (λ_ _=>False) s)
  (n:Nat) (h:I n s) :
  d7 (aF prog w) A (.compLoop (.ListComp elt [⟨j,iter,ifs,0⟩] scope pos) 0 it acc env) R s:=by
 refine oN rfl I (λn s i=>?_) n h
 show aA _ A ((oO (.ListComp elt [⟨j,iter,ifs,0⟩] scope pos) 0 it acc env).onRaise (λx=>do iV x env;mC x)) _ _ s
 refine pU ?_
 rw [compTurn_list]
 refine af (cN (af (bb (z n s i) (λr U b=>?_) λ_ _ h'=>h'.elim)))
 cases r with
 | none=>exact wpAny_pure b
 | some v =>
  refine af (bb b (λ_ s₂ g=>?_) λ_ _ h'=>h'.elim)
  refine af (bb g (λ_ s₃ f=>af (bb f (λok G a=>?_) λ_ _ h'=>h'.elim)) λ_ _ h'=>h'.elim)
  cases ok with
  | false=>exact wpAny_pure ⟨rfl,a⟩
  | true =>
   exact af (af (bb a (λx s₅ e=>af (bb e (λ_ Y d=>wpAny_pure (wpAny_pure ⟨rfl,d⟩)) λ_ _ h'=>h'.elim)) λ_ _ h'=>h'.elim))
end
section
variable {X:Cx}{pos:Pos}
noncomputable def VS (own:Nat) (caps:List Nat) (j:TI) (g:TG) (z:TT) (te:TE):TE:=λσ H Q=>j σ H λJ H1=>∀acc,H1 acc=none ->
 ∃W:Nat->Nat->St->Hp->Prop,(∃m,W 0 m (ve own caps σ) (upd H1 acc (.lst [])))/\∀i m d H',W i m d H' ->
  (J.stop i H'/\Q (.ref acc) H') \/
  (J.go i H'/\∃b:St->Hp->Prop,(∀c H2,b c H2->∃e,e<m/\W (i+1) e c H2) /\
   ∀x H2,J.yld i H' x H2->g x d H2 λa k=>z a k λok h=>if ok=true then te a h λv f=>∃ys,f acc=some (.lst ys)/\ys.length<sizeLine/\b a (upd f acc (.lst (ys++[v]))) else b a h)
theorem YH {own:Nat}{G:List (Str×Addr)}{C:Addr}{fp:List Addr}
  (S:CompSc osc ON scope own N caps) (Y:X.env.scope=osc) (U:∀x,G.lookup x=if (x,bh)∈scope.names then X.env.cells.lookup x else none)
  (I:Inv X pins σ H s) (hC:s.heap.objs.size<=C) (j:∀b∈fp,ur X pins H b) (ab:∀b∈fp,b<s.heap.objs.size):(X.block scope G C N s H fp).Ok:=by
 have a:∀x c,G.lookup x=some c->X.env.cells.lookup x=some c/\(x,bh)∈scope.names:=λx c e=>by
  rw [U x] at e
  by_cases h:(x,bh)∈scope.names
  ·rw [if_pos h] at e;exact ⟨e,h⟩
  ·rw [if_neg h] at e;cases e
 refine ⟨I.ok.mod,S.kind,I.ok.glob,I.ok.blt,hC,λx y c h1 h2=>I.ok.inj x y c (a x c h1).1 (a y c h2).1,λx q=>?_,λx c h1 h2=>?_,I.ok.hd,I.ok.frames,.inl rfl,λb g=>?_,I.bs,aI I.ok.bsz I.sz,λb o e g=>?_,λb g m=>?_,I.stack,I.stkFree⟩
 ·-- v
  have key:∀k,(k=iq\/k=bh)->(relabel scope X.env).names.lookup x=some k->∃c,G.lookup x=some c:=λk r e=>by
   obtain ⟨p,u,d⟩:=yh (env:=X.env) e
   have f:=du u
   have i:p = .free:=by
    rcases d with d | d
    ·subst d
     rcases r with z | z
     ·exact absurd z (S.nocell _ f)
     ·exact z
    ·exact d.1
   subst i
   obtain ⟨_,l⟩:=S.fre _ f rfl
   obtain ⟨c,t⟩:=I.ok.has x (by unfold rY;rw [Y];exact l)
   exact ⟨c,by rw [U x,if_pos f];exact t⟩
  rcases q with z | z
  ·exact key _ (.inl rfl) z
  ·exact key _ (.inr rfl) z
 ·-- w
  have n:scope.names.lookup x=some .local:=of_decide_eq_true h1
  have h:=(a x c h2).2
  have:=(S.fre _ h rfl).1
  rw [n] at this
  cases this
 ·refine ⟨aC (aQ (ab b g) hC),λx c e=>(j b g).2.2.2.2.1 x c (a x c e).1⟩
 ·rcases (j b g).2.2.2.1 with z | z
  ·exact I.ok.noex b o e z
  ·exact absurd (aQ (ax e) (aI I.ok.bsz z)) (cw _)
 ·rcases List.mem_cons.mp (I.stkSub b m) with z | z
  ·exact (j b g).2.1 z
  ·exact (j b g).2.2.1 z
theorem uG {N:List Str}{scope:Scope}{own:Nat}{caps:List Nat}{U:List (Str×Addr)}{C D:Addr}{σ:St}{H:Hp}{s:Shared}{h1:Heap}{fp:List Addr}
  (S:CompSc osc ON scope own N caps) (Y:X.env.scope=osc) (hN:X.N=ON) (G:∀x,U.lookup x=if (x,bh)∈scope.names then X.env.cells.lookup x else none)
  (I:Inv X pins σ H s) (hf:∀b∈fp,ur X pins H b) (ab:∀b∈fp,b<s.heap.objs.size) (hD:D=s.heap.objs.size) (hC:C=s.heap.objs.size+1)
  (k:∀b o,s.heap.get? b=some o->h1.get? b=some o) (eD:h1.get? D=some { cls:=.type "list",data:=.seq #[] }) (hn:h1.Ns C λ_=>none) (t':Nat) :
  Inv (X.block scope U C N s H fp) [] (ve own caps σ) (upd H D (.lst [])) { s with heap:=h1,toks:=t' }:=by
 subst hD
 subst hC
 have E:s.heap.objs.size<=s.heap.objs.size+1:=fN _
 have ok:=YH (C:=s.heap.objs.size+1) S Y G I E hf ab
 have f:∀x c,U.lookup x=some c->X.env.cells.lookup x=some c/\(x,bh)∈scope.names:=λx c e=>by
  rw [G x] at e
  by_cases y:(x,bh)∈scope.names
  ·rw [if_pos y] at e;exact ⟨e,y⟩
  ·rw [if_neg y] at e;cases e
 have fr:∀a,s.heap.objs.size<=a->H a=none:=λa ha=>I.hok.fresh ha
 have J:qa X.prog X.w (upd H s.heap.objs.size (.lst [])) h1 s.heap.objs.size (.lst []):=⟨aT _,[],0,.nil,eD⟩
 have r:∀x c,X.env.cells.lookup x=some c->∀v,s.heap.IsCell c v->h1.IsCell c v:=λx c _ v ⟨o,Z,hd⟩=>⟨o,k c o Z,hd⟩
 refine ⟨ok,rfl,I.bare,Un.laid k (ar _) (fr _ (ar _)),⟨_,hn,λi x v e1 h e3=>?_⟩,λx c e=>?_,?_,λx c e=>?_,λp V=>absurd (show p∈([]:List (Addr×Obj)) from V) (by simp),I.hok.laid k (ar _) J,?_⟩
 ·-- ai L ac
  have P:N[i]? = some x:=e1
  have hi:own<=i:=by
   by_cases hi:own<=i
   ·exact hi
   ·unfold ve at h
    rw [cB ↥84,fL] at h
    split at h <;> cases h
  obtain ⟨j',rfl⟩:∃j',i=own+j':=⟨i-own,∅⟩
  have g:(caps.map λj=>(σ[j]?).getD none)[j']? = some (some v):=by
   unfold ve at h
   rw [cu (by simp)] at h
   simpa using h
  rw [aw] at g
  cases K:caps[j']? with
  | none=>rw [K] at g;cases g
  | some j =>
   rw [K] at g
   have n:(σ[j]?).getD none=some v:=aJ g
   have e4:σ[j]? = some (some v):=by
    cases q:σ[j]? with
    | none=>rw [q] at n;cases n
    | some z=>rw [q] at n;exact congrArg some n
   have T:(x,j)∈(N.drop own).zip caps:=by
    refine aB (i:=j') ?_
    rw [List.getElem?_zip_eq_some]
    exact ⟨by rw [oh];exact P,K⟩
   obtain ⟨c1,M⟩:=S.cap _ T
   obtain ⟨_,hk⟩:=S.fre _ M rfl
   have B:X.env.kindOf x=some .cell\/X.env.kindOf x=some .free:=by unfold rY;rw [Y];exact hk
   obtain ⟨m,y,hl⟩:=I.loc
   obtain ⟨u,Q,l⟩:=hl j x v (by rw [hN];exact c1) e4 (by
    rcases B with z | z
    ·exact .inr (.inl z)
    ·exact .inr (.inr z))
   refine ⟨u,Q,?_⟩
   rcases l with ⟨t,_⟩ | ⟨_,c,O,R⟩
   ·rcases B with z | z
    ·rw [z] at t;cases t
    ·rw [z] at t;cases t
   ·refine .inr ⟨?_,c,by show U.lookup x=some c;rw [G x,if_pos M];exact O,r x c O _ R⟩
    rcases e3 with z | z
    ·obtain ⟨k',A,d⟩:=yh (env:=X.env) z
     have:=(S.fre _ M rfl).1
     rw [A] at this
     cases this
     rcases d with d | d
     ·cases d
     ·cases d.2
    ·exact z
 ·obtain ⟨v,z⟩:=I.cell x c (f x c e).1
  exact ⟨v,r x c (f x c e).1 v z⟩
 ·show upd H s.heap.objs.size (.lst []) ↥13=none
  rw [j7 (cz (d5 _))]
  exact fr _ E
 ·have A:=(f x c e).1
  obtain ⟨v,z⟩:=I.cell x c A
  rw [j7 (aC z.lt)]
  exact I.freeC x c A
 ·unfold ve
  show _=N.length
  rw [ay,bE,aa,S.len]
structure BlockAt (X:Cx) (pins:List (Addr×Obj)) (H:Hp) (C:Addr):Prop where
 free:H C=none
 loc:C≠X.env.locals
 new:X.s₀.heap.objs.size<=C
 cell:∀x c,X.env.cells.lookup x=some c->c≠C
 pin:∀p∈X.pn++pins,p.1≠C
theorem BlockAt.gone (B:BlockAt X pins H C) (I:Inv X pins σ H s) (j:eM C s.heap h'):Inv X pins σ H { s with heap:=h' } :=
 I.turned (t':=s.toks) (λb o a e=>(j.2 b a).trans e) B.free B.loc (.inr B.new) B.cell B.pin
theorem Qf {scope:Scope}{own:Nat}{j:List (Str×Addr)}{tg elt iter:Expr}{ti:TT}{te:TE}{H:Hp}{s:Shared}{fp:List Addr}
    {Q:VK} {RR:ak->Addr->o8->Shared->Prop} 
  (hc:X.calm=true) (S:CompSc osc ON scope own N caps) (a1:X.env.scope=osc) (hN:X.N=ON) (a3:∀x,j.lookup x=if (x,bh)∈scope.names then X.env.cells.lookup x else none)
  (hg:∀j C s H ex,PG ↥32 tg g) (a2:∀j C s H ex,Jt ↥32 ifs ti) (he:∀j C s H ex,PE ↥32 elt te)
  (I:Inv X pins σ H s) (T:Turn X.prog X.w X.K tg J fp it tn) (st:tn 0 s.heap) (Y:∀b∈fp,ur X pins H b)
  (hw:∀acc,H acc=none->∃W:Nat->Nat->St->Hp->Prop,(∃m,W 0 m (ve own caps σ) (upd H acc (.lst [])))/\∀i m G H',W i m G H' ->
   (J.stop i H'/\Q (.ref acc) H')\/(J.go i H'/\∃NX:St->Hp->Prop,↥76 /\
    ∀x H2,J.yld i H' x H2->g x G H2 λU H3=>ti U H3 λok H4=>if ok=true then te U H4 λv H5=>∃ys,H5 acc=some (.lst ys)/\ys.length<sizeLine/\NX U (upd H5 acc (.lst (ys++[v]))) else NX U H4))
  (a7:∀(D C:Addr) (H':Hp) (s':Shared),Inv X pins σ H' s'->BlockAt X pins H' C->(∃m,s'.heap.Ns C m)->Q (.ref D) H'->RR (.ref D) C (.ok .next) s') :
  aA ↥2 X.A (rH []) (λacc s₃=>aA ↥2 X.A (rZ scope X.env.globals j [] X.env.qual none .none (some X.env)) (λab s₄ =>
   d7 ↥2 X.A (.compStart ↥39 0 (.ref it) acc { ab with scope:=relabel scope X.env }) (RR acc ab.locals) s₄) E s₃) E s:=by
 have am:∀b∈fp,b<s.heap.objs.size:=λb a=>by
  obtain ⟨o,e,_⟩:=T.obj _ _ st b a
  exact ax e
 refine c6 (mU S.nocell (by intro y hy;simp at hy) (λh₁ h f=>?_) S.kind)
 dsimp only at h f ⊢
 generalize O:s.heap.push { cls:=.type "list",dict:=none,data:=.seq ([]:List ak).toArray }=H2 at h f ⊢
 have P:H2.objs.size=s.heap.objs.size+1:=by rw [<- O,bX]
 have al:∀b o,s.heap.get? b=some o->h₁.get? b=some o:=λb o e=>f.extBut b o (aC (by rw [P];exact bK (ax e))) (ah _ (O ▸ ah _ e))
 have eD:h₁.get? s.heap.objs.size=some { cls:=.type "list",data:=.seq #[] }:=f.extBut _ _ (aC ∅) (ah _ (O ▸ az _ rfl))
 have a5:H s.heap.objs.size=none:=I.hok.fresh (ar _)
 obtain ⟨W,⟨m0,w0⟩,ap⟩:=hw s.heap.objs.size a5
 have a0:h₁.Ns H2.objs.size λ_=>none:=h
 have I1:Inv ↥34 [] (ve own caps σ) (upd H s.heap.objs.size (.lst [])) { s with heap:=h₁,toks:=s.toks+([]:List (Str×ak)).length } :=
  uG S a1 hN a3 I Y am rfl P al eD a0 _
 have ai:tn 0 h₁:=T.keep 0 _ _ st λb _ o e=>al b o e
 have R:∀{H':Hp},↥71->∀b∈fp,ur ↥34 [] H' b:=λ{H'} hn b a=>by
  have ok:=I1.ok
  exact ⟨hn b a,(ok.exf b a).1,ok.exfs b a,.inl a,(ok.exf b a).2,λp hp=>absurd (show p∈([]:List (Addr×Obj)) from hp) (by simp)⟩
 have aL:∀{G:St} {H':Hp} {s':Shared},Inv ↥34 [] G H' s'->Q ↥16 H'->RR ↥16 H2.objs.size (.ok .next) s':=λ{G H' s'} t q=>by
  have J2:Inv X pins σ H' s':=I.call' (ch:=fp) t.os t.base t.hok t.bare λb a=>⟨(Y b a).2.2.2.1,(Y b a).2.1,(Y b a).2.2.2.2.1,(Y b a).2.2.2.2.2⟩
  obtain ⟨m,hm,_⟩:=t.loc
  refine a7 _ _ H' s' J2 ⟨t.free,cz (aQ I.lt ∅),aI I.sz ∅,λx c e z=>?_,λp hp z=>?_⟩ ⟨m,hm⟩ q
  ·obtain ⟨v,y⟩:=I.cell x c e
   have h1:H2.objs.size<s.heap.objs.size:=z ▸ y.lt
   exact absurd h1 ∅
  ·have h1:H2.objs.size<s.heap.objs.size:=z ▸ ax (I.pin p hp).1
   exact absurd h1 ∅
 have M:∀s₃:Shared,s₃={ s with heap:=h₁,toks:=s.toks+([]:List (Str×ak)).length } ->
   d7 ↥2 X.A (.compLoop ↥39 0 (.ref it) ↥16 (rX scope j H2.objs.size X.env)) (RR ↥16 H2.objs.size) s₃:=by
  rintro s₃ rfl
  refine Qe (λn s'=>∃i G H',Inv ↥34 [] G H' s'/\tn i s'.heap/\ ↥71/\W i n G H') ?_ m0
   ⟨0,_,_,I1,ai,λb a=>by rw [j7 (aC (am b a))];exact (Y b a).1,w0⟩
  rintro n s3 ⟨i,U,H3,I3,ac,an,w3⟩
  rcases ap i n U H3 w3 with ⟨as,qn⟩ | ⟨go,NX,a4,step⟩
  ·refine thn (T.done ↥34 rfl rfl rfl hc i [] s3 U H3 _ I3 (R an) ac as) λr s4 ⟨hr,I4⟩=>?_
   subst hr
   exact aL I4 qn
  ·refine thn (T.item ↥34 rfl rfl rfl hc i [] s3 U H3 _ I3 (R an) ac go) λr s4 ⟨u,hr,h4⟩=>?_
   subst hr
   refine thn h4 λ_ s5 ⟨x,H5,I5,r5,y5,L,a6⟩=>?_
   have a8:=I5.pinned (R a6) (T.obj _ _ L)
   refine thn (hg j H2.objs.size s H fp _ s5 U H5 x u _ a8 r5 (step x H5 y5)) λ_ s6 ⟨Z,H6,I6,q6⟩=>?_
   refine thn (a2 j H2.objs.size s H fp _ s6 Z H6 _ I6 q6) λok s7 ⟨H7,I7,q7⟩=>?_
   have again:∀{l:Shared} {B:St} {k:Hp},Inv ↥34 ([]++zt fp s5.heap) B k l->NX B k->∃m,m<n/\∃i G H',Inv ↥34 [] G H' l/\tn i l.heap/\ ↥71/\W i m G H':=λ{l B k} V n8=>by
    obtain ⟨m',hm,w8⟩:=a4 B k n8
    refine ⟨m',hm,i+1,B,k,V.unpinned,T.keep _ _ _ L λb a o e=>(V.pin (b,o) (aM _ (aM _ (qN a e)))).1,λb a=>?_,w8⟩
    obtain ⟨o,e,d⟩:=T.obj _ _ L b a
    exact (V.pin (b,o) (aM _ (aM _ (qN a e)))).2.1
   cases ok with
   | false =>
    rw [if_neg au] at q7 ⊢
    exact again I7 q7
   | true =>
    rw [if_pos rfl] at q7 ⊢
    refine thn (he j H2.objs.size s H fp _ s7 Z H7 _ I7 q7) λv l ⟨y,k,V,r8,ys,e8,z8,q8⟩=>?_
    refine thn (qk _ l Z k ↥16 [y] _ [v] (λ_ H9=>NX Z H9) V rfl (.cons r8 .nil) ⟨_,ys,y,rfl,rfl,e8,z8,q8⟩) λ_ s9 ⟨_,H9,I9,_,q9⟩=>?_
    exact again I9 q9
 exact mi (M _ rfl) (T.self _ 0 _ _ _ ai (M _ rfl))
theorem Xf {scope:Scope}{own:Nat}(S:CompSc osc ON scope own N caps) (j:X.env.scope=osc) (I:Inv X pins σ H s) :
  ∀x∈scope.names,x.2 = .free->∃c,X.env.cells.lookup x.1=some c:=λx a b=>I.ok.has x.1 (by unfold rY;rw [j];exact (S.fre x a b).2)
theorem jE {own:Nat}(S:CompSc osc ON scope own N caps)
  (hc:X.calm=true) (z:X.env.scope=osc) (hN:X.N=ON) (hi:PI X tg iter U)
  (hg:∀j C s H ex,PG ↥32 tg g) (G:∀j C s H ex,Jt ↥32 ifs Y) (he:∀j C s H ex,PE ↥32 elt te)
  (hs:∀x,cQ iter X.env x=pure x:=by intro _;rfl):PE X ↥39 (VS own caps U g Y te):=by
 intro pins s σ H Q I h
 obtain ⟨j,a,d⟩:=vx (Xf S z I)
 rw [sP]
 refine fD (use:=none) rfl hs a S.kind S.loc (thn (hi pins s σ H _ I h) λv s1 h1=>thn h1 λo r h2=>?_)
 obtain ⟨it,fp,p,J,H2,e,n,T,b,k,f⟩:=h2
 subst e
 refine Qf (RR:=λacc C=>tu ↥2 X.A X.xe none ↥51 acc C) hc S z hN d hg G he n T b k f λD C H' s' l B ⟨m,i⟩ q=>?_
 exact ⟨m,i,λh' c=>⟨.ref D,H',B.gone l c,rfl,q⟩⟩
theorem zG {own:Nat}{j:Nat}{U:Pos}(S:CompSc osc ON scope own N caps)
  (ai:X.N.Nodup) (hj:X.N[j]? = some y) (hy:Loc X.env.scope y)
  (hc:X.calm=true) (ab:X.env.scope=osc) (hN:X.N=ON) (hi:PI X tg iter wi)
  (hg:∀G C s H ex,PG ↥53 tg g) (al:∀G C s H ex,Jt ↥53 ifs ti) (he:∀G C s H ex,PE ↥53 elt te)
  (ac:iU ↥39 (some (.Name y Y)) U.line X.env=pure true:=by rfl)
  (hf:X.fn y=true\/X.env.scope.names.lookup y=some .local:=by first | exact .inl rfl | exact .inr rfl | assumption)
  (hs:∀x,cQ iter X.env x=pure x:=by intro _;rfl):PS X (.Assign [.Name y Y] ↥39 U) (V1 (VS own caps wi g ti te) (uf j)):=by
 intro pins s σ H d I h
 obtain ⟨G,c,k⟩:=vx (Xf S ab I)
 rw [exec_Assign_Name_used _ _ _ _ ac]
 refine af (cN (af ?_))
 show aA _ X.A (do let _ <- comprehension ↥39 scope X.env _ (rH []) false (eval iter X.env) (some (iF (.Name y Y) X.env))) _ _ s
 refine af (bb (fD (use:=some (iF (.Name y Y) X.env)) (Q:=λ_ s'=>SP X pins d .next s') rfl hs c S.kind S.loc
  (thn (hi pins s σ H _ I h) λv s1 h1=>thn h1 λO o h2=>?_)) (λ_ s' r=>wpAny_pure (wpAny_pure r)) λ_ _ e=>e)
 obtain ⟨it,fp,P,J,H2,e,M,T,f,E,p⟩:=h2
 subst e
 refine Qf (Q:=λv H'=>d.nx (σ.set j (some v)) H') (RR:=λacc C=>tu ↥2 X.A X.xe (some (iF (.Name y Y) X.env)) (λ_ s'=>SP X pins d .next s') acc C) hc S ab hN k hg al he M T f E p λD C H' s' L B ⟨m,t⟩ q=>?_
 show aA _ X.A (iF (.Name y Y) X.env (.ref D)) _ _ s'
 refine oE (gk (v:=V.ref D) L ai hj hy rfl (λo K ⟨a,b,u⟩=>?_) hf)
 have l:C≠a:=by
  rcases u with z | z
  ·rw [z];exact B.loc
  ·exact λn=>B.cell y a z n.symm
 exact ⟨m,t.sameBut b l,λh' i=>⟨_,H',B.gone K i,q⟩⟩
end
theorem jJ {K:ag}{xs:List V}{g:TG}{ti:TT}{te:TE}{R:Hp->Prop}{σ:St}{H:Hp}(Pv:Nat->St->Hp->Prop) (h0:Pv 0 σ H) (hl:∀i σ H,i<=xs.length->Pv i σ H->SqL K H a xs)
  (hs:∀i x σ H,xs[i]? = some x->Pv i σ H->g x σ H λj H3=>ti j H3 λok G=>if ok=true then te j G λv z=>∃ys,z acc=some (.lst ys)/\ys.length<sizeLine/\Pv (i+1) j ↥63 else Pv (i+1) j G)
  (hd:∀σ H,Pv xs.length σ H->R H) :
  ∃W:Nat->Nat->St->Hp->Prop,↥72/\∀i m U H',W i m U H' ->
   ((Itl K a).stop i H'/\R H')\/((Itl K a).go i H'/\∃Y:St->Hp->Prop,↥35 /\
    ∀x H2,(Itl K a).yld i H' x H2->g x U H2 λj H3=>ti j H3 λok G=>if ok=true then te j G λv z=>∃ys,z acc=some (.lst ys)/\ys.length<sizeLine/\Y j ↥63 else Y j G):=by
 refine ⟨λi m σ H=>m=xs.length-i/\i<=xs.length/\Pv i σ H,⟨xs.length,by simp,aT _,h0⟩,?_⟩
 rintro i m σ H ⟨rfl,hi,p⟩
 have q:=hl i σ H hi p
 by_cases b:i<xs.length
 ·refine .inr ⟨⟨xs,xs[i],q,by simp [b]⟩,Pv (i+1),λU H' c=>⟨xs.length-(i+1),∅,rfl,b,c⟩,λx H' y=>?_⟩
  obtain ⟨e,y⟩:=y
  subst e
  exact hs i x σ _ (y xs q) p
 ·have e:i=xs.length:=∅
  subst e
  exact .inl ⟨⟨xs,q,ar _⟩,hd σ H p⟩
theorem JO {K:ag}{xs:List V}{g:TG}{ti:TT}{te:TE}{R:Hp->Prop}{σ:St}{H:Hp}(Pv:Nat->St->Hp->Prop) (h0:Pv 0 σ H) (hl:∀i σ H,i<=xs.length->Pv i σ H->SqT K H a xs)
  (hs:∀i x σ H,xs[i]? = some x->Pv i σ H->g x σ H λj H3=>ti j H3 λok G=>if ok=true then te j G λv z=>∃ys,z acc=some (.lst ys)/\ys.length<sizeLine/\Pv (i+1) j ↥63 else Pv (i+1) j G)
  (hd:∀σ H,Pv xs.length σ H->R H) :
  ∃W:Nat->Nat->St->Hp->Prop,↥72/\∀i m U H',W i m U H' ->
   ((Itt K a).stop i H'/\R H')\/((Itt K a).go i H'/\∃Y:St->Hp->Prop,↥35 /\
    ∀x H2,(Itt K a).yld i H' x H2->g x U H2 λj H3=>ti j H3 λok G=>if ok=true then te j G λv z=>∃ys,z acc=some (.lst ys)/\ys.length<sizeLine/\Y j ↥63 else Y j G):=by
 refine ⟨λi m σ H=>m=xs.length-i/\i<=xs.length/\Pv i σ H,⟨xs.length,by simp,aT _,h0⟩,?_⟩
 rintro i m σ H ⟨rfl,hi,p⟩
 have q:=hl i σ H hi p
 by_cases b:i<xs.length
 ·refine .inr ⟨⟨xs,xs[i],q,by simp [b]⟩,Pv (i+1),λU H' c=>⟨xs.length-(i+1),∅,rfl,b,c⟩,λx H' y=>?_⟩
  obtain ⟨e,y⟩:=y
  subst e
  exact hs i x σ _ (y xs q) p
 ·have e:i=xs.length:=∅
  subst e
  exact .inl ⟨⟨xs,q,ar _⟩,hd σ H p⟩
theorem qq {lo:Int}{n:Nat}{g:TG}{ti:TT}{te:TE}{R:Hp->Prop}{σ:St}{H:Hp}(Pv:Nat->St->Hp->Prop) (h0:Pv 0 σ H)
  (hs:∀i σ H,i<n->Pv i σ H->g (.int (lo+i)) σ H λj H3=>ti j H3 λok G=>if ok=true then te j G λv z=>∃ys,z acc=some (.lst ys)/\ys.length<sizeLine/\Pv (i+1) j ↥63 else Pv (i+1) j G)
  (hd:∀σ H,Pv n σ H->R H) :
  ∃W:Nat->Nat->St->Hp->Prop,↥72/\∀i m U H',W i m U H' ->
   ((Itr lo n).stop i H'/\R H')\/((Itr lo n).go i H'/\∃Y:St->Hp->Prop,↥35 /\
    ∀x H2,(Itr lo n).yld i H' x H2->g x U H2 λj H3=>ti j H3 λok G=>if ok=true then te j G λv z=>∃ys,z acc=some (.lst ys)/\ys.length<sizeLine/\Y j ↥63 else Y j G):=by
 refine ⟨λi m σ H=>m=n-i/\i<=n/\Pv i σ H,⟨n,by simp,aT _,h0⟩,?_⟩
 rintro i m σ H ⟨rfl,hi,p⟩
 by_cases a:i<n
 ·refine .inr ⟨a,Pv (i+1),λU H' b=>⟨n-(i+1),∅,rfl,a,b⟩,λx H' y=>?_⟩
  obtain ⟨e,y⟩:=y
  subst e y
  exact hs i σ _ a p
 ·have e:i=n:=∅
  subst e
  exact .inl ⟨ar _,hd σ H p⟩
end L2
end
section
namespace L2
structure Cal (P:Program) (w:bA) (K:ag) (mg:Str->Option ak) (base:Heap) (k:Nat) (x:Str) (ps:List Str) (sp:Sp):Prop where
 ex:∃f fd,FnOk P w K mg base CX0 k f fd ps sp/\zW K fd ps []/\mg x=some (.ref f)/\c7 K (.ref f)=true
theorem jg {X:Cx}{k:Nat}{e:Expr}{es:List Expr}(c:Cal X.prog X.w X.K X.mg X.base k x ps sp) (G:Room k X.A) (U:Gl X x) (ha:PA X (e::es) t)
  (z: ↥24=false:=by decide) (Y:aN (e::es) X.env=↥31::aN es X.env:=by rfl) (j: (↥66).any (·.1)=false:=by rfl) :
  PE X ↥70 (VY sp [] E0 t):=by
 obtain ⟨f,fd,F,d,a,b⟩:=c.ex
 exact V4 F G U a b d .nil YL ha z Y j
theorem Cal.mk' {w:bA}{K:ag}{mg:Str->Option ak}{base:Heap}{k:Nat}{x:Str}{ps:List Str}{st:Stmt}{f:Addr}{oc:ak}{od U:Option Addr}{Y:Array (Option ak)}{kV doc pm j z:ak}
  (X:K.In h) (G:h.Ns mainGlobals mg) (a:aY K mainGlobals x=some (some (.ref f)))
  (l:K.lookup f=some ⟨oc,od,.func ↥69,Y⟩) (c:cS K j x=true) (k':c7 K (.ref f)=true)
  (hb:∀(kV doc pm:ak) (U:Option Addr) (j z:ak) (us:List ak),us.length=ps.length->cR ↥69 ⟨us,[]⟩=pure (ps.zip us))
  (ok:∀{f:Addr} {fd:FuncData},Fun K x x st f fd->FnOk P w K mg base CX0 k f fd ps sp):Cal P w K mg base k x ps sp:=by
 have F:=vy (st:=st) l c k'
 exact ⟨f,_,ok F,F.binds hb,bB X G a,k'⟩
section
variable {X:Cx}
inductive cI_call_isinst (K:ag) (xs:List V) (H:Hp) (Q:VK):Prop
 | mk (x:_) (n:_) (t:_) (b:_) (zz1:xs=[x,.ty n]) (zz2:TyOf K H x t) (zz3:eE K t (.type n)=some b) (zz4:Q (.bl b) H)
theorem JW:qz X (.builtin "isinstance") (cI_call_isinst X.K):=by
 intro pins s σ H xs f Q I r h
 obtain ⟨x,n,t,b,rfl,ty,e,q⟩:=h
 obtain ⟨u,a,rfl,d,c⟩:=XI r
 cases (show a=cO n from c)
 exact Zi I d ty e λtk=>⟨.bl b,H,I.tok tk,rfl,q⟩
noncomputable def VT (i j:Int):Prop:=0<j/\j<2 ^ 200
theorem zY:OpR X (fT .FloorDiv) (rI VT λi j=>.int (i / j)):=opI λi j _ _ _ _ _ a q=>by
 have h1:(0:Int)<j:=a.1
 have h2:j<2 ^ 200:=a.2
 refine floordiv_int ∅ (by rw [Int.fdiv_eq_ediv_of_nonneg i ∅];exact q) (.inl (PyProof.noPylong_of_log2 ?_))
 have c:j.natAbs<2 ^ 200:=∅
 have b:j.natAbs≠0:=∅
 have:=(Nat.log2_lt b).mpr c
 omega
inductive cI_call_all (K:ag) (xs:List V) (H:Hp) (Q:VK):Prop
 | mk (p:Addr) (bs:List Bool) (zz1:xs=[.ref p]) (zz2:SqL K H p (bs.map V.bl)) (zz3:Q (.bl (bs.all λb=>b)) H)
theorem Yb (G:X.calm=true):qz X (.builtin "all") (cI_call_all X.K):=by
 intro pins s σ H xs D Q I r h
 obtain ⟨p,bs,rfl,x,q⟩:=h
 obtain ⟨u,rfl,w⟩:=xB r
 cases w
 obtain ⟨a,l,j,E⟩:=I.list x
 have m:p≠s.heap.objs.size:=by
  obtain ⟨o,n,e,_⟩:=id j
  exact aC (ax e)
 have k:a.length=bs.length:=by rw [<- l.length,aa]
 have d:∀i v,a[i]? = some v->∃b,bs[i]? = some b/\v=lW b:=λi v e=>by
  have hi:i<a.length:=(List.getElem?_eq_some_iff.mp e).1
  have c:(bs.map V.bl)[i]? = some (V.bl (bs[i]'∅)):=by rw [aw,ae ∅];rfl
  obtain ⟨u,h1,h2⟩:=l.get c
  rw [e] at h1
  cases h1
  exact ⟨bs[i]'∅,ae ∅,h2⟩
 refine call_all_walk (cP j.isList ?_)
 refine ⟨s.heap.objs.size,_,_,_,_,_,λi=>bs.getD i true,rfl,mj (show (X.A.in1).handled=none from I.ok.hd G) s.heap.objs.size p m a.toArray,⟨⟨_,az _ rfl,rfl,rfl⟩,j.isList.at λo e=>ah _ e⟩,?_,?_⟩
 ·intro i v s' C J B f
  obtain ⟨b,c,rfl⟩:=d i v (by simpa using B)
  have e:bs.getD i true=b:=by rw [aj,c];rfl
  have f:C (bs.getD i true) s':=f
  rw [e] at f
  exact bT f
 ·intro h' tk y
  have e:((aG a.toArray.size).all λi=>bs.getD i true)=bs.all λb=>b:=by
   rw [av,k,dO,cA,cA]
   constructor
   ·intro z b c
    obtain ⟨i,hi,rfl⟩:=List.mem_iff_getElem.mp c
    have:=z i (List.mem_range.mpr hi)
    rw [aj,ae hi] at this
    exact this
   ·intro z i hi
    have g:=List.mem_range.mp hi
    rw [aj,ae g]
    exact z _ (bL g)
  rw [e]
  refine ⟨.bl _,H,I.kept (t':=tk) λb o t=>y b o (by
   intro z
   have:=List.mem_singleton.mp z
   subst this
   exact absurd (ax t) (cw _)) (ah _ t),rfl,q⟩
end
noncomputable def kitT (a b:String):Option Bool:=if (cO a == cO b)=true then some true else if PySem.W.kitMeta b=true then (fastBuiltinMro a).map (·.contains (.type b)) else none
theorem vE (K:ag) (a b:String):eE K (.type a) (.type b)=kitT a b:=rfl
theorem Q0 (K:ag):eE K (.type "int") (.type "bool")=some false:=(vE K _ _).trans (by decide +kernel)
theorem QE (K:ag):eE K (.type "int") (.type "int")=some true:=(vE K _ _).trans (by decide +kernel)
theorem Jh (K:ag):eE K (.type "list") (.type "list")=some true:=(vE K _ _).trans (by decide +kernel)
theorem wG (K:ag):eE K (.type "tuple") (.type "tuple")=some true:=(vE K _ _).trans (by decide +kernel)
noncomputable def Ext (b:Addr) (H H':Hp):Prop:=∀c o,H c=some o->c≠b->H' c=some o
theorem Ext.refl {b:Addr}:Ext b H H:=λ_ _ h _=>h
theorem Ext.trans {b:Addr}(x:Ext b H H1) (y:Ext b H1 H2):Ext b H H2:=λc o h n=>y c o (x c o h n) n
theorem Ext.of_same {b:Addr}(x:jf H H'):Ext b H H':=λc o h _=>x c o h
theorem Ext.put {b:Addr}:Ext b H (upd H b o):=λc _ h n=>by rw [j7 n];exact h
theorem jf.new {H:Hp}{p:Addr}(n:H p=none):jf H (upd H p o):=λc u h=>by rw [j7 (j1 h n)];exact h
theorem Ext.new {b:Addr}{H:Hp}{p:Addr}(n:H p=none):Ext b H (upd H p o):=Ext.of_same (jf.new n)
theorem Ext.free {b:Addr}(x:Ext b H H') {p:Addr}(h:H' p=none) (n:p≠b):H p=none:=by
 cases q:H p with
 | none=>rfl
 | some o=>rw [x p o q n] at h;cases h
end L2
end
section
namespace L2
section
variable {X:Cx}
theorem je (K:ag) (h:X.K=K:=by rfl):IxR X (rIxL K):=by subst h;exact VN
theorem jG (K:ag) (h:X.K=K:=by rfl):IxR X (rIxT K):=by subst h;exact UE
theorem ja (K:ag) (h:X.K=K:=by rfl):qz X (.builtin "len") (cI_call_len_seq K):=by subst h;exact gJ
theorem QF (K:ag) (h:X.K=K:=by rfl):OpR X (cn .In) (rIn K false):=by subst h;exact ZJ
theorem xG (K:ag) (h:X.K=K:=by rfl):OpR X (cn .NotIn) (rIn K true):=by subst h;exact gY
theorem xW (K:ag) (h:X.K=K:=by rfl):qz X (.builtin "isinstance") (cI_call_isinst K):=by subst h;exact JW
theorem zT (K:ag) (j:X.calm=true) (h:X.K=K:=by rfl):qz X (.builtin "all") (cI_call_all K):=by subst h;exact Yb j
theorem jN (K:ag) (j:PE X l tl) (h:X.K=K:=by rfl):PI X tg l (VW K tl):=by subst h;exact Vq j
theorem yb (K:ag) (j:PE X l tl) (h:X.K=K:=by rfl):PI X tg l (Wa K tl):=by subst h;exact U5 j
theorem qt {k:Nat}{n:Nat}(K:ag) (G:X.calm=true) (h:PGs X es t)
  (z:(fH es X.env).length=n:=by rfl) (j:(fH es X.env).findIdx? (·.1)=none:=by rfl) (U:X.K=K:=by rfl):PG X (.Tuple es k pos) (gTup K n t):=by subst U;exact UK G h z j
theorem zM {T id:String}{e:Expr}{es:List Expr}{apos cpos:Pos}(K:ag) (pa:o9 T) (U:Slot T name id) (ab:oa (.builtin id)=pure (.type "method_descriptor")) (hm:MtR X id r) (ho:PE X o to) (ha:PA X (e::es) t)
  (G:dY o name X.env (eval o X.env)=eval o X.env:=by rfl)
  (Y:((ck cpos (aN (e::es) X.env)).all (λx=>!x.1) && (fV cpos (dS [] X.env)).all (λx=>x.1.isSome)
   && decide ((e::es).length+([]:List m7).length+(if ([]:List m7).isEmpty then 0 else 1)<30))=true:=by rfl)
  (z: ↥131=true:=by rfl) (hs:aN (e::es) X.env=↥31::aN es X.env:=by rfl) (j:(ck cpos (aN es X.env)).any (·.1)=false:=by rfl) (hK:X.K=K:=by rfl) :
  PE X (.Call (.Attribute o name apos) (e::es) [] cpos) (tBM K T r to t):=by subst hK;exact WR pa U ab hm ho ha G Y z hs j
end
noncomputable def New (H:Hp) (o:HO) (Q:VK):Prop:=∀p H',H p=none->H' p=some o->jf H H'->Q (.ref p) H'
theorem New.at (h:New H o Q):∀p,H p=none->Q (.ref p) (upd H p o):=λp n=>h p _ n j4 (jf.new n)
section
variable {X:Cx}{es:List Expr}{t:TA}{pos:Pos}
noncomputable def Wn (t:TA):TE:=λσ H Q=>t σ H λxs H1=>xs.length<=sizeLine/\New H1 (.tup xs) Q
noncomputable def Wf (t:TA):TE:=λσ H Q=>t σ H λxs H1=>xs.length<=sizeLine/\New H1 (.lst xs) Q
theorem xV {j}(h:PA X es t):PE X (.Tuple es j pos) (Wn t):=by
 intro pins s σ H Q I d
 refine wpAny_Tuple_spliced (thn (h pos pins s σ H _ I d) λc s1 ⟨xs,H1,a,r,z,q⟩=>⟨by rw [<- r.length];exact z,?_⟩)
 have f:H1 s1.heap.objs.size=none:=a.hok.fresh (ar _)
 refine ⟨.ref s1.heap.objs.size,upd H1 s1.heap.objs.size (.tup xs),a.laid (t':=s1.toks) (λb u e=>ah _ e) (ar _) ?_,rfl,q.at _ f⟩
 exact ⟨z,c,r,⟨_,az _ rfl,rfl,_,rfl⟩⟩
theorem jS (h:PA X es t):PE X (.List es pos) (Wf t):=by
 intro pins s σ H Q I d
 refine wpAny_List_spliced (thn (h pos pins s σ H _ I d) λc s1 ⟨xs,H1,a,r,z,q⟩=>⟨by rw [<- r.length];exact z,?_⟩)
 have f:H1 s1.heap.objs.size=none:=a.hok.fresh (ar _)
 refine ⟨.ref s1.heap.objs.size,upd H1 s1.heap.objs.size (.lst xs),a.laid (t':=s1.toks) (λb u e=>ah _ e) (ar _) ?_,rfl,q.at _ f⟩
 exact ⟨z,c,0,r,az _ rfl⟩
theorem OpR.weak {r':R2}(h:OpR X f r) (w:∀x y H Q,r' x y H Q->r x y H Q):OpR X f r':=λpins s σ H x y v u Q I b a q=>h pins s σ H x y v u Q I b a (w _ _ _ _ q)
theorem qz.weak {r':List V->Hp->VK->Prop}(h:qz X f r) (w:∀x H Q,r' x H Q->r x H Q):qz X f r':=λpins s σ H xs a Q I b q=>h pins s σ H xs a Q I b (w _ _ _ q)
theorem SlR.weak {r':V->Option Int->Option Int->Hp->VK->Prop}(h:SlR X r) (w:∀x lo hi H Q,r' x lo hi H Q->r x lo hi H Q):SlR X r':=λpins s σ H x v b a lo hi c Q I d g f e q=>h pins s σ H x v b a lo hi c Q I d g f e (w _ _ _ _ _ q)
inductive rCatN  (x:V) (y:V) (H:Hp) (Q:VK):Prop
 | mk (l:_) (b:_) (xs:_) (zs:_) (zz1:x = .ref l) (zz2:y = .ref b) (zz3:H l=some (.lst xs)) (zz4:H b=some (.lst zs)) (zz5:xs.length+zs.length<=sizeLine) (zz6:New H (.lst (xs++zs)) Q)
theorem yu:OpR X (fT .Add) rCatN:=UN.weak λ_ _ _ _ ⟨l,b,xs,zs,h1,h2,d,c,a,q⟩=>⟨l,b,xs,zs,h1,h2,d,c,a,q.at⟩
inductive cI_call_list_ofN (K:ag) (xs:List V) (H:Hp) (Q:VK):Prop
 | mk (p:_) (ys:_) (zz1:xs=[.ref p]) (zz2:(SqL K H p ys\/SqT K H p ys)) (zz3:New H (.lst ys) Q)
theorem qw (K:ag) (h:X.K=K:=by rfl):qz X (.type "list") (cI_call_list_ofN K):=by
 subst h
 exact J7.weak λ_ _ _ ⟨p,ys,h1,h2,q⟩=>⟨p,ys,h1,h2,q.at⟩
inductive sI_sl_listN (K:ag) (x:V) (lo:Option Int) (hi:Option Int) (H:Hp) (Q:VK):Prop
 | mk (a:_) (xs:_) (zz1:x = .ref a) (zz2:SqL K H a xs) (zz3:New H (.lst (vT xs lo hi)) Q)
theorem xl (K:ag) (h:X.K=K:=by rfl):SlR X (sI_sl_listN K):=by
 subst h
 exact YZ.weak λ_ _ _ _ _ ⟨a,xs,h1,h2,q⟩=>⟨a,xs,h1,h2,q.at⟩
end
theorem qH {A B:Prop} [Decidable p] (h1:p->A) (h2:¬p->B):if decide p=true then A else B:=by
 by_cases h:p
 ·rw [if_pos (decide_eq_true h)];exact h1 h
 ·rw [if_neg (by rw [decide_eq_false h];exact au)];exact h2 h
theorem zS {A B:Prop} [Decidable p] (h1:¬p->A) (h2:p->B):if (!decide p)=true then A else B:=by
 by_cases h:p
 ·rw [if_neg (by rw [decide_eq_true h];exact au)];exact h2 h
 ·rw [if_pos (by rw [decide_eq_false h];rfl)];exact h1 h
theorem qO {α:Type}{xs:List α}{i:Int}{v:α}(j:0<=i) (h:xs[i.toNat]? = some v):atI xs i=some v:=by
 obtain ⟨n,rfl⟩:=Int.eq_ofNat_of_zero_le j
 exact zD (by simpa using h)
theorem xj {ns:List Int}{i:Int}(j:0<=i) (h:i<ns.length):∃z,atI ↥62 i=some (.int z):=by
 refine ⟨ns[i.toNat]'∅,qO j ?_⟩
 rw [aw,ae ∅]
 rfl
theorem yB {ns:List Int}{i:Nat}(h: (↥62)[i]? = some y):∃z,y=V.int z:=by
 rw [aw] at h
 cases e:ns[i]? with
 | none=>rw [e] at h;cases h
 | some z=>rw [e] at h;exact ⟨z,(aJ h).symm⟩
inductive spMixed  (vs:List V) (H:Hp) (Q:VK) (z_3:XK):Prop
 | mk (a b:Int) (zz1:vs=[.int a,.int b]) (zz2:∀r:Int,Q (.int r) H)
inductive spWhole  (vs:List V) (H:Hp) (Q:VK) (z_3:XK):Prop
 | mk (i:Int) (zz1:vs=[.int i]) (zz2:Q (.bl true) H)
structure Nb (mg:Str->Option ak):Prop where
 b_len:mg "len" = none
 b_range:mg "range" = none
 b_isinstance:mg "isinstance" = none
 b_int:mg "int" = none
 b_bool:mg "bool" = none
 b_str:mg "str" = none
 b_list:mg "list" = none
 b_tuple:mg "tuple" = none
 b_min:mg "min" = none
 b_max:mg "max" = none
 b_all:mg "all" = none
 b_zip:mg "zip" = none
end L2
end
section
namespace L2
mutual
inductive Rep (M:Addr->Prop) (K:ag) (H:Hp):V->fg->Prop
 | non:Rep M K H .non .none
 | bl (b:Bool):Rep M K H (.bl b) (.bool b)
 | int (i:Int):Rep M K H (.int i) (.int i)
 | str (x:Str):Rep M K H (.str x) (.str x)
 | tup {p:Addr} {vs:List V} {ds:List fg}:¬M p->SqT K H p vs->RepL M K H vs ds->Rep M K H (.ref p) (.tuple ds)
 | lst {p:Addr} {vs:List V} {ds:List fg}:¬M p->SqL K H p vs->RepL M K H vs ds->Rep M K H (.ref p) (.list ds)
inductive RepL (M:Addr->Prop) (K:ag) (H:Hp):List V->List fg->Prop
 | nil:RepL M K H [] []
 | cons {v:V} {vs:List V} {d:fg} {ds:List fg}:Rep M K H v d->RepL M K H vs ds->RepL M K H (v::vs) (d::ds)
end
noncomputable def Wy (M:Addr->Prop) (H H':Hp):Prop:=∀c o,H c=some o->¬M c->H' c=some o
theorem Rep.reads_all {X:Cx}(I:Inv X pins σ H s) (h:RepL M X.K H vs ds) :
  ∀{us:List ak},ju vs us->∃as,ReadsAll s.heap us ds as:=by
 refine RepL.rec (M:=M) (K:=X.K) (H:=H) (motive_1:=λv d _=>∀u,jy v u->∃as,Reads s.heap u d as) (motive_2:=λvs ds _=>∀{us:List ak},ju vs us->∃as,ReadsAll s.heap us ds as)
  ?_ ?_ ?_ ?_ ?_ ?_ ?_ ?_ h
 ·intro u r;cases r;exact ⟨_,Reads.none⟩
 ·intro b u r;cases r;exact ⟨_,Reads.bool b⟩
 ·intro i u r;obtain ⟨t,rfl⟩:=r;exact ⟨_,Reads.int i t⟩
 ·intro x u r;obtain ⟨t,rfl⟩:=r;exact ⟨_,Reads.str x t⟩
 ·intro p vs ds n g _ f u r
  cases r
  obtain ⟨j,a,⟨o,e,c,k,d⟩,_⟩:=I.tuple g
  obtain ⟨as,q⟩:=f a
  exact ⟨as,reads_tuple_at e c d (by simpa using q)⟩
 ·intro p vs ds n g _ f u r
  cases r
  obtain ⟨j,a,⟨o,k,e,c,_,d⟩,_⟩:=I.list g
  obtain ⟨as,q⟩:=f a
  exact ⟨_,reads_list_at e c d (by simpa using q)⟩
 ·intro us r;cases r;exact ⟨_,ReadsAll.nil⟩
 ·intro v vs d ds _ _ m l us r
  cases r with
  | cons y w =>
   obtain ⟨as,q⟩:=m _ y
   obtain ⟨bs,z⟩:=l w
   exact ⟨_,ReadsAll.cons q z⟩
theorem Rep.reads {X:Cx}(I:Inv X pins σ H s) (h:Rep M X.K H v d) (r:jy v u):∃as,Reads s.heap u d as:=by
 obtain ⟨as,q⟩:=Rep.reads_all I (RepL.cons h .nil) (Paired.cons r .nil)
 cases q with
 | cons a b=>exact ⟨_,a⟩
section
variable {X:Cx}
inductive rEqD (K:ag) (x:V) (y:V) (H:Hp) (Q:VK):Prop
 | mk (M M':Addr->Prop) (d e:fg) (zz1:Rep M K H x d) (zz2:Rep M' K H y e) (zz3:ml d=true) (zz4:ml e=true) (zz5:Q (.bl (oi d e)) H)
theorem UM (j:X.A.units+64<cLine):OpR X (cn .Eq) (rEqD X.K):=by
 intro pins s σ H x y v u Q I c b h
 obtain ⟨M,k,d,e,h1,h2,s1,a,q⟩:=h
 obtain ⟨i,g⟩:=h1.reads I c
 obtain ⟨bs,f⟩:=h2.reads I b
 exact eq_dataH g f s1 a j ⟨.bl _,H,I,rfl,q⟩
end
end L2
end
section
namespace L2
noncomputable def tCut (t u:TS):TS:=λD σ H=>∃P:St->Hp->Prop,t { D with nx:=P } σ H/\∀a H',P a H'->u D a H'
theorem uh {st:Stmt}{yM:List Stmt}(h1:PS X st t) (h2:PSs X yM u):PSs X (st::yM) (tCut t u):=by
 intro pins s σ H D I h
 obtain ⟨P,h,b⟩:=h
 refine lO (thn (h1 pins s σ H { D with nx:=P } I h) λf s1 q=>?_)
 cases f with
 | next =>
  obtain ⟨a,H',c,q⟩:=q
  exact h2 pins s1 a H' D c (b _ _ q)
 | ret v=>exact q
 | brk=>exact q
 | cont=>exact q
section
variable {X:Cx}
end
theorem XR {X:Cx}(K:ag) (j:X.A.units+64<cLine) (h:X.K=K:=by rfl):OpR X (cn .Eq) (rEqD K):=by subst h;exact UM j
noncomputable def qg (L:Addr) (H:Hp) (b:Addr):Prop:=∃(ns:List Int) (a r c d:Int),H b=some (.lst [.ref L,.int a,.int r,.int c,.int d])/\L≠b/\H L=some (.lst ↥62)/\0<=a
theorem qg.same {b:Addr}(B:qg L H b) (s:jf H H'):qg L H' b:=by
 obtain ⟨ns,a,r,c,d,h1,h2,f,e⟩:=B
 exact ⟨ns,a,r,c,d,s _ _ h1,h2,s _ _ f,e⟩
theorem qg.ext {b acc:Addr}(B:qg L H b) (n:acc≠b) (m:acc≠L) (e:Ext acc H H'):qg L H' b:=by
 obtain ⟨ns,a,r,c,d,h1,h2,g,f⟩:=B
 exact ⟨ns,a,r,c,d,e _ _ h1 n.symm,h2,e _ _ g m.symm,f⟩
theorem qg.put {b acc:Addr}(B:qg L H b) (n:acc≠b) (m:acc≠L):qg L (upd H acc o) b:=B.ext n m Ext.put
theorem qg.ne {b p:Addr}(B:qg L H b) (n:H p=none):p≠b:=by
 obtain ⟨ns,a,r,c,d,h1,h2,f,e⟩:=B
 exact (j1 h1 n).symm
theorem qg.neL {b p:Addr}(B:qg L H b) (n:H p=none):p≠L:=by
 obtain ⟨ns,a,r,c,d,h1,h2,e,f⟩:=B
 exact (j1 e n).symm
theorem qg.ne_tup {b p:Addr}{xs:List V}(B:qg L H b) (n:H p=some (.tup xs)):p≠b:=by
 obtain ⟨ns,a,r,c,d,h1,h2,f,e⟩:=B
 exact jm n h1 ↥36
inductive spTakeL  (vs:List V) (H:Hp) (Q:VK) (z_3:XK):Prop
 | mk (L b:Addr) (n:Int) (zz1:vs=[.ref b,.int n]) (zz2:qg L H b) (zz3:(0<n/\n<2 ^ 200)) (zz4:∀(v:Int) (H':Hp),0<=v->v<n->qg L H' b->Ext b H H'->Q (.int v) H')
inductive spBoxL (K:ag) (vs:List V) (H:Hp) (Q:VK) (z_3:XK):Prop
 | mk (a:Addr) (ns:List Int) (zz1:vs=[.ref a]) (zz2:SqL K H a ↥62) (zz3:∀(L b:Addr) (H':Hp),H b=none->qg L H' b->jf H H'->Q (.ref b) H')
noncomputable abbrev T3:=Int×Int×Int
noncomputable abbrev yc (t:T3):HO:=.tup [.int t.1,.int t.2.1,.int t.2.2]
noncomputable def UC (H:Hp) (v:V) (t:T3):Prop:=∃p,v = .ref p/\H p=some (yc t)
noncomputable def qM (H:Hp) (vs:List V) (ts:List T3):Prop:=cJ (UC H) vs ts
theorem qM.length {ts:List T3}(r:qM H vs ts):vs.length=ts.length:=aZ r
theorem qM.get :∀{vs:List V}{ts:List T3}{i:Nat}{v:V},qM H vs ts->vs[i]? = some v->∃t,ts[i]? = some t/\UC H v t
 | _,_,_,_,.nil,e=>by simp at e
 | _,_,0,_,.cons r _,e=>by simp at e;subst e;exact ⟨_,rfl,r⟩
 | _,_,i+1,v,.cons _ t,e=>by
  obtain ⟨d,h1,h2⟩:=qM.get (i:=i) (v:=v) t (by simpa using e)
  exact ⟨d,by simpa using h1,h2⟩
theorem qM.imp {H':Hp}{ts:List T3}(r:qM H vs ts) (h:∀p t,H p=some (yc t)->H' p=some (yc t)):qM H' vs ts :=
 Paired.mapP r λ_ t ⟨p,e,q⟩=>⟨p,e,h p t q⟩
theorem qM.snoc {ts:List T3}(r:qM H vs ts) (h:UC H v t):qM H (vs++[v]) (ts++[t]):=cZ r h
theorem qv {α β:Type}(f:α->β) (l:List α) (i:Nat) (v:α) (h:l[i]? = some v):(l.take (i+1)).map f=(l.take i).map f++[f v]:=by
 rw [ba,h,aq]
 rfl
end L2
end
section
namespace L2
open PySem PySem.W PyProof.Rows
noncomputable def qT {α:Type}(lt:Nat->Nat->Bool) (n:Nat):KasT α->(α->Prop)->Prop
 | .ret a,G=>G a
 | .ask i j k,G=>i<n/\j<n/\qT lt n (k (lt i j)) G
theorem qT.bind {α β:Type}{lt:Nat->Nat->Bool}{n:Nat}{f:α->KasT β}{G:β->Prop}:∀{t:KasT α},qT lt n t (λa=>qT lt n (f a) G)->qT lt n (t.bind f) G
 | .ret _,h=>h
 | .ask _ _ k,h=>⟨h.1,h.2.1,qT.bind (t:=k _) h.2.2⟩
theorem qT.wp {α:Type}{lt:Nat->Nat->Bool}{n:Nat}{z:Nat->Nat->(Bool->Shared->Prop)->Shared->Prop}{I:Shared->Prop}(Y:∀i j C s,i<n->j<n->I s->(∀s',I s'->C (lt i j) s')->z i j C s)
  {G:α->Prop} {Q:α->Shared->Prop} (U:∀a s,G a->I s->Q a s):∀{t:KasT α} {s:Shared},qT lt n t G->I s->t.kasWp z Q s
 | .ret a,s,h,b=>U a s h b
 | .ask i j k,s,h,b=>Y i j _ s h.1 h.2.1 b λs' c=>qT.wp Y U (t:=k _) h.2.2 c
section
variable {O:KeyOrd}{key:Nat->O.α}{n:Nat}{p:Array Nat}
noncomputable abbrev ltK (O:KeyOrd) (key:Nat->O.α):Nat->Nat->Bool:=λi j=>O.blt (key i) (key j)
noncomputable abbrev kp (key:Nat->O.α) (p:Array Nat) (i:Nat):O.α:=key (p.getD i 0)
noncomputable def zn (key:Nat->O.α) (p:Array Nat) (k:Nat):Prop:=∀i j,i<=j->j<k->O.kle (kp key p i) (kp key p j)
noncomputable def kh (key:Nat->O.α) (p:Array Nat) (k:Nat):Prop:=∀i j,i<=j->j<k->O.kle (kp key p j) (kp key p i)
noncomputable def qi (n:Nat) (p:Array Nat):Prop:=p.Perm (aG n).toArray
theorem qi.size (h:qi n p):p.size=n:=by have:=h.size_eq;simpa using this
theorem qi.lt (h:qi n p) (j:0<n) (i:Nat):p.getD i 0<n:=by
 by_cases hi:i<p.size
 ·have e:p.getD i 0=p[i]:=by simp [oj,hi]
  rw [e]
  have a:p[i]∈(aG n).toArray.toList:=(Array.perm_iff_toList_perm.mp h).mem_iff.mp (by simp)
  simpa using a
 ·have e:p.getD i 0=0:=by simp [oj,hi]
  rw [e];exact j
theorem zr {p q:Array Nat}{i j:Nat}(h:p[i]? = q[j]?):p.getD i 0=q.getD j 0:=by
 rw [iS,iS,h]
theorem gz {j d:Nat}(z:j<p.size) (G:d<=j) (k:Nat) :
  kp (O:=O) key (bubble p j d) k=if k=j-d then kp key p j else if j-d<k/\k<=j then kp key p (k-1) else kp key p k:=by
 have e:=getElem?_bubble z d G k
 unfold kp
 by_cases h1:k=j-d
 ·rw [if_pos h1] at e ⊢;rw [zr e]
 ·rw [if_neg h1] at e ⊢
  by_cases h2:j-d<k/\k<=j
  ·rw [if_pos h2] at e ⊢;rw [zr e]
  ·rw [if_neg h2] at e ⊢;rw [zr e]
theorem QB {i j:Nat}(z:j<=p.size) (k:Nat):kp (O:=O) key (rJ p i j) k=if i<=k/\k<j then kp key p (i+j-1-k) else kp key p k:=by
 have e:=getElem?_mirror_all (i:=i) z k
 unfold kp rJ
 by_cases h1:i<=k/\k<j
 ·rw [if_pos h1] at e ⊢;rw [zr e]
 ·rw [if_neg h1] at e ⊢;rw [zr e]
theorem xy {i j:Nat}(G:j<=p.size) (z:∀k,i<=k->k<j->kp (O:=O) key p k=kp key p (j-1)) (k:Nat):kp (O:=O) key (rJ p i j) k=kp key p k:=by
 rw [QB G]
 split
 ·rw [z _ ∅ ∅,z k ∅ ∅]
 ·rfl
theorem qi.rev (h:qi n p) (i j:Nat):qi n (rJ p i j):=(mirror_perm _ _ _ _).trans h
theorem qi.bub (h:qi n p) (i j:Nat):qi n (bubble p i j):=(bubble_perm _ _ _).trans h
theorem Jg (Y:qi n p) (U:0<n) {G:Nat->Prop}:∀(f a:Nat),1<=a->zn (O:=O) key p a ->
  (∀m,a<=m->m<=a+f->zn (O:=O) key p m->(m=a+f\/O.klt (kp key p m) (kp key p (m-1)))->G m)->qT (ltK O key) n (kas_asc p f a) G
 | 0,a,_,c,h=>h a (ar _) (ar _) c (.inl rfl)
 | f+1,a,h1,c,h=>by
  refine ⟨Y.lt U _,Y.lt U _,?_⟩
  show qT _ _ (if O.blt (kp key p a) (kp key p (a-1))=true then _ else _) _
  cases b:O.blt (kp key p a) (kp key p (a-1)) with
  | true=>rw [if_pos rfl];exact h a (ar _) ∅ c (.inr b)
  | false =>
   rw [if_neg au]
   refine Jg Y U f (a+1) ∅ (λi j k s=>?_) λm r q d o=>h m ∅ ∅ d (o.imp (λz=>∅) id)
   by_cases e:j<a
   ·exact c i j k e
   ·have g:j=a:=∅
    subst g
    by_cases l:i=j
    ·subst l;exact dq _
    ·exact ij (c i (j-1) ∅ ∅) b
theorem gG (Y:qi n p) {m z:Nat}{G:Nat×Array Nat->Prop}(h1:1<=m) (hm:m<=z) (hn:z<=n) (hs:kh (O:=O) key p m)
  (h:∀k U,qi n U->1<=k->k<=z->zn (O:=O) key U k->G (k,U)):qT (ltK O key) n (sW m z p) G:=by
 have a:m<=p.size:=by rw [Y.size];omega
 refine qT.bind (Jg (Y.rev _ _) ∅ _ m h1 (λi j e f=>?_) λk d c b _=>h k _ (Y.rev _ _) ∅ ∅ b)
 rw [QB a,QB a,if_pos ∅,if_pos ∅]
 exact hs _ _ ∅ ∅
theorem vU {Y:Nat}(hn:Y<=n) {G:Array Nat×Nat×Nat->Prop}:∀(f:Nat) (p:Array Nat) (x q:Nat),qi n p->1<=x->x+f=Y->kh (O:=O) key p x->q+1<=x ->
  (∀i,x-(q+1)<=i->i<x->kp (O:=O) key p i=kp key p (x-1)) ->
  (∀z m U,qi n z->x<=m->m<=Y->kh (O:=O) key z m->U+1<=m->(∀i,m-(U+1)<=i->i<m->kp (O:=O) key z i=kp key z (m-1))->G (z,m,U)) ->
  qT (ltK O key) n (kas_desc f p x q) G
 | 0,p,x,q,c,h1,D,d,y,w,h=>h p x q c (ar _) ∅ d y w
 | f+1,p,x,q,c,h1,D,d,y,w,h=>by
  have A:x<=p.size:=by rw [c.size];omega
  refine ⟨c.lt ∅ _,c.lt ∅ _,?_⟩
  show qT _ _ (if O.blt (kp key p x) (kp key p (x-1))=true then _ else _) _
  cases g:O.blt (kp key p x) (kp key p (x-1)) with
  | true =>
   rw [if_pos rfl]
   have e:∀z:Array Nat,(∀k,kp (O:=O) key z k=kp key p k)->kh (O:=O) key z (x+1):=by
    intro z B i j t E
    rw [B,B]
    by_cases r:j<x
    ·exact d i j t r
    ·have s:j=x:=∅
     subst s
     by_cases u:i=j
     ·subst u;exact dq _
     ·exact ij (i0 g) (d i (j-1) ∅ ∅)
   by_cases o:q > 0
   ·rw [if_pos o]
    exact vU hn f _ (x+1) 0 (c.rev _ _) ∅ ∅ (e _ (xy A w)) ∅ (λi h1 h2=>by congr 1;omega) λz m U a b=>h z m U a ∅
   ·rw [if_neg o]
    exact vU hn f _ (x+1) 0 c ∅ ∅ (e _ λ_=>rfl) ∅ (λi h1 h2=>by congr 1;omega) λz m U a b=>h z m U a ∅
  | false =>
   rw [if_neg au]
   refine ⟨c.lt ∅ _,c.lt ∅ _,?_⟩
   show qT _ _ (if O.blt (kp key p (x-1)) (kp key p x)=true then _ else _) _
   cases l:O.blt (kp key p (x-1)) (kp key p x) with
   | true=>rw [if_pos rfl];exact h p x q c (ar _) ∅ d y w
   | false =>
    rw [if_neg au]
    have v:kp (O:=O) key p x=kp key p (x-1):=iQ l g
    refine vU hn f p (x+1) (q+1) c ∅ ∅ (λi j t E=>?_) ∅ (λi h1 h2=>?_) λz m U a b=>h z m U a ∅
    ·by_cases r:j<x
     ·exact d i j t r
     ·have s:j=x:=∅
      subst s
      by_cases u:i=j
      ·subst u;exact dq _
      ·rw [v];exact d i (j-1) ∅ ∅
    ·rw [show x+1-1=x by omega]
     by_cases C:i=x
     ·subst C;rfl
     ·rw [v];exact w i ∅ ∅
theorem ug (hP:qi n p) {m z:Nat}{G:Nat×Array Nat->Prop}(hm:m+1<=z) (Y:z<=n) (hs:kh (O:=O) key p (m+1))
  (h:∀k U,qi n U->1<=k->k<=z->zn (O:=O) key U k->G (k,U)):qT (ltK O key) n (kas_descPart m z p) G:=by
 refine qT.bind (vU Y _ p (m+1) 0 hP ∅ ∅ hs ∅ (λi h1 h2=>by congr 1;omega) λU k q b o e d r g=>?_)
 have c:k<=U.size:=by rw [b.size];omega
 show qT _ _ (if q > 0 then sW k z (rJ U (k-(q+1)) k) else sW k z U) _
 by_cases a:q > 0
 ·rw [if_pos a]
  refine gG (b.rev _ _) ∅ e Y (λi j f l=>?_) h
  rw [xy c g,xy c g]
  exact d i j f l
 ·rw [if_neg a]
  exact gG b ∅ e Y d h
theorem ZT (U:qi n p) (hn:0<n) {G:Nat×Array Nat->Prop}(h:∀k Y,qi n Y->1<=k->k<=n->zn (O:=O) key Y k->G (k,Y)):qT (ltK O key) n (kas_count n p) G:=by
 refine qT.bind (Jg U hn _ 1 (ar 1) (λi j o w=>by have:i=j:=∅;subst this;exact dq _) λm g C b s=>?_)
 by_cases f:m=n
 ·rw [if_pos (by simpa using f)]
  exact h m p U g ∅ b
 ·rw [if_neg (by simpa using f)]
  have l:O.klt (kp key p m) (kp key p (m-1)):=by
   rcases s with z | z
   ·omega
   ·exact z
  by_cases q:m > 1
  ·rw [if_pos q]
   refine ⟨U.lt hn _,U.lt hn _,?_⟩
   show qT _ _ (if O.blt (kp key p 0) (kp key p (m-1))=true then _ else _) _
   cases d:O.blt (kp key p 0) (kp key p (m-1)) with
   | true=>rw [if_pos rfl];exact h m p U g ∅ b
   | false =>
    rw [if_neg au]
    have e:m<=p.size:=by rw [U.size];omega
    have a:∀k,0<=k->k<m->kp (O:=O) key p k=kp key p (m-1):=by
     intro k _ y
     have B:=b 0 k ∅ y
     have A:=b k (m-1) ∅ ∅
     exact iQ A (ij d B)
    refine ug (U.rev _ _) ∅ (ar _) (λi j o w=>?_) h
    rw [xy e a,xy e a]
    by_cases t:j<m
    ·rw [a i ∅ ∅,a j ∅ t];exact dq _
    ·have v:j=m:=∅
     subst v
     by_cases c:i=j
     ·subst c;exact dq _
     ·rw [a i ∅ ∅];exact i0 l
  ·rw [if_neg q]
   have r:m=1:=∅
   subst r
   refine ug U ∅ (ar _) (λi j o w=>?_) h
   by_cases c:i=j
   ·subst c;exact dq _
   ·have x:i=0:=∅
    have u:j=1:=∅
    subst x;subst u
    exact i0 l
theorem uA (U:qi n p) (z:0<n) {k:Nat}(j:zn (O:=O) key p k) {G:Nat->Prop}:∀(f l r:Nat),l<=r->r<=k->r-l<=f ->
  (∀i,i<l->O.kle (kp key p i) (kp key p k))->(∀i,r<=i->i<k->O.klt (kp key p k) (kp key p i)) ->
  (∀l,l<=k->(∀i,i<l->O.kle (kp key p i) (kp key p k))->(∀i,l<=i->i<k->O.klt (kp key p k) (kp key p i))->G l)->qT (ltK O key) n (kas_place p k f l r) G
 | 0,l,r,g,d,m,a,c,h=>by
  have:l=r:=∅
  subst this
  exact h l d a c
 | f+1,l,r,g,d,m,a,c,h=>by
  unfold kas_place
  by_cases e:l>=r
  ·rw [if_pos e]
   have:l=r:=∅
   subst this
   exact h l d a c
  ·rw [if_neg e]
   refine ⟨U.lt z _,U.lt z _,?_⟩
   show qT _ _ (if O.blt (kp key p k) (kp key p ((l+r) / 2))=true then _ else _) _
   cases b:O.blt (kp key p k) (kp key p ((l+r) / 2)) with
   | true =>
    rw [if_pos rfl]
    exact uA U z j f l _ ∅ ∅ ∅ a (λi h1 h2=>KeyOrd.klt_of_klt_of_kle b (j _ _ h1 h2)) h
   | false =>
    rw [if_neg au]
    exact uA U z j f _ r ∅ ∅ ∅ (λi h1=>ij (j i ((l+r) / 2) ∅ ∅) (show O.kle _ _ from b)) c h
theorem XW (U:0<n) {G:Array Nat->Prop}:∀(f:Nat) (p:Array Nat) (k:Nat),qi n p->k+f=n->zn (O:=O) key p k ->
  (∀z,qi n z->zn (O:=O) key z n->G z)->qT (ltK O key) n (kas_bin f p k) G
 | 0,p,k,a,e,b,h=>h p a (by rw [<- e];exact b)
 | f+1,p,k,a,e,b,h=>by
  refine qT.bind (uA a U b k 0 k (aT _) (ar _) ∅ (λi hi=>∅) (λi h1 h2=>∅) λl m d g=>?_)
  refine XW U f _ (k+1) (a.bub _ _) ∅ (λi j o q=>?_) h
  have c:k<p.size:=by rw [a.size];omega
  rw [gz c ∅,gz c ∅,show k-(k-l)=l by omega]
  repeat' split
  all_goals first
   | (exfalso;omega)
   | exact dq _
   | exact d _ ∅
   | exact i0 (g _ ∅ ∅)
   | exact b _ _ ∅ ∅
theorem wQ (z:0<n) {G:Array Nat->Prop}(h:∀j,qi n j->zn (O:=O) key j n->G j):qT (ltK O key) n (tD n) G:=by
 refine qT.bind (ZT (Array.Perm.refl _) z λk j c h1 d b=>?_)
 show qT _ _ (if k<n then kas_bin (n-max k 1) j (max k 1) else .ret j) _
 by_cases a:k<n
 ·rw [if_pos a,show max k 1=k by omega]
  exact XW z _ j k c ∅ b h
 ·rw [if_neg a]
  have e:k=n:=∅
  subst e
  exact h j c b
end
noncomputable def ze:List Int->List Int->Bool
 | [],[]=>false
 | [],_::_=>true
 | _::_,[]=>false
 | a::x,b::y=>if a=b then ze x y else decide (a<b)
theorem uM:∀a,ze a a=false
 | []=>rfl
 | a::x=>by unfold ze;rw [if_pos rfl];exact uM x
theorem wk:∀a b c,ze a b=true->ze b c=true->ze a c=true
 | [],[],_,h,_=>by cases h
 | [],_::_,[],_,h=>by cases h
 | [],_::_,_::_,_,_=>rfl
 | _::_,[],_,h,_=>by cases h
 | _::_,_::_,[],_,h=>by cases h
 | a::x,b::y,c::z,h1,h2=>by
  unfold ze at h1 h2 ⊢
  by_cases e:a=b
  ·subst e
   rw [if_pos rfl] at h1
   by_cases d:a=c
   ·rw [if_pos d] at h2 ⊢;exact wk x y z h1 h2
   ·rw [if_neg d] at h2 ⊢;exact h2
  ·rw [if_neg e] at h1
   have g:=of_decide_eq_true h1
   by_cases d:b=c
   ·subst d;rw [if_neg e];exact h1
   ·rw [if_neg d] at h2
    have f:=of_decide_eq_true h2
    rw [if_neg ∅]
    exact decide_eq_true ∅
theorem JH:∀a b c,ze a c=true->ze a b=true\/ze b c=true
 | [],[],[],h=>by cases h
 | [],[],_::_,_=>.inr rfl
 | [],_::_,_,_=>.inl rfl
 | _::_,_,[],h=>by cases h
 | _::_,[],_::_,_=>.inr rfl
 | a::x,b::y,c::z,h=>by
  unfold ze at h ⊢
  by_cases f:a=b
  ·subst f
   rw [if_pos rfl]
   by_cases e:a=c
   ·rw [if_pos e] at h ⊢;exact JH x y z h
   ·rw [if_neg e] at h ⊢;exact .inr h
  ·rw [if_neg f]
   by_cases e:b=c
   ·subst e;rw [if_neg f] at h;exact .inl h
   ·rw [if_neg e]
    by_cases g:a=c
    ·subst g
     by_cases d:a<b
     ·exact .inl (decide_eq_true d)
     ·exact .inr (decide_eq_true ∅)
    ·rw [if_neg g] at h
     have h':=of_decide_eq_true h
     by_cases d:a<b
     ·exact .inl (decide_eq_true d)
     ·exact .inr (decide_eq_true ∅)
theorem wm:∀a b,ze a b=false->ze b a=false->a=b
 | [],[],_,_=>rfl
 | [],_::_,h,_=>by cases h
 | _::_,[],_,h=>by cases h
 | a::x,b::y,h1,h2=>by
  unfold ze at h1 h2
  by_cases e:a=b
  ·subst e
   rw [if_pos rfl] at h1 h2
   rw [wm x y h1 h2]
  ·rw [if_neg e] at h1
   rw [if_neg (λz=>e z.symm)] at h2
   have:=of_decide_eq_false h1
   have:=of_decide_eq_false h2
   omega
noncomputable def uU:KeyOrd:=⟨List Int,ze,uM,wk,JH,wm⟩
noncomputable def V3:KeyOrd:=⟨Int,λa b=>decide (a<b),λa=>by simp,λa b c h1 h2=>by
  have:=of_decide_eq_true h1;have:=of_decide_eq_true h2;exact decide_eq_true ∅,λa b c h=>by
  have:=of_decide_eq_true h
  by_cases d:a<b
  ·exact .inl (decide_eq_true d)
  ·exact .inr (decide_eq_true ∅),λa b h1 h2=>by
  have:=of_decide_eq_false h1;have:=of_decide_eq_false h2;omega⟩
end L2
end
section
namespace L2
open PySem.W
open PySem.AutoSeq1 (wpAny_loadPart')
open PySem.MeetsSeq PySem.MeetsSeq2 PySem.MeetsSeq3 PySem.SeqRoads2
theorem yS (h:dv its xs) {i:Nat}(hi:i<its.length):∃t,its[i]? = some (.int (xs[i]'(by have:=h.length;omega)) t):=by
 have a:i<xs.length:=by have:=h.length;omega
 obtain ⟨u,c,t,b⟩:=ju.get (uB h) (i:=i) (x:=V.int xs[i]) (by rw [aw,ae a];rfl)
 exact ⟨t,by rw [c,b]⟩
theorem Zu (l b:Addr) (items j:List ak) (n n2:Nat) (dd Y:Option Addr) (sl z:Array (Option ak)) (U:dv items xs) (G:dv j ys) (k:Nat) :
  ∀i:Nat,items.length-i=k->i<=items.length->i<=j.length->Meets (fG.«list.__eq__.loop» ⟨[.ref l,.ref b,cg i,cg 0],[]⟩)
   (λA R s=>s.heap.get? l=some { cls:=.type "list",dict:=dd,data:=.seq items.toArray n,slots:=sl }/\s.heap.get? b=some { cls:=.type "list",dict:=Y,data:=.seq j.toArray n2,slots:=z } /\
    R (.ok (.ret (.bool (ze (xs.drop i) (ys.drop i))))) s):=by
 have H:=U.length
 have E:=G.length
 induction k with
 | zero =>
  intro i B hi q prog w A R s h
  obtain ⟨y,g,d,tk,os⟩:=s;obtain ⟨a,c,h⟩:=h
  wp_walk using cc a,cc c
  have o:items.toArray[((i:Nat):Int).toNat]? = none:=by simp;omega
  have C:xs.drop i=[]:=by simp;omega
  rw [C] at h
  rw [o]
  wp_walk using cc a,cc c
  show R (.ok (.ret (.bool (decide (items.toArray.size<j.toArray.size))))) _
  have f:decide (items.toArray.size<j.toArray.size)=ze [] (ys.drop i):=by
   by_cases m:i<ys.length
   ·rw [dH m]
    exact decide_eq_true ↥84
   ·rw [mm ∅]
    exact decide_eq_false ↥84
  rw [f]
  exact h
 | succ k x =>
  intro i B hi q prog w A R s h
  obtain ⟨y,g,d,tk,os⟩:=s;obtain ⟨a,c,h⟩:=h
  have m:i<items.length:=∅
  obtain ⟨t,v⟩:=yS U m
  have o:items.toArray[((i:Nat):Int).toNat]? = some (.int (xs[i]'∅) t):=by simpa using v
  wp_walk using cc a,cc c
  rw [o]
  by_cases p:i<j.length
  ·obtain ⟨u,r⟩:=yS G p
   have f:j.toArray[((i:Nat):Int).toNat]? = some (.int (ys[i]'∅) u):=by simpa using r
   rw [f]
   rw [dH (show i<xs.length by omega),dH (show i<ys.length by omega)] at h
   unfold ze at h
   refine af (lM ?_)
   have D:((i:Int)+1)=((i+1:Nat):Int):=by push_cast;rfl
   by_cases e:xs[i]'∅=ys[i]'∅
   ·rw [if_pos e] at h
    rw [beq_iff_eq.mpr e]
    wp_walk
    rw [D]
    exact ⟨dw plain_eq_loop _,eQ entry_eq_loop (by
     rw [de plain_eq_loop _]
     exact x (i+1) ∅ ∅ ∅ prog w A R _ ⟨a,c,h⟩)⟩
   ·rw [if_neg e] at h
    rw [beq_eq_false_iff_ne.mpr e]
    wp_walk using cc a,cc c
    rw [o,f]
    refine af (show aA (aF prog w) _ (richCompare .Lt _ _) _ _ _ from lt_int ?_)
    exact wpAny_pure h
  ·have f:j.toArray[((i:Nat):Int).toNat]? = none:=by simp;omega
   rw [f]
   rw [dH (show i<xs.length by omega),mm (show ys.length<=i by omega)] at h
   wp_walk using cc a,cc c
   show R (.ok (.ret (.bool (decide (items.toArray.size<j.toArray.size))))) _
   rw [decide_eq_false ↥84]
   exact h
theorem Zz (l b:Addr) (items j:List ak) (n Y:Nat) (dd G:Option Addr) (U z:Array (Option ak)) (hx:dv items xs) (hy:dv j ys) :
  Meets (fG.«list.__lt__» ⟨[.ref l,.ref b],[]⟩)
   (λA R s=>s.heap.get? l=some { cls:=.type "list",dict:=dd,data:=.seq items.toArray n,slots:=U }/\s.heap.get? b=some { cls:=.type "list",dict:=G,data:=.seq j.toArray Y,slots:=z } /\
    R (.ok (.ret (.bool (ze xs ys)))) s):=by
 intro prog w A R s h
 obtain ⟨e,g,d,tk,os⟩:=s;obtain ⟨a,c,h⟩:=h
 have f:=AutoSeq1.sub_list_list
 wp_walk using cc a,cc c
 exact ⟨dw plain_eq_loop _,eQ entry_eq_loop (by
  rw [de plain_eq_loop _]
  exact Zu l b items j n Y dd G U z hx hy _ 0 rfl (aT _) (aT _) prog w A R _ ⟨a,c,by simpa using h⟩)⟩
section
variable {prog:Program}{w:bA}{A:bI}{E:ak->Shared->Prop}{s:Shared}
theorem Q4 {l b:Addr}{items j:List ak}{n n2:Nat}{dd G:Option Addr}{Y z:Array (Option ak)}{Q:Bool->Shared->Prop}(hu:A.units<cLine)
  (U:s.heap.get? l=some { cls:=.type "list",dict:=dd,data:=.seq items.toArray n,slots:=Y }) (hb:s.heap.get? b=some { cls:=.type "list",dict:=G,data:=.seq j.toArray n2,slots:=z })
  (hx:dv items xs) (hy:dv j ys) (h:Q (ze xs ys) s):aA (aF prog w) A (oneLt' true (.ref l) (.ref b)) Q E s:=by
 rw [oneLt'_eq]
 simp only [if_true]
 refine af (wpAny_cRoomFor hu ?_)
 refine af (wpAny_callSpecialIfBound?_slot ⟨_,U,rfl⟩ mV (ig mV ⟨_,U,rfl⟩ PySem.F.entry_list_lt (PySem.F.args_list_lt_2 _ _) (Zz l b items j n n2 dd G Y z hx hy) ⟨U,hb,?_⟩))
 exact bT h
theorem Xl {x y:Addr}{items items2:List ak}{n k:Nat}{Q:Bool->Shared->Prop}(hx:s.heap.get? x=some z) (dx:z.data = .seq items.toArray n) (Y:s.heap.get? y=some j) (dy:j.data = .seq items2.toArray k)
  (U:dv items xs) (G:dv items2 ys) (h:Q (ze xs ys) s):aA (aF prog w) A (keyLt' (tuples' true) (.ref x) (.ref y)) Q E s:=by
 refine kat_lt hx dx Y dy ?_
 have go:∀(items items2:List ak) (xs ys:List Int) (i:Nat) (f:Bool),dv items xs->dv items2 ys->(∀m:Nat,xs.length=m+items.length-items.length->True) ->
   f=decide (items.length<items2.length)->Q (ze xs ys) s->KatLex prog w A true f Q (items.zip items2) i s:=by
  intro items items2 xs ys i f a b
  induction a generalizing items2 ys i with
  | nil =>
   intro _ d c
   cases b with
   | nil=>subst d;exact c
   | cons m u r=>subst d;exact c
  | cons m u r o =>
   intro _ d c
   cases b with
   | nil=>subst d;exact c
   | cons l p g =>
    refine kat_cons (lM ?_)
    unfold ze at c
    by_cases e:m=l
    ·rw [beq_iff_eq.mpr e]
     rw [if_pos e] at c
     refine kat_yes (o _ _ _ g (λ_ _=>trivial) ?_ c)
     rw [d]
     simp
    ·rw [beq_eq_false_iff_ne.mpr e]
     rw [if_neg e] at c
     refine kat_no ?_
     cases q:(true && i == 0) with
     | true=>exact oneLt_int c
     | false=>exact kat_one _ _ (lt_int c)
 have e:(items.toArray.toList.zip items2.toArray.toList)=items.zip items2:=by simp
 rw [e]
 exact go items items2 xs ys 0 _ U G (λ_ _=>trivial) (by simp) h
end
end L2
end
section
namespace L2
open PySem.W
section
variable {prog:Program}{w:bA}{A:bI}{E:ak->Shared->Prop}{s:Shared}
theorem vV (its:List ak):(its.toArray.zip its.toArray).map (·.2)=its.toArray:=by
 apply Array.toList_inj.mp
 rw [pz,ksk_zip]
 show (its.zip its).map tm=its
 rw [pA]
 exact ar _
theorem vn (its:List ak):((aG its.length).map λi=>its.getD i b8)=its:=by
 apply lS
 ·simp
 ·intro i h1 h2
  simp at h1
  simp [h1]
theorem QA {l:Addr}{its:List ak}{κ:se}{lt:Nat->Nat->Bool}{G:List Nat->Prop}{Q:ak->Shared->Prop}(hl:s.heap.IsList l its.toArray) (Y:its.length<64)
  (hk:2<=its.length->∀h',↥19->∀U:se->Shared->Prop,U κ { s with heap:=h' }->aA (aF prog w) A.in1.in1 (keyKind' its.toArray) U (λ_ _=>False) { s with heap:=h' })
  (hc:∀h',↥19->∀i j,i<its.length->j<its.length->∀U:Bool->Shared->Prop,U (lt i j) { s with heap:=h' } ->
   aA (aF prog w) A.in1.in1 (keyLt' κ (its.getD i b8) (its.getD j b8)) U (λ_ _=>False) { s with heap:=h' })
  (hs:2<=its.length->qT lt its.length (tD its.length) λp=>qi its.length p/\G p.toList) (h1:its.length<2->G (aG its.length))
  (h:∀(z:List Nat) (h':Heap) (n:Nat),z.Perm (aG its.length)->G z->↥19 ->
   h'.get? ↥13=some (bx "list" (z.map λi=>its.getD i b8).toArray n)->Q (.ref ↥13) { s with heap:=h' }) :
  aA (aF prog w) A (call (.builtin "sorted") [.ref l]) Q E s:=by
 refine lx pV oP oQ (args_sorted1 _) ?_
 unfold fG.«sorted»
 refine af (m:=sf "sorted" 1 1 _) ↥54
 refine af (collect_list hl ?_ (by rw [bQ];omega))
 refine af (fE ?_ (by rw [bQ];omega))
 have y: (↥7).objs.size=s.heap.objs.size+1:=by
  rw [eF,om]
 have f:((↥7).push ↥23).get? ↥13=some ↥23:=by
  rw [<- y];exact az _ rfl
 have keep:∀b o,s.heap.get? b=some o->((↥7).push ↥23).get? b=some o:=λb o q=>by
  have B:b<s.heap.objs.size:=ax q
  rw [cT _ _ _ (by rw [y];exact aC (bK B)),cf _ _ _ _ (aC B),cT _ _ _ (aC B)]
  exact q
 show aA _ _ _ _ _ { s with heap:=(↥7).push ↥23 }
 rw [y]
 refine af (c5 (dz mW ⟨_,f,rfl⟩ mD ?body (si _)))
 case body =>
  generalize ab: (↥7).push ↥23=k at f keep
  generalize ha:s.heap.objs.size+1=a at f h
  have D:∀b o,s.heap.get? b=some o->b≠a:=λb o q=>by have:=ax q;rw [<- ha];exact aC (bK this)
  show aA (aF prog w) A.in1.in1 (fG.«list.sort» ⟨[.ref a],[]⟩) _ _ { s with heap:=k }
  rw [rf]
  have J:a<k.objs.size:=ax f
  refine af (mn f rfl ?_)
  refine af (d8 f rfl ?_ (by rw [av,bQ];omega) (aT _))
  obtain ⟨O,H⟩:∃O,(k.update a ↥41).get? a=some (bx "list" #[] O):=⟨_,eR f (λ_=>#[])⟩
  refine af (fh H rfl ?_)
  refine af (l9 ?_ (by show its.length<=_;rw [bQ];omega))
  refine af (fE ?_ (aT _))
  refine c5 ?_
  have d:((↥10).push ↥111).get? a=some (bx "list" #[] O):=by
   rw [cT _ _ _ (by rw [om,eF];exact aC (bK J)),cT _ _ _ (by rw [eF];exact aC J)]
   exact H
  have c:∀b o,s.heap.get? b=some o->((↥10).push ↥111).get? b=some o:=λb o q =>
   ah _ (ah _ ((cf _ _ _ _ (D b o q)).trans (keep b o q)))
  show aA (aF prog w) A.in1.in1 _ _ _ { s with heap:=(↥10).push ↥111 }
  generalize (↥10).push ↥111=g at d c
  dsimp only
  have t:∀(z:List Nat),z.Perm (aG its.length)->G z->∀u:Array ak,u=(z.map λi=>its.getD i b8).toArray ->
    ∃v,sj (Flow.ret b8) = .done (.ret v)/\aA (aF prog w) A.in1 (do let _ <- pure v;ret (aV a)) (λt s'=>∃v,t = .done (.ret v)/\Q v s') E { s with heap:=g.update a (b7 λ_=>u) }:=λz L X u P=>by
   refine ⟨_,rfl,af (wpAny_pure (wpAny_pure ⟨_,rfl,?_⟩))⟩
   subst P
   exact h z _ _ L X (λb o q=>(cf _ _ _ _ (D b o q)).trans (c b o q)) (eR d λ_=>_)
  by_cases h2:its.toArray.size<2
  ·rw [if_pos h2,if_pos h2]
   refine af ↥54
   rw [mE]
   refine af ↥54
   dsimp only
   refine af (fh d rfl ?_)
   rw [vV]
   refine af (d8 d rfl ?_ (aT _) (by rw [av,bQ];omega))
   simp only [bne_self_eq_false,cv,if_false]
   rw [av] at h2
   exact wpAny_pure (t _ (mX _) (h1 h2) _ (by rw [vn]))
  ·rw [if_neg h2,if_neg h2]
   rw [av] at h2
   refine af (bb (hk ∅ g c (λK s'=>K=κ/\s'={ s with heap:=g }) ⟨rfl,rfl⟩) (λK s' q=>?_) λ_ _ x=>x.elim)
   obtain ⟨rfl,rfl⟩:=q
   refine af (bb (kat_run (ks:=its) (vs:=its) (κ:=K) (G:=λp s'=>(qi its.length p/\G p.toList)/\s'={ s with heap:=g }) (Q:=λr s'=>∃p:Array Nat,arrOf r=p.map (tE (its.toArray.zip its.toArray))/\sr r=none/\(qi its.length p/\G p.toList)/\s'={ s with heap:=g })
    rfl ∅ Y (λp r s' a1 a2 a3 a4=>⟨p,a2,a3,a4⟩) (qT.wp (I:=λs'=>s'={ s with heap:=g }) (λi j C s' hi V N hC=>?_) (λp s' L N=>⟨L,N⟩) (hs ∅) rfl)) ?_ λ_ _ e=>e)
   ·subst N
    exact hc g c i j hi V C (hC _ rfl)
   ·rintro ⟨⟨⟩,r⟩ s' ⟨p,R,Z,⟨S,hG⟩,rfl⟩
    dsimp only
    have M:=tF (ks:=its) (vs:=its) rfl R
    have T:(oR (p.toList.map λi=>its.getD i b8)).size=its.length:=by rw [av,aa,bR,S.size]
    rw [M]
    refine af (fh d rfl ?_)
    refine af (d8 d rfl ?_ (aT _) (by rw [T,bQ];omega))
    rw [Z]
    simp only [bne_self_eq_false,cv,if_false]
    exact wpAny_pure (t p.toList (by have:=Array.perm_iff_toList_perm.mp S;simpa using this) hG _ rfl)
end
end L2
end
section
namespace L2
open PySem.W
noncomputable def vN (O:KeyOrd) (key:Nat->O.α) (vs j:List V):Prop:=∃a:List Nat,a.Perm (aG vs.length)/\j=(a.map λi=>vs.getD i V.non)/\(a.map key).Pairwise O.kle
theorem zn.pairwise {O:KeyOrd}{key:Nat->O.α}{p:Array Nat}{n:Nat}(z:zn (O:=O) key p n) (G:p.size=n):(p.toList.map key).Pairwise O.kle:=by
 rw [List.pairwise_iff_getElem]
 intro i j hi a b
 simp at hi a
 have q:=z i j (c3 b) ∅
 unfold kp at q
 have d:p.getD i 0=p[i]:=by simp [oj,hi]
 have c:p.getD j 0=p[j]:=by simp [oj,a]
 rw [d,c] at q
 simpa using q
theorem kQ:∀{vs:List V}{us:List ak},ju vs us->∀i,jy (vs.getD i V.non) (us.getD i b8)
 | _,_,.nil,_=>rfl
 | _,_,.cons r _,0=>r
 | _,_,.cons _ t,i+1=>kQ t i
theorem uz {vs:List V}{us:List ak}(r:ju vs us):∀j:List Nat,ju (j.map λi=>vs.getD i V.non) (j.map λi=>us.getD i b8)
 | []=>.nil
 | i::j=>.cons (kQ r i) (uz r j)
theorem Yp {a b:Int}(h:V3.kle a b):a<=b:=Int.not_lt.mp (of_decide_eq_false h)
noncomputable def yz (H:Hp) (vs:List V) (j:List (List Int)):Prop:=cJ (λv (r:List Int)=>∃a,v=V.ref a/\H a=some (.lst (r.map V.int))) vs j
theorem Paired.get {α β:Type}{F:α->β->Prop}:∀{l₁:List α}{j:List β}{i:Nat}{x:α},cJ F l₁ j->l₁[i]? = some x->∃y,j[i]? = some y/\F x y
 | _,_,_,_,.nil,e=>by simp at e
 | _,_,0,_,.cons r _,e=>by simp at e;subst e;exact ⟨_,rfl,r⟩
 | _,_,i+1,v,.cons _ t,e=>by
  obtain ⟨d,h1,h2⟩:=Paired.get (i:=i) (x:=v) t (by simpa using e)
  exact ⟨d,by simpa using h1,h2⟩
theorem qm:∀{ns:List Int}{us:List ak},ju ↥62 us->dv us ns
 | [],_,.nil=>.nil
 | n::ns,_,.cons ⟨t,e⟩ r=>by subst e;exact .cons n t (qm r)
section
variable {X:Cx}
theorem kN (K:ag) (hu:X.A.units+64<cLine) (hK:X.K=K:=by rfl):qz X (.builtin "sorted") (λxs H Q=>∃p vs U,xs=[.ref p]/\SqL K H p vs/\vs.length<64/\yz H vs U /\
  ∀l H' Y,H l=none->H' l=some (.lst Y)->jf H H'->vN uU (λi=>U.getD i []) vs Y->Q (.ref l) H'):=by
 subst hK
 intro pins s σ H xs us Q I r h
 obtain ⟨p,vs,U,rfl,R,ab,P,k⟩:=h
 obtain ⟨u,rfl,t⟩:=xB r
 cases t
 obtain ⟨d,x,M,hz⟩:=I.list R
 have B:d.length=vs.length:=x.length.symm
 have item:∀i,i<d.length->∃a c n,d.getD i b8 = .ref a/\s.heap.get? a=some { cls:=.type "list",data:=.seq c.toArray n }/\dv c (U.getD i []):=λi hi=>by
  have f:vs[i]? = some (vs[i]'∅):=ae ∅
  obtain ⟨y,o,a,m,e4⟩:=Paired.get P f
  obtain ⟨u,e5,t⟩:=x.get f
  rw [m] at t
  cases t
  obtain ⟨z,c,n,C,e6⟩:=I.hok a _ e4
  refine ⟨a,c,n,by rw [aj,e5];rfl,e6,?_⟩
  rw [aj,o]
  exact qm C
 have D:X.A.in1.in1.units<cLine:=by
  show X.A.units+1+1<cLine
  omega
 refine QA (κ:=oneType') (lt:=ltK uU λi=>U.getD i []) (G:=λg=>(g.map λi=>U.getD i []).Pairwise uU.kle) M.isList ∅ (λh2 h' e Q' q=>?_) (λh' e i j hi Z Q' q=>?_) (λh2=>?_) (λh1=>?_) λg h' n E hg e S=>?_
 ·refine kas_kind (T:=.type "list") h2 (λv O=>?_) rfl rfl q
  obtain ⟨i,hi,rfl⟩:=List.mem_iff_getElem.mp O
  obtain ⟨a,c,n,f,o,_⟩:=item i hi
  have m:d[i] = .ref a:=by rw [<- f];simp [hi]
  rw [m]
  exact (show Looks _ h' (oa (.ref a)) _ from (Looks.ld (e _ _ o)).andThen .now)
 ·obtain ⟨a,c,n,f,o,m⟩:=item i hi
  obtain ⟨b,N,n2,f1,f2,f3⟩:=item j Z
  rw [f,f1,keyLt'_oneType]
  exact Q4 D (e _ _ o) (e _ _ f2) m f3 q
 ·exact wQ ∅ λp' L hS=>⟨L,hS.pairwise L.size⟩
 ·have w:d.length=0\/d.length=1:=∅
  rcases w with z | z
  ·rw [z];exact fZ
  ·rw [z];exact fO _ _
 ·have J:H ↥13=none:=I.hok.fresh (fN _)
  refine ⟨.ref _,upd H ↥13 (.lst (g.map λi=>vs.getD i V.non)),I.laid (t':=s.toks) e (fN _) ⟨?_,_,n,uz x g,S⟩,rfl,k _ _ _ J j4 (jf.new J) ⟨g,by rw [<- B];exact E,rfl,hg⟩⟩
  rw [aa,E.length_eq,bg]
  exact aI (by omega:d.length<=1000) ⋯
end
end L2
end
section
namespace L2
open PySem.W
noncomputable abbrev vW (j:Str) (params:Arguments) (body:Expr) (scope:Scope) (pm:ak) (c:Addr) (z:ak):FuncData:=kla_fn "<lambda>" j params body scope [] pm (.ref c) z
noncomputable def Zl (f:Addr) (fd:FuncData):HO:=.ext λh=>h.get? f=some { cls:=.type "function",data:=.func fd }
noncomputable def QQ (c:Addr) (j:Str):HO:=.ext λh=>h.CodeRec (.ref c) j
noncomputable def Tab (H:Hp) (Pt:Addr) (pos:Pos) (j:Str):Prop:=H Pt=some (.tbl #[])\/∃a,H Pt=some (.tbl #[cg pos.line,cg pos.col,.ref a])/\H a=some (QQ a j)
theorem Tab.ne (T:Tab H Pt pos j):∃ps,H Pt=some (.tbl ps):=by
 rcases T with z | ⟨a,z,_⟩
 ·exact ⟨_,z⟩
 ·exact ⟨_,z⟩
theorem Tab.same (T:Tab H Pt pos qual) (s:jf H H'):Tab H' Pt pos qual:=by
 rcases T with z | ⟨a,z,y⟩
 ·exact .inl (s _ _ z)
 ·exact .inr ⟨a,s _ _ z,s _ _ y⟩
theorem Tab.ext {b:Addr}{xs:List V}(T:Tab H Pt pos qual) (j:H b=some (.lst xs)) (e:Ext b H H'):Tab H' Pt pos qual:=by
 rcases T with z | ⟨a,z,y⟩
 ·exact .inl (e _ _ z (jm z j (by intro q;cases q)))
 ·exact .inr ⟨a,e _ _ z (jm z j (by intro q;cases q)),e _ _ y (jm y j (by intro q;cases q))⟩
theorem Tab.extN {b:Addr}(T:Tab H Pt pos qual) (j:H b=none) (e:Ext b H H'):Tab H' Pt pos qual:=T.same λc o h=>e c o h (j1 h j)
noncomputable def Bm (mg:Str->Option ak) (base:Heap):Prop:=∃b a,mg "__builtins__" = some (.ref b)/\b≠lX/\base.get? b=some a/\a.cls = .type "module" /\ a.dict=some lX/\a.data = .plain
theorem Vx {K:ag}{k:Nat}{f c:Addr}{pm z:ak}{x:Str}{s:Shared}{u:ak}
  (ho:s.heap.get? f=some { cls:=.type "function",data:=.func (vW j params body scope pm c z) }) (Y:s.heap.CodeRec (.ref c) j) (S:FnScope N [x] scope) (U:Room (k+1) A) (G:Env0 P w K mg base A outer s H)
  (hb:∀pm c z u,cR (vW j params body scope pm c z) ⟨[u],[]⟩=pure [(x,u)]) (r:jy v u)
  (ht:PE (vj CX0 P w K mg base N j scope f (.ref c) A outer s H E0).nox body t) (q:t (start N [v]) H Q) :
  d7 (aF P w) A (.call (.ref f) ⟨[u],[]⟩) (CR CX0 outer P w H s Q E0) s:=by
 have g:s.heap.NoLimit:=G.mod.nolimit.keeps λb o e=>(G.bs b o e).1
 have a:∀y∈([x].zip [u]),scope.names.lookup y.1=some .local\/(scope.names.lookup y.1=some .cell/\((pw ↥13 scope.names []).lookup y.1).isSome=true):=λ⟨n,v⟩ m=>by
  rcases S.par n (iG m).1 with q | q
  ·exact .inl q
  ·exact .inr ⟨q,fX _ _ _ (.inl q)⟩
 refine kla_callFunE U.depth ho rfl S.co S.gen rfl Y ?_
 rw [hb]
 refine wpAny_pure (iZ (binds:=[x].zip [u]) S.kind a λenv p s1 y=>?_)
 subst p
 refine ⟨g.keeps y.toInCall.keep,kla_codeExpr ?_⟩
 have I:Inv (vj CX0 P w K mg base N j scope f (.ref c) A outer s H E0) [] (start N [v]) H s1:=gj S U.hd G rfl (Paired.cons r .nil) y
 refine bb (ht.nox [] s1 (start N [v]) H _ I q) (λB s' d=>?_) λe s' d=>d
 obtain ⟨h,H',J,i,l⟩:=d
 exact ⟨h,H',J.os,J.bare,J.base,J.hok,i,l⟩
section
variable {X:Cx}{pins:List (Addr×Obj)}{σ:St}{H:Hp}{s:Shared}
theorem YY {Q:ak->Shared->Prop}(I:Inv X pins σ H s) (G:X.env.code = .ref c) (CH:CodeHd X.base c Pt) (hB:Bm X.mg X.base)
  (U:og scope X.env=pure []) (Y:defaultsOf params X.env=([],[])) (T:Tab H Pt pos ↥59)
  (k:∀f H' s' pm c' j,Inv X pins σ H' s'->H f=none->H' f=some (Zl f (vW ↥59 params body scope pm c' j))->H' c'=some (QQ c' ↥59)->Ext Pt H H'->Tab H' Pt pos ↥59->Q (.ref f) s') :
  aA ↥2 X.A (eval (.Lambda params body scope pos) X.env) Q E s:=by
 refine kla_eval Y ?_
 obtain ⟨bm,ob,b1,b2,K,b4,b5,V⟩:=hB
 obtain ⟨a2,aL⟩:=T.ne
 have trk:∀{b:Addr} {o:Obj},X.base.get? b=some o->b≠Pt:=λ{b o} e z=>by
  have:=(I.bs b o e).2
  rw [z,aL] at this;cases this
 have O:s.heap.Ns mainGlobals X.mg:=I.ok.mod.glob.keeps I.bk
 have am:mainGlobals≠Pt:=by
  obtain ⟨o,es,S,e,_⟩:=I.ok.mod.glob
  exact trk e
 have as:bm≠mainGlobals:=λq=>by
  obtain ⟨o,es,S,e,hd,_⟩:=I.ok.mod.glob
  rw [q,e] at K;cases K;rw [hd] at V;cases V
 have P:s.heap.BuiltinsAt X.mg Pt:=⟨bm,ob,b1,b2,as,trk K,I.bk _ _ K,b4,b5,V⟩
 have LS:∀(f:Addr) (fd:FuncData) (h1 h2:Heap),h1.get? f=some { cls:=.type "function",data:=.func fd }->(∀o,h1.get? f=some o->h2.get? f=some o)->h2.get? f=some { cls:=.type "function",data:=.func fd }:=λf fd h1 h2 e m=>m _ e
 have CS:∀(c:Addr) (q:Str) (h1 h2:Heap),h1.CodeRec (.ref c) q->(∀o,h1.get? c=some o->h2.get? c=some o)->h2.CodeRec (.ref c) q:=λc q h1 h2 ⟨c',o,vs,t,e,g,r⟩ m=>by
  cases e
  exact ⟨c,o,vs,t,rfl,m _ g,r⟩
 rcases T with h | ⟨c',h,J⟩
 ·have B:s.heap.get? Pt=some (rK #[]):=I.hok Pt _ h
  refine kla_makeFunction (mg:=X.mg) U I.ok.glob O G (CH.keeps I.bk) B trivial rfl am P λc' j h' tk hx x N p ac=>?_
  have ap:H c'=none:=I.hok.fresh x
  have l:s.heap.objs.size<=h'.objs.size:=c3 (bZ x N)
  have d:H h'.objs.size=none:=I.hok.fresh l
  have M:∀{b:Addr} {o:Obj},s.heap.get? b=some o->b≠c':=λ{b o} e=>aC (aQ (ax e) x)
  have L:∀{b:Addr} {o:Obj},s.heap.get? b=some o->b≠h'.objs.size:=λ{b o} e=>aC (aQ (ax e) l)
  have a1:Pt≠c':=M B
  have a0:Pt≠h'.objs.size:=L B
  have an:c'≠h'.objs.size:=aC N
  have e':h'.get? Pt=some (rK #[cg pos.line,cg pos.col,.ref c']):=by simpa using ac
  have a:∀{b:Addr} {o:HO},H b=some o->b≠Pt->upd ↥26 h'.objs.size ↥12 b=some o:=λ{b o} e n=>by
   rw [j7 (j1 e d),j7 (j1 e ap),j7 n];exact e
  have atP:upd ↥26 h'.objs.size ↥12 Pt=some (.tbl #[cg pos.line,cg pos.col,.ref c']):=by
   rw [j7 a0,j7 a1,j4]
  have C:upd ↥26 h'.objs.size ↥12 c'=some (QQ c' ↥59):=by
   rw [j7 an,j4]
  refine k h'.objs.size (upd ↥26 h'.objs.size ↥12) _ ((X.mg "__name__").getD .none) c' j ?_ d j4 C (λb o e n=>a e n) (.inr ⟨c',atP,C⟩)
  have i:∀b o,b≠Pt->s.heap.get? b=some o->(h'.push (kla_obj "<lambda>" ↥59 params body scope [] ((X.mg "__name__").getD .none) c' j)).get? b=some o:=λb o n e=>ah _ (hx b o n e)
  have D:∀{b:Addr},H b=none->b≠Pt:=λ{b} e z=>by rw [z,h] at e;cases e
  refine I.step (g':=s.gens) (d':=s.drawn) (ch:=[]) (λ_ z=>nomatch z) (λb o _ _ _ e n=>i b o (D n) e) (λb o _ _ _ e n=>⟨o.slots,i b o (D n) e⟩) (λb o _ e n=>?_) (λb o _ e=>?_) (λb xs e=>?_) (λb o u e=>?_) (λb ps e=>?_) (λm hm=>?_) (λb u e=>?_) I.bare
  ·rw [j7 (L e),j7 (M e),j7 (D n)];exact n
  ·by_cases y:b=Pt
   ·subst y;exact ⟨_,ah _ e'⟩
   ·exact ⟨o,i b o y e⟩
  ·exact a e (jm e h ↥36)
  ·exact a e (jm e h ↥36)
  ·by_cases y:b=Pt
   ·subst y
    rw [h] at e;cases e
    exact ⟨#[cg pos.line,cg pos.col,.ref c'],by rw [atP];simp⟩
   ·exact ⟨#[],by rw [a e y];simp⟩
  ·obtain ⟨o,es,S,ho,r⟩:=hm
   exact ⟨o,es,S,i _ o (D I.free) ho,r⟩
  ·by_cases h1:b=h'.objs.size
   ·subst h1
    rw [j4] at e;cases e
    exact ⟨az _ rfl,⟨_,az _ rfl⟩,λh1 h2 e m=>LS _ _ h1 h2 e m⟩
   ·by_cases h2:b=c'
    ·subst h2
     rw [C] at e;cases e
     obtain ⟨c2,oc,vs,t,e2,ai,r⟩:=id p
     cases e2
     exact ⟨p.keeps λb o e=>ah _ e,⟨_,ah _ ai⟩,λh1 h2 e m=>CS _ _ h1 h2 e m⟩
    ·by_cases R:b=Pt
     ·subst R
      rw [atP] at e;cases e
      exact ah _ e'
     ·rw [j7 h1,j7 h2,j7 R] at e
      refine (I.hok b u e).stay (λZ v hc q=>i Z v ?_ q) (λZ q=>a q (jm q h ↥36)) λZ xs q=>a q (jm q h ↥36)
      rcases hc with z | z
      ·rw [z];exact R
      ·exact jm z h ↥36
 ·have B:s.heap.get? Pt=some (rK #[cg pos.line,cg pos.col,.ref c']):=I.hok Pt _ h
  have ab:TriplesOk (#[cg pos.line,cg pos.col,aV c']:Array ak).toList:=TriplesOk_snoc pos.line pos.col (.ref c') [] trivial
  have al:codeAmong pos (#[cg pos.line,cg pos.col,aV c']:Array ak).toList=some (.ref c'):=codeAmong_snoc (c:=.ref c') [] trivial rfl
  refine kla_makeFunctionHit (mg:=X.mg) U I.ok.glob O G (CH.keeps I.bk) B ab al P λj h' tk hk l=>?_
  have d:H h'.objs.size=none:=I.hok.fresh l
  refine k h'.objs.size (upd H h'.objs.size ↥12) _ ((X.mg "__name__").getD .none) c' j ?_ d j4 (by rw [j7 (j1 J d)];exact J) (Ext.new d) (.inr ⟨c',by rw [j7 (j1 h d)];exact h,by rw [j7 (j1 J d)];exact J⟩)
  exact I.laid (λb o e=>ah _ (hk b o e)) l ⟨az _ rfl,⟨_,az _ rfl⟩,λh1 h2 e m=>LS _ _ h1 h2 e m⟩
theorem Inv.adopt {D:Addr}{j:Obj}{h':Heap}{t':Nat}(I:Inv X ((D,j)::pins) σ H s) (h1:X.s₀.heap.objs.size<=D) (h2:∀x c,X.env.cells.lookup x=some c->c≠D) (G:∀p∈X.pn++pins,p.1≠D)
  (k:∀b u,b≠D->s.heap.get? b=some u->h'.get? b=some u) (new:qa X.prog X.w (upd H D o) h' D o):Inv X pins σ (upd H D o) { s with heap:=h',toks:=t' }:=by
 obtain ⟨B,nD,i,_,_⟩:=I.pin (D,j) (aM _ aK)
 have h:Inv X pins σ H s:=I.pins_of λp l=>I.pin p (aM _ (aD _ l))
 have g:∀b u,H b=some u->b≠D:=λb u e z=>by rw [z,nD] at e;cases e
 have a:∀{b:Addr} {u:HO},H b=some u->upd H D o b=some u:=λ{b u} e=>by rw [j7 (g b u e)];exact e
 refine h.step (g':=s.gens) (d':=s.drawn) (ch:=[D]) (λb f=>?_) (λb o _ _ d e _=>k b o (λz=>d (by simp [z])) e) (λb o _ _ d e _=>⟨o.slots,k b o (λz=>d (by simp [z])) e⟩) (λb o d _ n=>by rw [j7 (λz=>d (by simp [z]))];exact n)
  (λb o d e=>⟨o,k b o (λz=>d (by simp [z])) e⟩) (λ_ _ e=>a e) (λ_ _ _ e=>a e) (λb ps e=>⟨#[],by rw [a e];simp⟩) (λm y=>?_) (λb u e=>?_) h.bare
 ·have e:b=D:=by simpa using f
  subst e
  exact ⟨.inr h1,i,h2,G⟩
 ·obtain ⟨o,es,A,t,r⟩:=y
  exact ⟨o,es,A,k _ o (cC i) t,r⟩
 ·by_cases f:b=D
  ·subst f
   rw [j4] at e;cases e
   exact new
  ·rw [j7 f] at e
   refine (h.hok b u e).stay (λc v d q=>k c v ?_ q) (λ_ q=>a q) λ_ _ q=>a q
   rcases d with z | z
   ·rw [z];exact f
   ·exact g c _ z
end
end L2
end
section
namespace L2
open PySem.W
noncomputable def Ug (H:Hp) (ks:List V) (z:Nat->List Int) (j:Nat):Prop:=ks.length=j/\∀i,i<j->∃q,ks[i]? = some (V.ref q)/\H q=some (.tup ((z i).map V.int))
theorem JP {a b:List ak}(h:a.length=b.length):(a.toArray.zip b.toArray).map (·.2)=b.toArray:=by
 apply Array.toList_inj.mp
 rw [pz,ksk_zip]
 show (a.zip b).map tm=b
 rw [pA]
 omega
section
variable {X:Cx}{pins:List (Addr×Obj)}{σ:St}{H:Hp}{s:Shared}
theorem JT {U:Nat->List Int}{Q:ak->Shared->Prop}(I:Inv X pins σ H s) (hq:SqL X.K H p vs) (ct:vs.length<64) (bv:∀i,i<vs.length->U i≠[])
  (bd:∀i v,vs[i]? = some v->∀Y s' H' u,Inv X Y σ H' s'->jf H H'->jy v u->aA ↥2 X.A.in1.in1 (call (.ref f) [u]) (EP X Y σ λkv a8=>jf H' a8/\∃q,kv = .ref q/\a8 q=some (.tup ((U i).map V.int))) (λ_ _=>False) s')
  (k:∀l H' bl s',Inv X pins σ H' s'->H l=none->H' l=some (.lst bl)->jf H H'->vN uU U vs bl->Q (.ref l) s') :
  aA ↥2 X.A (call (.builtin "sorted") [.ref p] [(ao "key",.ref f)]) Q E s:=by
 obtain ⟨its,rv,pl,hz⟩:=I.list hq
 have br:its.length=vs.length:=rv.length.symm
 refine call_function_entry_kw pV oP oQ (ksk_s1 _ _) ?_
 unfold fG.«sorted»
 refine af (m:=sf "sorted" 1 1 _) ↥54
 refine af (collect_list pl.isList ?_ (by rw [bQ];omega))
 refine af (fE ?_ (by rw [bQ];omega))
 have al: (↥7).objs.size=s.heap.objs.size+1:=by
  rw [eF,om]
 have S:((↥7).push ↥23).get? ↥13=some ↥23:=by
  rw [<- al];exact az _ rfl
 have keep:∀b o,s.heap.get? b=some o->((↥7).push ↥23).get? b=some o:=λb o q=>by
  have an:b<s.heap.objs.size:=ax q
  rw [cT _ _ _ (by rw [al];exact aC (bK an)),cf _ _ _ _ (aC an),cT _ _ _ (aC an)]
  exact q
 show aA _ _ _ _ _ { s with heap:=(↥7).push ↥23 }
 rw [al]
 refine af (c5 (wpAny_call_entry_kw mW ⟨_,S,rfl⟩ mD ?body (ksk_l1 _ _)))
 case body =>
  generalize (↥7).push ↥23=R at S keep
  generalize ha:s.heap.objs.size+1=a at S
  have a6:s.heap.objs.size<=a:=by rw [<- ha];exact fN _
  have O:∀b o,s.heap.get? b=some o->b≠a:=λb o q=>by have:=ax q;rw [<- ha];exact aC (bK this)
  show aA ↥2 X.A.in1.in1 (fG.«list.sort» ⟨[.ref a],[(ao "key",.ref f)]⟩) _ _ { s with heap:=R }
  rw [ksk_t1]
  unfold ksk_tree
  have cs:a<R.objs.size:=ax S
  refine af (mn S rfl ?_)
  refine af (d8 S rfl ?_ (by rw [av,bQ];omega) (aT _))
  obtain ⟨D,bm⟩:∃D,(R.update a ↥41).get? a=some (bx "list" #[] D):=⟨_,eR S (λ_=>#[])⟩
  refine af (fh bm rfl ?_)
  refine af (l9 ?_ (by show its.length<=_;rw [bQ];omega))
  refine af (fE ?_ (aT _))
  refine c5 ?_
  have am: (↥77).get? a=some (bx "list" #[] D):=ah _ bm
  have Z:∀b o,s.heap.get? b=some o->(↥77).get? b=some o:=λb o q =>
   ah _ ((cf _ _ _ _ (O b o q)).trans (keep b o q))
  show aA ↥2 X.A.in1.in1 (ksk_rest a (.ref f) false its.toArray D (.ref (↥77).objs.size)) _ _
   { s with heap:=(↥77).push ↥111 }
  generalize (R.update a ↥41).push (bx "tuple" its.toArray 0)=B at am Z
  have I5:Inv X pins σ H { s with heap:=B,toks:=s.toks }:=I.kept Z
  have a0:H a=none:=I.hok.fresh a6
  have aL:H B.objs.size=none:=I5.hok.fresh (ar _)
  have bs:a≠X.env.locals:=λz=>by
   obtain ⟨m,⟨o,es,ep,e,_⟩,_⟩:=I.loc
   exact O _ _ e z.symm
  have cd:a∉X.fs:=I.nofs a6
  have bi:∀x c,X.env.cells.lookup x=some c->c≠a:=λx c e=>by
   obtain ⟨v,o,e2,_⟩:=I.cell x c e
   exact O c o e2
  have be:∀q∈X.pn++pins,q.1≠a:=λq hq=>O _ _ (I.pin q hq).1
  have I6:Inv X ((a,bx "list" #[] D)::pins) σ (upd H B.objs.size (.lst [])) { s with heap:=B.push ↥111,toks:=s.toks }:=by
   refine Inv.pins_of (I5.lnew (its:=[]) (ys:=[]) .nil (aT _)) λq hq=>?_
   rcases List.mem_cons.mp hq with rfl | hq
   ·refine ⟨ah _ am,?_,bs,cd,λv=>by intro z;cases z⟩
    rw [j7 (aC (ax am))]
    exact a0
   ·have J:=(I5.lnew (its:=[]) (ys:=[]) (t':=s.toks) .nil (aT _)).pin q (aM _ hq)
    exact J
  unfold ksk_rest
  refine af (fJ ?_)
  first
   | rw [List.forIn_toArray]
   | (rw [<- oo];simp only [List.toList_toArray])
   | rw [<- oo]
  refine af (ksk_fold (λj s'=>∃H' ks,Inv X ((a,bx "list" #[] D)::pins) σ H' s'/\jf H H'/\H' B.objs.size=some (.lst ks)/\Ug H' ks U j) its 0 _
   ⟨_,[],I6,jf.new aL,j4,rfl,λi hi=>absurd hi (mF _)⟩ (λj x s' hx hJ=>?_) λs' hJ=>?_)
  ·-- a key
   rw [mq] at hJ ⊢
   obtain ⟨H',ks,J,sm,hk,hl,as⟩:=hJ
   have hj:j<its.length:=(List.getElem?_eq_some_iff.mp hx).1
   have hv:vs[j]? = some (vs[j]'∅):=ae ∅
   obtain ⟨u,e5,ru⟩:=rv.get hv
   rw [hx] at e5
   cases e5
   refine af (nO (bb (bd j _ hv _ s' H' x J sm ru) (λkv bt bN=>?_) λ_ _ hF=>hF.elim))
   obtain ⟨cm,a8,J2,rk,ac,q,rfl,bk⟩:=bN
   dsimp only
   have ab:=ac _ _ hk
   obtain ⟨z,y,n,ai,ap,ek⟩:=J2.lstM ab
   refine af (d8 ek rfl ?_ (by rw [av,<- ap,hl,bQ];omega) (aI (oG (Array.size_push ..)) (by rw [av,<- ap,hl,bQ];omega)))
   refine wpAny_pure ⟨rfl,_,ks++[.ref q],J2.lset (t':=bt.toks) (its':=y++[kv]) ab ek (by simp) (ai.append (.cons rk .nil)) (by rw [ay,bp,hl];exact aI (by omega:j+1<=1000) ⋯),λb o e=>?_,j4,?_,λi hi=>?_⟩
   ·rw [j7 (j1 e aL)]
    exact ac _ _ (sm _ _ e)
   ·rw [ay,bp,hl]
   ·by_cases b6:i<j
    ·obtain ⟨q',e6,e7⟩:=as i b6
     refine ⟨q',by rw [cB ∅];exact e6,?_⟩
     have e8:=ac _ _ e7
     rw [j7 (jm e8 ab ↥36)]
     exact e8
    ·have:i=j:=∅
     subst this
     refine ⟨q,by rw [cu ∅,hl];simp,?_⟩
     rw [j7 (jm bk ab ↥36)]
     exact bk
  ·-- ch cl keys
   rw [mq] at hJ
   obtain ⟨H',ks,J,sm,hk,hl,as⟩:=hJ
   obtain ⟨z,y,n,ai,ap,ek⟩:=J.lstM hk
   have hlk':y.length=its.length:=∅
   refine af (mn ek rfl ?_)
   obtain ⟨eD,nD,_⟩:=J.pin (a,bx "list" #[] D) (aM _ aK)
   have cb:a≠B.objs.size:=λz=>by rw [z,hk] at nD;cases nD
   have N:∀i,i<its.length->∃q d o m,y.getD i b8 = .ref q/\s'.heap.get? q=some o/\o.cls = .type "tuple" /\ o.data = .seq d.toArray m/\dv d (U i):=λi hi=>by
    obtain ⟨q,e6,e7⟩:=as i hi
    obtain ⟨u,e8,ru⟩:=ai.get e6
    cases ru
    obtain ⟨zz,d,rq,o,e9,ec,m,ed⟩:=J.hok q _ e7
    exact ⟨q,d,o,m,by rw [aj,e8];rfl,e9,ec,ed,qm rq⟩
   have M:∀(L:List Nat) (g:SortSt),L.Perm (aG its.length)->(L.map U).Pairwise uU.kle->sr g=none->(arrOf g).map (·.2)=(L.map λi=>its.getD i b8).toArray ->
     aA ↥2 X.A.in1.in1 (ksk_tail a false D (.ref B.objs.size) g) (λM s'=>∃v,M = .done (.ret v)/\aA ↥2 X.A.in1 (do let _ <- pure v;ret (aV a)) (λM s'=>∃v,M = .done (.ret v)/\Q v s') E s') E s':=by
    intro L g hp hg hf bq
    unfold ksk_tail
    dsimp only
    rw [bq]
    have cr:(L.map λi=>its.getD i b8).length<64:=by rw [aa,hp.length_eq,bg];omega
    refine af (d8 ek rfl ?_ (by rw [av,hlk',bQ];omega) (aT _))
    refine af (fi ?_)
    have J2:Inv X ((a,bx "list" #[] D)::pins) σ (upd H' B.objs.size (.lst [])) { s' with heap:=s'.heap.update B.objs.size ↥41,toks:=s'.toks }:=J.lset (its':=[]) (ys:=[]) hk ek rfl .nil (aT _)
    have a7:(s'.heap.update B.objs.size ↥41).get? a=some (bx "list" #[] D):=(cf _ _ _ _ cb).trans eD
    refine af (fh a7 rfl ?_)
    refine af (d8 a7 rfl ?_ (aT _) (by simp only [cv,if_false];rw [av,bQ];omega))
    rw [hf]
    simp only [bne_self_eq_false,cv,if_false]
    refine wpAny_pure ⟨_,rfl,af (wpAny_pure (wpAny_pure ⟨_,rfl,?_⟩))⟩
    have eo:∃n,((s'.heap.update B.objs.size ↥41).update a (b7 λ_=>(L.map λi=>its.getD i b8).toArray)).get? a=some (bx "list" (L.map λi=>its.getD i b8).toArray n):=⟨_,eR a7 λ_=>_⟩
    obtain ⟨n',eo⟩:=eo
    have J3:=J2.adopt (o:=.lst (L.map λi=>vs.getD i V.non)) (t':=s'.toks) (aI I.sz a6) bi be
     (h':=(s'.heap.update B.objs.size ↥41).update a (b7 λ_=>(L.map λi=>its.getD i b8).toArray)) (λb u n e=>(cf _ _ _ _ n).trans e) ⟨by rw [aa,hp.length_eq,bg];exact aI (by omega:its.length<=1000) ⋯,_,n',uz rv L,eo⟩
    refine k a _ _ _ J3 a0 j4 (λb o e=>?_) ⟨L,by rw [<- br];exact hp,rfl,hg⟩
    rw [j7 (j1 e a0),j7 (j1 e aL)]
    exact sm _ _ e
   unfold ksk_end
   dsimp only
   simp only [cv,if_false]
   by_cases h2:its.toArray.size<2
   ·rw [if_pos h2,if_pos h2]
    refine af ↥54
    rw [mE]
    refine af ↥54
    dsimp only
    rw [av] at h2
    refine M (aG its.length) _ (mX _) ?_ rfl ?_
    ·have a9:its.length=0\/its.length=1:=∅
     rcases a9 with z | z
     ·rw [z];exact fZ
     ·rw [z];exact fO _ _
    ·rw [vn]
     exact JP hlk'
   ·rw [if_neg h2,if_neg h2]
    rw [av] at h2
    have bn:∃fs,KatTups s'.heap y fs/\0<fs.length/\∀v∈fs,Looks ↥2 s'.heap (oa v) (.type "int"):=by
     have go:∀(l:List ak),(∀i,i<l.length->∃q d o m ns,l.getD i b8 = .ref q/\s'.heap.get? q=some o/\o.cls = .type "tuple" /\ o.data = .seq (oR d) m/\dv d ns/\ns≠[]) ->
       ∃fs,KatTups s'.heap l fs/\fs.length=l.length/\∀v∈fs,Looks ↥2 s'.heap (oa v) (.type "int"):=by
      intro l
      induction l with
      | nil=>intro _;exact ⟨[],.nil,rfl,λ_ h=>nomatch h⟩
      | cons v l ih =>
       intro h
       obtain ⟨fs,t,e,lk⟩:=ih λi hi=>h (i+1) (by rw [bc];omega)
       obtain ⟨q,d,o,m,ns,D,e2,e3,e4,e5,e6⟩:=h 0 (by rw [bc];omega)
       have ce:v = .ref q:=D
       subst ce
       cases e5 with
       | nil=>exact absurd rfl e6
       | cons n t' r =>
        refine ⟨.int n t'::fs,KatTups.cons e2 e3 e4 (by simp) t,by rw [bc,bc,e],λv hv=>?_⟩
        rcases List.mem_cons.mp hv with rfl | hv
        ·exact sQ rfl
        ·exact lk v hv
     obtain ⟨fs,t,e,lk⟩:=go y λi hi=>by
      obtain ⟨q,d,o,m,a1,a2,a3,a4,a5⟩:=N i ∅
      exact ⟨q,d,o,m,U i,a1,a2,a3,a4,a5,bv i ∅⟩
     exact ⟨fs,t,∅,lk⟩
    obtain ⟨fs,t,b9,lk⟩:=bn
    refine af (kat_kind (T:=.type "int") t b9 lk rfl ?_)
    rw [show (cO "int" != cO "tuple")=true from rfl]
    refine af (bb (kat_run (ks:=y) (vs:=its) (κ:=tuples' true) (G:=λp P=>(qi its.length p/\(p.toList.map U).Pairwise uU.kle)/\P=s') (Q:=λg P=>∃p:Array Nat,arrOf g=p.map (tE (y.toArray.zip its.toArray))/\sr g=none/\(qi its.length p/\(p.toList.map U).Pairwise uU.kle)/\P=s')
     hlk' ∅ ∅ (λp g s' a1 a2 a3 a4=>⟨p,a2,a3,a4⟩) (qT.wp (lt:=ltK uU U) (n:=its.length) (I:=λP=>P=s') (λi j C P hi hj hI hC=>?_) (λp P hp hI=>⟨hp,hI⟩) (wQ ∅ λp' hP hS=>⟨hP,hS.pairwise hP.size⟩) rfl)) ?_ λ_ _ e=>e)
    ·subst hI
     obtain ⟨q,d,o,m,a1,a2,a3,a4,a5⟩:=N i hi
     obtain ⟨q',ci,o',m',b1,b2,b3,b4,b5⟩:=N j hj
     unfold kas_ask
     rw [a1,b1]
     exact Xl a2 a4 b2 b4 a5 b5 (hC _ rfl)
    ·rintro ⟨⟨⟩,g⟩ P ⟨p,ca,hf,⟨hP,hG⟩,rfl⟩
     dsimp only
     exact M p.toList g (by have:=Array.perm_iff_toList_perm.mp hP;simpa using this) hG hf (tF hlk' ca)
end
end L2
end
section
namespace L2
open PySem.W
section
variable {prog:Program}{w:bA}{A:bI}{E:ak->Shared->Prop}{s:Shared}
theorem QS (n:Nat):fA none none (-1) (n:Int)=((n:Int)-1,-1):=by
 unfold fA
 simp
theorem Xi (n:Nat):dI ((n:Int)-1) (-1) (-1)=n:=by
 unfold dI
 have h1:¬((-1:Int) > 0):=⋯
 simp only [h1,if_false]
 by_cases h:n=0
 ·subst h;simp
 ·rw [show (- -1:Int)=1 by decide]
  simp only [Int.ediv_one]
  split <;> omega
theorem um {n:Nat}{Q:Int×Int×Nat->Shared->Prop}(U:s.heap.IsSliceOf z .none .none j) (G:rS j (some (-1)))
  (h:Q ((n:Int)-1,-1,n) s):aA (aF prog w) A (lg (.ref z) (pure (n:Int))) Q E s:=by
 obtain ⟨os,a,c,b⟩:=id U
 unfold lg Builtin.Slice.sliceFields
 refine af (af (c0 a b (x:=.none) rfl (af (c0 a b (x:=.none) rfl (af (c0 a b (x:=j) rfl ↥54))))))
 refine af (HT.slicePart_ G ?_)
 show aA _ _ (if ((-1:Int) == 0)=true then _ else _) _ _ s
 rw [if_neg ⋯]
 refine af (HT.slicePart_ .none (af (HT.slicePart_ .none (af ↥54))))
 show aA _ _ (match fA none none (-1) (n:Int) with | (lo,hi)=>pure (lo,(-1:Int),dI lo hi (-1))) _ _ s
 rw [QS n]
 show aA _ _ (pure ((n:Int)-1,(-1:Int),dI ((n:Int)-1) (-1) (-1))) _ _ s
 rw [Xi]
 exact wpAny_pure h
theorem YJ (xs:Array ak):((aG xs.size).filterMap λ(m:Nat)=>xs[(((xs.size:Int)-1)+(m:Int) * -1).toNat]?).toArray=xs.toList.reverse.toArray:=by
 have e:((aG xs.size).filterMap λ(m:Nat)=>xs[(((xs.size:Int)-1)+(m:Int) * -1).toNat]?)=((aG xs.size).map λk=>xs.size-1-k).filterMap (xs[·]?):=by
  rw [List.filterMap_map]
  congr 1
  funext m
  show xs[(((xs.size:Int)-1)+(m:Int) * -1).toNat]? = xs[xs.size-1-m]?
  congr 1
  omega
 rw [e,krv_range,List.filterMap_reverse,krv_all]
theorem vM {Q:ak->Shared->Prop}(j:IsTup s.heap t items) (G:s.heap.IsSliceOf z .none .none U) (Y:rS U (some (-1)))
  (h:Q ↥16 { s with heap:=s.heap.push { cls:=.type "tuple",data:=.seq items.toList.reverse.toArray } }) (hsz:items.size<=sizeLine):aA (aF prog w) A (lB (.ref t) (.ref z)) Q E s:=by
 have a:sizeOk (.seq items.toList.reverse.toArray):=by
  show items.toList.reverse.toArray.size<=sizeLine
  rw [av,iR,bR]
  exact hsz
 obtain ⟨os,b,c,e⟩:=id G
 have d:s.TypeIs (.ref z) "slice":=⟨os,b,c⟩
 unfold lB
 try with_reducible refine c5 ?_
 first | refine af ↥54 | skip
 refine af (wpAny_sequenceKey j.typeIs ⋯ ?_)
 refine af (dh (name:=ao "__getitem__") j.typeIs i9
  (dz i9 j.typeIs entry_tuple_getitem ?_ (args_tuple_getitem _ _)))
 show aA _ _ (Builtin.Tuple.tupleItemsOf (.ref t) >>= _) _ _ s
 refine af (tupleItemsOf_ j ?_)
 refine af (oS d ?_)
 rw [if_pos ⋯]
 refine af (um G Y ?_)
 show aA _ _ (if (((items.size:Int)-1) == 0 && (-1:Int) == 1 && items.size == items.size)=true then _ else _) _ _ s
 rw [if_neg (by simp),YJ]
 first
  | exact af (m:=ee _) (c6 ↥119 a)
  | exact af (m:=ee _) (c6 (af (wpAny_pure ↥119)) a)
  | exact af (af (m:=ee _) (c6 (wpAny_pure ↥119) a))
  | exact af (af (m:=ee _) (c6 ↥119 a))
end
section
variable {X:Cx}{e:Expr}{te:TE}{pos p2 p3 p4:Pos}{j3:Nat}
inductive tRevTI (K:ag) (Q:VK) (x:V) (H2:Hp):Prop
 | mk (a:_) (xs:_) (zz1:x = .ref a) (zz2:SqT K H2 a xs) (zz3:New H2 (.tup xs.reverse) Q)
noncomputable def WG (K:ag) (te:TE):TE:=λσ H Q=>te σ H λx H2=>tRevTI K Q x H2
inductive tRevLI (K:ag) (Q:VK) (x:V) (H2:Hp):Prop
 | mk (a:_) (xs:_) (zz1:x = .ref a) (zz2:SqL K H2 a xs) (zz3:New H2 (.lst xs.reverse) Q)
noncomputable def WO (K:ag) (te:TE):TE:=λσ H Q=>te σ H λx H2=>tRevLI K Q x H2
theorem VI (K:ag) (z:PE X e te) (G:X.K=K:=by rfl):PE X (.Subscript e ↥40 pos) (WG K te):=by
 subst G
 intro pins s σ H Q I h
 refine m8 (thn ↥103 λv s1 ⟨x,H1,E,l,m⟩=>?_)
 refine pT ?_
 rw [lJ]
 refine wpAny_pure ?_
 refine wpAny_pure ?_
 rw [nM]
 obtain ⟨a,xs,rfl,p,q⟩:=m
 refine thn (zi xh j5 pins s1 σ H1 (λy H2=>y = .int (-1)/\H2=H1) E ⟨_,rfl,rfl,rfl⟩) λu c ⟨y,J,D,k,B,C⟩=>?_
 subst B C
 obtain ⟨tk,rfl⟩:=k
 cases l
 have f:Inv X pins σ J { c with heap:=c.heap.push { cls:=.type "slice",data:=.fields #[.none,.none,.int (-1) tk] } }:=D.kept (t':=c.toks) λb n q=>ah _ q
 obtain ⟨g,r,j,i⟩:=f.tuple p
 have d:g.toArray.size=xs.length:=by rw [av];exact r.length.symm
 show aA ↥2 X.A (ip e ↥40 (.ref a) (.ref c.heap.objs.size)) ↥51 X.xe { c with heap:=c.heap.push { cls:=.type "slice",data:=.fields #[.none,.none,.int (-1) tk] } }
 refine tf (ops:=[.ref a,.ref c.heap.objs.size]) j.typeIs PyProof.Rows.slot_tuple_getitem.lookup ?_ ↥56
 refine vM j (l3 ..) (.int _ _) ?_ (by rw [d];exact i)
 have t:=f.hok.fresh (ar _)
 refine ⟨.ref _,_,f.laid (t':=c.toks) (o:=.tup xs.reverse) (λb n q=>ah _ q) (ar _) ?_,rfl,q.at _ t⟩
 exact ⟨by rw [iR];exact i,_,r.reverse,IsTup.new _ _⟩
theorem Va (K:ag) (z:PE X e te) (G:X.K=K:=by rfl):PE X (.Subscript e ↥40 pos) (WO K te):=by
 subst G
 intro pins s σ H Q I h
 refine m8 (thn ↥103 λv s1 ⟨x,H1,E,j,k⟩=>?_)
 refine pT ?_
 rw [lJ]
 refine wpAny_pure ?_
 refine wpAny_pure ?_
 rw [nM]
 obtain ⟨a,xs,rfl,n,q⟩:=k
 refine thn (zi xh j5 pins s1 σ H1 (λy H2=>y = .int (-1)/\H2=H1) E ⟨_,rfl,rfl,rfl⟩) λu c ⟨y,J,D,i,B,C⟩=>?_
 subst B C
 obtain ⟨tk,rfl⟩:=i
 cases j
 have d:Inv X pins σ J { c with heap:=c.heap.push { cls:=.type "slice",data:=.fields #[.none,.none,.int (-1) tk] } }:=D.kept (t':=c.toks) λb l q=>ah _ q
 obtain ⟨f,r,g,m⟩:=d.list n
 have p:f.length=xs.length:=r.length.symm
 show aA ↥2 X.A (ip e ↥40 (.ref a) (.ref c.heap.objs.size)) ↥51 X.xe { c with heap:=c.heap.push { cls:=.type "slice",data:=.fields #[.none,.none,.int (-1) tk] } }
 refine tf (ops:=[.ref a,.ref c.heap.objs.size]) g.isList.typeIs slot_list_getitem.lookup ?_ ↥56
 refine lK g.isList (l3 ..) .none .none (.int _ _) ⋯ ?_ (by rw [av];omega)
 rw [krv_pick]
 have t:=d.hok.fresh (ar _)
 refine ⟨.ref _,_,d.laid (t':=c.toks) (o:=.lst xs.reverse) (λb l q=>ah _ q) (ar _) ?_,rfl,q.at _ t⟩
 exact ⟨by rw [iR];exact m,_,0,r.reverse,az _ rfl⟩
end
theorem SqL.extT {K:ag}{H:Hp}{xs:List V}(j:H Pt=some (.tbl ps)) (x:Ext Pt H H') (h:SqL K H a xs):SqL K H' a xs:=by
 rcases h with (h | ⟨o,h⟩) | h
 ·exact .inl (.inl (x _ _ h (jm h j ↥36)))
 ·exact .inl (.inr ⟨o,x _ _ h (jm h j ↥36)⟩)
 ·exact .inr h
section
variable {X:Cx}{e body:Expr}{ta:TA}{tb:TE}{params:Arguments}{scope:Scope}{lpos kpos p pos:Pos}{N:List Str}{x:Str}{c Pt:Addr}{k:Nat}
noncomputable def Uq (K:ag) (Pt:Addr) (lpos:Pos) (j:Str) (N:List Str) (ta:TA) (tb:TE):TE:=λσ H Q=>ta σ H λxs H1=>Tab H1 Pt lpos j/\∃(p:Addr) (b:List V) (a:Nat->List Int),xs=[.ref p]/\SqL K H1 p b/\b.length<64/\(∀i,i<b.length->a i≠[]) /\
 (∀H2,Ext Pt H1 H2->∀i v,b[i]? = some v->tb (start N [v]) H2 λe d=>jf H2 d/\∃q,e = .ref q/\d q=some (.tup ((a i).map V.int))) /\
 ∀l H2 c,H1 l=none->H2 l=some (.lst c)->Ext Pt H1 H2->Tab H2 Pt lpos j->vN uU a b c->Q (.ref l) H2
theorem Xe (hg:Gl X "sorted") (hm:X.mg "sorted" = none) (ha:PA X [e] ta) (G:X.env.code = .ref c) (CH:CodeHd X.base c Pt) (hB:Bm X.mg X.base) (hr:Room (k+3) X.A) (S:FnScope N [x] scope)
  (hb:∀pm c ab u,cR (vW ↥59 params body scope pm c ab) ⟨[u],[]⟩=pure [(x,u)])
  (U:∀f Y s H,PE (vj CX0 X.prog X.w X.K X.mg X.base N ↥59 scope f (.ref Y) X.A.in1.in1 X.stack s H E0).nox body tb)
  (ai:og scope X.env=pure []:=by rfl) (ac:defaultsOf params X.env=([],[]):=by rfl)
  (he:ck pos (aN [e] X.env)=↥31::ck pos (aN [] X.env):=by rfl) (j:(ck pos (aN [e] X.env)).any (·.1)=false:=by rfl) :
  PE X (.Call (.Name "sorted" p) [e] [⟨some (ao "key"),.Lambda params body scope lpos,kpos⟩] pos) (Uq X.K Pt lpos ↥59 N ta tb):=by
 intro pins s σ H Q I h
 refine cK (zh I hg hm mY ?_ ⋯ ⋯)
 refine pW (thn ↥50 λus s1 ⟨vs,H1,I1,r,q⟩=>?_) he j
 show aA _ _ (evalAll ((do let v <- eval (.Lambda params body scope lpos) X.env;dQ pos;pure v)::[])) _ _ s1
 obtain ⟨T,a,xs,al,e1,hx,M,B,t,b⟩:=q
 subst e1
 obtain ⟨u0,rfl,o⟩:=xB r
 cases o
 obtain ⟨an,L⟩:=T.ne
 refine lh (af (YY I1 G CH hB ai ac T λf H2 Z pm Y ab I2 hf D J m O=>af (cN (wpAny_pure (lF ?_)))))
 show aA _ _ (call (.builtin "sorted") [.ref a] [(ao "key",.ref f)]) _ _ Z
 refine JT I2 (SqL.extT L m hx) M B (λi v hv R s' H' u n d o=>?_) λl P y s' I3 g C d hs=>?_
 ·have X3:Ext Pt H1 H':=m.trans (Ext.of_same d)
  obtain ⟨ho,_⟩:=n.hok f _ (d _ _ D)
  obtain ⟨E,_⟩:=n.hok Y _ (d _ _ J)
  refine m6 (dU (Vx (k:=k) ho E S (hr.in1.in1) n.env0.in1.in1 hb o (U f Y s' H') (t H' X3 i v hv)) λr am b=>?_)
  cases r with
  | error e=>exact bJ b
  | ok fl =>
   cases fl with
   | ret u=>exact n.after b
   | next=>exact bJ b
   | brk=>exact bJ b
   | cont=>exact bJ b
 ·exact ⟨.ref l,P,I3,rfl,b l P y (m.free g (λz=>by rw [z] at g;obtain ⟨p2,V⟩:=O.ne;rw [V] at g;cases g)) C (m.trans (Ext.of_same d)) (O.same d) hs⟩
end
end L2
end
section
namespace L2
open PySem.W
theorem ZO {P:Program}{w:bA}{K:ag}{k:Nat}{fa a Pt:Addr}{x:Str}{s₁:Shared}{vs:List ak}
  (KX:K.In s₁.heap) (ab:s₁.heap.Ns mainGlobals mg) (j:s₁.heap.Ns lX mb) (al:∀x:Str,x ≠ "__name__" -> mb x=fR x) (ac:s₁.heap.NoLimit) (hg:s₁.gens = #[])
  (U:s₁.heap.get? a=some { cls:=.type "list",data:=.seq vs.toArray }) (hi:dv vs ns) (hl:ns.length<=sizeLine) (hr:Room k nB)
  (G:s₁.heap.get? Pt=some (rK #[])) (am:K.lookup Pt=none) (CH:CodeHd s₁.heap c Pt) (hB:Bm mg s₁.heap)
  (F:∀base:Heap,K.In base->base.Ns mainGlobals mg->Bm mg base->FnOk P w K mg base CX0 k fa fd [x] sp) (Y:∀(s:Shared) (u:ak),rG s fd ⟨[u],[]⟩ [(x,u)])
  (ai:∀H:Hp,SqL K H a ↥62->H Pt=some (.tbl #[])->sp [.ref a] H (λv _=>v = .bl true) λ_ _ _=>False) :
  d7 (aF P w) nB (.call (.ref fa) ⟨[.ref a],[]⟩) (λr s'=>r = .ok (.ret (.bool true))/\OldK s₁.heap s'.heap/\s'.os=s₁.os/\il s'.gens) s₁:=by
 have Q:=uB hi
 have L:=hi.length
 have y:∀H:Hp,H Pt=some (.tbl #[])->(∀b,b≠Pt->H b=none\/∃o xs,H b=some (.frz o (.lst xs)))->SqL K H a ↥62->HOk P w H s₁.heap->(∀b,H b≠none->b=a\/b=Pt)->(H a≠none->K.lookup a=none) ->
   d7 (aF P w) nB (.call (.ref fa) ⟨[.ref a],[]⟩) (λr s'=>r = .ok (.ret (.bool true))/\OldK s₁.heap s'.heap/\s'.os=s₁.os/\il s'.gens) s₁:=by
  intro H S hO hS C X hK
  have g:∀{b:Addr} {o:Obj},s₁.heap.get? b=some o->H b=none->(kA s₁.heap H).get? b=some o:=λe n=>YX e n
  have B:∀{b:Addr} {o:Obj},s₁.heap.get? b=some o->(∀xs n,o.data≠.seq xs n)->(∀vs,o.data = .fields vs->o.cls≠.none)->H b=none:=λ{b o} e d1 d2=>by
   cases q:H b with
   | none=>rfl
   | some u =>
    rcases X b (by rw [q];simp) with e' | e'
    ·subst e'
     rw [U] at e;cases e
     exact absurd rfl (d1 _ _)
    ·subst e'
     rw [G] at e;cases e
     exact absurd rfl (d2 _ rfl)
  have R:∀{b:Addr} {o:Obj} {es:Array DictEntry} {A:Nat},s₁.heap.get? b=some o->o.data = .dict es A->H b=none:=λ{b o es A} e d =>
   B e (λxs n z=>by rw [d] at z;cases z) (λvs z=>by rw [d] at z;cases z)
  have l:∀{b:Addr} {m:Str->Option ak},s₁.heap.Ns b m->(kA s₁.heap H).Ns b m:=λ{b m} ⟨o,es,A,e,d,r⟩=>⟨o,es,A,g e (R e d),d,r⟩
  have I:K.In (kA s₁.heap H):=λb o e=>g (KX b o e) (by
   cases q:H b with
   | none=>rfl
   | some u =>
    rcases X b (by rw [q];simp) with e' | e'
    ·subst e'
     rw [hK (by rw [q];simp)] at e;cases e
    ·subst e'
     rw [am] at e;cases e)
  have T:Bm mg (kA s₁.heap H):=by
   obtain ⟨bm,J,b1,b2,b3,b4,b5,O⟩:=hB
   exact ⟨bm,J,b1,b2,g b3 (B b3 (λxs n z=>by rw [O] at z;cases z) λvs z=>by rw [O] at z;cases z),b4,b5,O⟩
  have hM:Mod K mg (kA s₁.heap H):=⟨I,l ab,⟨mb,l j,al⟩,let ⟨mc,h1,h2⟩:=ac;⟨mc,l h1,h2⟩⟩
  have e0:Env0 P w K mg (kA s₁.heap H) nB [] s₁ H:=⟨rfl,hM,λb o e=>VD e,oG (Zj _ _),trivial,λb j=>absurd (show b∈([]:List Addr) from j) (by simp),C,.of_eq hg⟩
  refine dU ((F _ I (l ab) T).run nB [] s₁ H ⟨[.ref a],[]⟩ [.ref a] [.ref a] _ _ hr e0 (Y s₁ (.ref a)) (.cons rfl .nil) (ai H hS S)) λr s' h=>?_
  cases r with
  | error e=>exact bJ h
  | ok fl =>
   cases fl with
   | next=>exact bJ h
   | brk=>exact bJ h
   | cont=>exact bJ h
   | ret u =>
    obtain ⟨v,H',os,N,un,t,r',q⟩:=h
    have q':v = .bl true:=q
    subst q'
    obtain rfl:u=lW true:=r'
    have kp:∀b o,b≠Pt->s₁.heap.get? b=some o->s'.heap.get? b=some o:=λb o j e=>by
     cases q:H b with
     | none=>exact un.keep b o e q (by intro z;exact absurd (show b∈([]:List Addr) from z) (by simp)) (by simp)
     | some u =>
      rcases hO b j with z | ⟨J,xs,z⟩
      ·rw [q] at z;cases z
      ·have z2:=un.frzs b J _ z
       obtain ⟨Z,_⟩:=C b _ z
       obtain ⟨e2,_⟩:=t b _ z2
       rw [e] at Z;cases Z
       exact e2
    obtain ⟨p,hm⟩:=un.tbls Pt _ S
    have D:s'.heap.get? Pt=some { cls:=.none,data:=.fields (#[]++p) }:=t Pt _ hm
    refine ⟨rfl,⟨λb o e=>?_,λb o e=>?_⟩,os,N⟩
    ·by_cases j:b=Pt
     ·subst j
      rw [G] at e;cases e
      exact .inr (.inl ⟨(CH.tab G).isCodeTable,rfl,#[],p,rfl,D⟩)
     ·exact .inl (kp b o j e)
    ·by_cases j:b=Pt
     ·subst j;exact ⟨_,D⟩
     ·exact ⟨o,kp b o j e⟩
 have E:a≠Pt:=λz=>by rw [z,G] at U;cases U
 cases M:K.lookup a with
 | some o =>
  have e:=KX a o M
  rw [U] at e
  cases e
  refine y (λb=>if b=Pt then some (.tbl #[]) else none) (if_pos rfl) (λb j=>.inl (if_neg j)) (.inr ⟨_,vs.toArray,_,M,rfl,rfl,rfl,by rw [av,L];exact hl,by simpa using Q⟩) (λb u z=>?_) (λb z=>?_) λz=>absurd (if_neg E) z
  ·by_cases j:b=Pt
   ·have i:=(if_pos j).symm.trans z
    cases i
    subst j
    exact G
   ·have i:=(if_neg j).symm.trans z
    cases i
  ·by_cases j:b=Pt
   ·exact .inr j
   ·exact absurd (if_neg j) z
 | none =>
  refine y (λb=>if b=Pt then some (.tbl #[]) else if b=a then some (.frz { cls:=.type "list",data:=.seq vs.toArray } (.lst ↥62)) else none) (if_pos rfl) (λb j=>?_)
   (.inl (.inr ⟨{ cls:=.type "list",data:=.seq vs.toArray },(if_neg E).trans (if_pos rfl)⟩)) (λb u z=>?_) (λb z=>?_) λ_=>M
  ·by_cases f:b=a
   ·exact .inr ⟨_,_,(if_neg j).trans (if_pos f)⟩
   ·exact .inl ((if_neg j).trans (if_neg f))
  ·by_cases j:b=Pt
   ·have i:=(if_pos j).symm.trans z
    cases i
    subst j
    exact G
   ·by_cases f:b=a
    ·have i:=((if_neg j).trans (if_pos f)).symm.trans z
     cases i
     subst f
     exact ⟨U,by rw [aa];exact hl,vs,_,Q,U⟩
    ·have i:=((if_neg j).trans (if_neg f)).symm.trans z
     cases i
  ·by_cases j:b=Pt
   ·exact .inr j
   ·by_cases f:b=a
    ·exact .inl f
    ·exact absurd ((if_neg j).trans (if_neg f)) z
inductive spLawT (K:ag) (Pt:Addr) (vs:List V) (H:Hp) (Q:VK) (z_3:XK):Prop
 | mk (a:Addr) (ns:List Int) (zz1:vs=[.ref a]) (zz2:SqL K H a ↥62) (zz3:ns.length<=63) (zz4:H Pt=some (.tbl #[])) (zz5:∀H',Q (.bl true) H')
theorem V5 {l:rg}{loose:List Str}{YP:bA->Heap->Prop}{d:DefRec}{K:tI->ag}(k:Nat) (c Pt:Addr) (hr:Room k nB) (hn:l.most=some 63) (z:d.params.defaults=[])
  (hY:∀(w:bA) (h:Heap),YP w h->(K w.params).In h/\h.get? Pt=some (rK #[])) (U:∀p:tI,(K p).lookup Pt=none) (hC:∀p:tI,codeHdIn (K p) c Pt=true)
  (F:∀(w:bA) (mg:Str->Option ak) (j:Addr) (h:Heap),(K w.params).In h->h.Ns mainGlobals mg->mg d.name=some (.ref j) ->
   ∃fd:FuncData,(∀(s:Shared) (u:ak),rG s fd ⟨[u],[]⟩ [("_law_script",u)])/\∀base:Heap,(K w.params).In base->base.Ns mainGlobals mg->Bm mg base->FnOk l.prog w (K w.params) mg base CX0 k j fd ["_law_script"] (spLawT (K w.params) Pt)) :
  PySem.W.WalkO q loose XP YP l.row.toRowW d [] (λf vs=>PySem.call f vs):=by
 refine Att.attach_call hn z λw E D mg I j o pm M doc a vs ns G Y J L C r m i e t=>?_
 obtain ⟨n,x⟩:=hY w _ Y
 obtain ⟨fd,v,B⟩:=F w mg j _ n G.T.g r
 exact ZO (c:=c) n G.T.g G.T.b G.T.builtins G.T.nolimit t m i (aI e ⋯) hr x (U w.params) (codeHd_of_K n (hC w.params)) G.T.bmain B v λH y A=>⟨a,ns,rfl,y,e,A,λ_=>rfl⟩
theorem Fun.okC {w:bA}{K:ag}{mg:Str->Option ak}{base:Heap}{x:Str}{st:Stmt}{oc:ak}{Y:Option Addr}{G:Array (Option ak)}{kV pm U:ak}{N:List Str}{k:Nat}{sp:Sp}
  (l:K.lookup f=some ⟨oc,Y,.func (bS x j (jX st) (jR st) (j8 st) .none kV doc pm an (.ref c) U),G⟩) (cd:cS K (.ref c) j=true) (S:FnScope N ps (j8 st)) (len:∀vs H Q E,sp vs H Q E->vs.length=ps.length)
  (z:∀(A:bI) (outer:List Env) (s:Shared) (H:Hp) (vs:List V) (Q:VK) (E:XK),Room k (A.deeper (lI j (j8 st) s.heap.objs.size f (.ref c)))->sp vs H Q E ->
   ∃t,PSs (vj CX0 P w K mg base N j (j8 st) f (.ref c) A outer s H E).nox (jR st) t/\t { nx:=λ_ H'=>Q .non H',rt:=Q } (start N vs) H) :
  FnOk P w K mg base CX0 (k+1) f (bS x j (jX st) (jR st) (j8 st) .none kV doc pm an (.ref c) U) ps sp:=by
 refine Yw l cd S len λA outer s H vs Q E b a=>?_
 obtain ⟨t,h,q⟩:=z A outer s H vs Q E b a
 exact ⟨t,h.nox,q⟩
theorem Cal.mkC {w:bA}{K:ag}{mg:Str->Option ak}{base:Heap}{k:Nat}{x:Str}{ps:List Str}{st:Stmt}{oc:ak}{od z:Option Addr}{U:Array (Option ak)}{kV doc pm j:ak}
  (X:K.In h) (G:h.Ns mainGlobals mg) (a:aY K mainGlobals x=some (some (.ref f)))
  (l:K.lookup f=some ⟨oc,od,.func (bS x x (jX st) (jR st) (j8 st) .none kV doc pm z (.ref c) j),U⟩) (cd:cS K (.ref c) x=true) (Y:c7 K (.ref f)=true)
  (hb:∀(kV doc pm:ak) (z:Option Addr) (ab j:ak) (us:List ak),us.length=ps.length->cR (bS x x (jX st) (jR st) (j8 st) .none kV doc pm z ab j) ⟨us,[]⟩=pure (ps.zip us))
  (ok:FnOk P w K mg base CX0 k f (bS x x (jX st) (jR st) (j8 st) .none kV doc pm z (.ref c) j) ps sp):Cal P w K mg base k x ps sp:=by
 have F:=vy (st:=st) l cd Y
 exact ⟨f,_,ok,F.binds hb,bB X G a,Y⟩
end L2
end
section
namespace L2
open PySem.W
noncomputable def Ite (K:ag) (a:Addr):It :=
 ⟨λi H=>∃xs x,SqL K H a xs/\xs[i]? = some x,λi H v H'=>∃t x,v = .ref t/\H t=none/\H'=upd H t (.tup [.int i,x])/\∀xs,SqL K H a xs->xs[i]? = some x,λi H=>∃xs,SqL K H a xs/\xs.length<=i⟩
theorem Zv {K:ag}{x1:Nat}(a e it:Addr) (hne:e≠it):Turn P w K (.Tuple es x1 pos) (Ite K a) [e,it] e (λi h=>∃old,IsEnum h e it i old/\h.IsListIter it a i) where
 mem:=by simp
 obj:=λi h ⟨old,st1,st2⟩ b hb=>by
  rcases List.mem_cons.mp hb with rfl | hb
  ·exact ⟨_,st1,λv z=>by
    have z':dR _=lP v:=z
    cases z'⟩
  ·have e:b=it:=by simpa using hb
   subst e
   obtain ⟨o,e,c,d⟩:=st2
   exact ⟨o,e,λv z=>by rw [d] at z;cases z⟩
 keep:=λi h h' ⟨old,st1,st2⟩ k=>⟨old,k e (by simp) _ st1,st2.at λo z=>k it (by simp) o z⟩
 item:=by
  intro X hP hw hK hc i pins s σ H E I hf st hg
  subst hP hw hK
  obtain ⟨old,st1,st2⟩:=st
  obtain ⟨xs,x,hq,hx⟩:=hg
  obtain ⟨its,rv,p,hz⟩:=I.list hq
  obtain ⟨u,hu,ru⟩:=rv.get hx
  obtain ⟨f0,f1,f2,f3,f4,f5⟩:=hf e (by simp)
  obtain ⟨g0,g1,g2,g3,g4,g5⟩:=hf it (by simp)
  have hn:H s.heap.objs.size=none:=I.hok.fresh (ar _)
  refine wpAny_pyNext_enum_item st1 st2 p.isList (x:=u) (by simpa using hu) hne λh' o1 o2 o3 o4 o5=>⟨_,rfl,?_⟩
  refine wpAny_letOwnedTupleGo_enum o1 λh2 q1 sb=>?_
  have hel:e<s.heap.objs.size:=ax st1
  have kk:∀b o,b≠e->b≠it->s.heap.get? b=some o->h2.get? b=some o:=λb o n1 n2 z=>(sb.2 b n1).trans (o5 b o n1 n2 z)
  have et:h2.get? s.heap.objs.size=some { cls:=.type "tuple",data:=.seq #[.int i s.toks,u] }:=(sb.2 _ (cz hel)).trans o3
  have tne:∀b o,H b=some o->b≠e/\b≠it/\b≠s.heap.objs.size:=λb o q=>⟨λz=>(by rw [z,f0] at q;cases q),λz=>(by rw [z,g0] at q;cases q),λz=>(by rw [z,hn] at q;cases q)⟩
  have getF:∀{b:Addr} {o:HO},H b=some o->upd H s.heap.objs.size (.tup [.int i,x]) b=some o:=λ{b o} q=>by rw [j7 (tne b o q).2.2];exact q
  have I1:Inv X pins σ (upd H s.heap.objs.size (.tup [.int i,x])) { s with heap:=h2,toks:=s.toks+1 }:=by
   refine I.step (g':=s.gens) (d':=s.drawn) (ch:=[e,it]) (λb hb=>?_) (λb o _ _ hc z _=>kk b o ↥128 ↥128 z) (λb o _ _ hc z _=>⟨o.slots,kk b o ↥128 ↥128 z⟩)
    (λb o hc z n=>by rw [j7 (aC (ax z))];exact n) (λb o hc z=>⟨o,kk b o ↥128 ↥128 z⟩) (λ_ _ q=>getF q) (λ_ _ _ q=>getF q) (λb ps q=>⟨#[],by rw [getF q];simp⟩) (λm hm=>?_) (λb v q=>?_) I.bare
   ·rcases List.mem_cons.mp hb with rfl | hb
    ·exact ⟨f3,f1,f4,f5⟩
    ·have e:b=it:=by simpa using hb
     subst e
     exact ⟨g3,g1,g4,g5⟩
   ·obtain ⟨o,es,ep,ho,r⟩:=hm
    exact ⟨o,es,ep,kk _ o (cC f1) (cC g1) ho,r⟩
   ·by_cases hb:b=s.heap.objs.size
    ·subst hb
     rw [j4] at q;cases q
     exact ⟨by show 2<=sizeLine;decide,[.int i s.toks,u],.cons ⟨_,rfl⟩ (.cons ru .nil),⟨_,et,rfl,0,rfl⟩⟩
    ·rw [j7 hb] at q
     refine (I.hok b v q).stay (λc o hc z=>kk c o ?_ ?_ z) (λ_ z=>getF z) λ_ _ z=>getF z
     ·rcases hc with z | z
      ·rw [z];exact (tne b v q).1
      ·exact (tne c _ z).1
     ·rcases hc with z | z
      ·rw [z];exact (tne b v q).2.1
      ·exact (tne c _ z).2.1
  have st2':h2.IsListIter it a (i+1):=o2.at λo z=>(sb.2 it (cC hne)).trans z
  refine ⟨.ref s.heap.objs.size,_,I1,rfl,⟨_,x,rfl,hn,rfl,λys hy=>by rw [I.list_inj hy hq];exact hx⟩,⟨u,?_,st2'⟩,λb hb=>?_⟩
  ·have:((i+1:Nat):Int)=(i:Int)+1:=by push_cast;rfl
   rw [this]
   exact q1
  ·rcases List.mem_cons.mp hb with rfl | hb
   ·rw [j7 (aC hel)];exact f0
   ·have e:b=it:=by simpa using hb
    subst e
    obtain ⟨o,z,_⟩:=st2
    rw [j7 (aC (ax z))];exact g0
 done:=by
  intro X hP hw hK hc i pins s σ H E I hf st hg
  subst hP hw hK
  obtain ⟨old,st1,st2⟩:=st
  obtain ⟨xs,hq,hx⟩:=hg
  obtain ⟨its,rv,p,hz⟩:=I.list hq
  obtain ⟨g0,g1,g2,g3,g4,g5⟩:=hf it (by simp)
  have hl:=rv.length
  exact wpAny_pyNext_enum_end (I.ok.hd hc) st1 st2 p.isList ↥84 λh' eb=>⟨rfl,I.turned (t':=s.toks) ↥118 g0 g1 g3 g4 g5⟩
 self:=λ_ _ _ _ _ ⟨old,st1,_⟩ h=>oU st1 h
section
variable {X:Cx}
inductive iEnumI (K:ag) (R:It->Hp->Prop) (vs:List V) (H1:Hp):Prop
 | mk (a:_) (zz1:vs=[.ref a]) (zz2:(∃xs,SqL K H1 a xs)/\R (Ite K a) H1)
noncomputable def Wl (K:ag) (ta:TA):TI:=λσ H R=>ta σ H λa H1=>iEnumI K R a H1
theorem ua {j:Nat}{l:Expr}{p:Pos}(K:ag) (U:Gl X "enumerate") (G:X.mg "enumerate" = none) (Y:PA X [l] ta) (z:aN [l] X.env=[(false,eval l X.env)]:=by rfl) (hK:X.K=K:=by rfl) :
  PI X (.Tuple es j tpos) (.Call (.Name "enumerate" p) [l] [] pos) (Wl K ta):=by
 subst hK
 intro pins s σ H R I h
 refine tK (zh I U G boot_enumerate (cj (thn (Y pos pins s σ H _ I h) λw s1 ⟨v,H1,c,g,i⟩=>?_) z rfl))
 obtain ⟨a,e,⟨xs,o⟩,q⟩:=i
 subst e
 obtain ⟨u,rfl,f⟩:=xB g
 cases f
 obtain ⟨t,x,k,A⟩:=c.list o
 refine call_enumerate_list k.isList λh' d n y m=>?_
 refine oU d ?_
 have r:Inv X pins σ H1 { s1 with heap:=h',toks:=s1.toks }:=c.kept m
 refine ⟨_,[s1.heap.objs.size+1,s1.heap.objs.size],_,_,H1,rfl,r,Zv a _ _ (by exact Nat.succ_ne_self _),⟨.none,d,n⟩,λb hb=>?_,q⟩
 rcases List.mem_cons.mp hb with rfl | hb
 ·exact c.fpOk (fN _) (c.hok.fresh (fN _))
 ·have e:b=s1.heap.objs.size:=by simpa using hb
  subst e
  exact c.fpOk (ar _) (c.hok.fresh (ar _))
end
theorem hX {K:ag}{xs:List V}{g:TG}{ti:TT}{te:TE}{R:Hp->Prop}{σ:St}{H:Hp}(Pv:Nat->St->Hp->Prop) (h0:Pv 0 σ H) (hl:∀i σ H,i<=xs.length->Pv i σ H->SqL K H a xs)
  (hs:∀i x σ H t,xs[i]? = some x->Pv i σ H->H t=none->g (.ref t) σ (upd H t (.tup [.int i,x])) λj H3=>ti j H3 λok G=>if ok=true then te j G λv z=>∃ys,z acc=some (.lst ys)/\ys.length<sizeLine/\Pv (i+1) j ↥63 else Pv (i+1) j G)
  (hd:∀σ H,Pv xs.length σ H->R H) :
  ∃W:Nat->Nat->St->Hp->Prop,↥72/\∀i m U H',W i m U H' ->
   ((Ite K a).stop i H'/\R H')\/((Ite K a).go i H'/\∃Y:St->Hp->Prop,↥35 /\
    ∀x H2,(Ite K a).yld i H' x H2->g x U H2 λj H3=>ti j H3 λok G=>if ok=true then te j G λv z=>∃ys,z acc=some (.lst ys)/\ys.length<sizeLine/\Y j ↥63 else Y j G):=by
 refine ⟨λi m σ H=>m=xs.length-i/\i<=xs.length/\Pv i σ H,⟨xs.length,by simp,aT _,h0⟩,?_⟩
 rintro i m σ H ⟨rfl,hi,p⟩
 have q:=hl i σ H hi p
 by_cases b:i<xs.length
 ·refine .inr ⟨⟨xs,xs[i],q,by simp [b]⟩,Pv (i+1),λU H' c=>⟨xs.length-(i+1),∅,rfl,b,c⟩,λv H' y=>?_⟩
  obtain ⟨t,x,rfl,d,rfl,y⟩:=y
  exact hs i x σ H t (y xs q) p d
 ·have e:i=xs.length:=∅
  subst e
  exact .inl ⟨⟨xs,q,ar _⟩,hd σ H p⟩
theorem wz {K:ag}{xs:List V}{g:TG}{tb:TS}{D:Ends}{σ:St}{H:Hp}(Pv:Nat->St->Hp->Prop) (h0:Pv 0 σ H) (Y:∀i σ H,i<=xs.length->Pv i σ H->SqL K H a xs)
  (U:∀i x σ H t,xs[i]? = some x->Pv i σ H->H t=none->g (.ref t) σ (upd H t (.tup [.int i,x])) λj H2=>tb { D with nx:=Pv (i+1),ct:=Pv (i+1),bk:=D.nx } j H2) (hd:∀σ H,Pv xs.length σ H->D.nx σ H) :
  ∃W:Nat->Nat->St->Hp->Prop,↥72/\∀i m σ H,W i m σ H ->
   ((Ite K a).stop i H/\D.nx σ H)\/((Ite K a).go i H/\∃N:St->Hp->Prop,↥102/\∀x H',(Ite K a).yld i H x H'->g x σ H' λj H2=>tb { D with nx:=N,ct:=N,bk:=D.nx } j H2):=by
 refine ⟨λi m σ H=>m=xs.length-i/\i<=xs.length/\Pv i σ H,⟨xs.length,by simp,aT _,h0⟩,?_⟩
 rintro i m σ H ⟨rfl,hi,p⟩
 have q:=Y i σ H hi p
 by_cases b:i<xs.length
 ·refine .inr ⟨⟨xs,xs[i],q,by simp [b]⟩,Pv (i+1),λz H' c=>⟨xs.length-(i+1),∅,rfl,b,c⟩,λv H' y=>?_⟩
  obtain ⟨t,x,rfl,d,rfl,y⟩:=y
  exact U i x σ H t (y xs q) p d
 ·have e:i=xs.length:=∅
  subst e
  exact .inl ⟨⟨xs,q,ar _⟩,hd σ H p⟩
end L2
end
section
namespace L2
open PySem.W
theorem gm:∀(l:List Int),(∀n∈l,0<=n/\n<=2 ^ 20)->0<=l.sum/\l.sum<=2 ^ 20*l.length
 | [],_=>by simp
 | n::l,h=>by
  have b:=gm l λm a=>h m (aD _ a)
  have c:=h n aK
  rw [ir,bc]
  constructor
  ·omega
  ·push_cast
   omega
section
variable {X:Cx}
inductive cI_call_sum (K:ag) (xs:List V) (H:Hp) (Q:VK):Prop
 | mk (p:Addr) (ns:List Int) (zz1:xs=[.ref p]) (zz2:SqL K H p ↥62) (zz3:ns.length<=1000) (zz4:(∀n∈ns,0<=n/\n<=2 ^ 20)) (zz5:Q (.int ns.sum) H)
theorem JN (K:ag) (G:X.calm=true) (U:X.K=K:=by rfl):qz X (.builtin "sum") (cI_call_sum K):=by
 subst U
 intro pins s σ H xs M Q I r h
 obtain ⟨p,ns,rfl,B,O,l,q⟩:=h
 obtain ⟨u,rfl,y⟩:=xB r
 cases y
 obtain ⟨a,x,d,N⟩:=I.list B
 have m:=qm x
 have D:=m.length
 have k:p≠s.heap.objs.size:=by
  obtain ⟨o,n,e,_⟩:=id d
  exact aC (ax e)
 refine sR (cP d.isList ?_)
 refine ⟨s.heap.objs.size,_,_,_,_,_,λi=>ns.getD i 0,rfl,mj (show (X.A.in1).handled=none from I.ok.hd G) s.heap.objs.size p k a.toArray,⟨⟨_,az _ rfl,rfl,rfl⟩,d.isList.at λo e=>ah _ e⟩,?_,?_,?_,?_⟩
 ·intro b hb'
  have g:p<s.heap.objs.size:=by
   obtain ⟨o,n,e,_⟩:=id d
   exact ax e
  show b<(s.heap.push _).objs.size
  rw [bX]
  rcases List.mem_cons.mp hb' with rfl | hb'
  ·exact d5 _
  ·have e:b=p:=by simpa using hb'
   subst e
   exact bK g
 ·intro i v J
  have c:a[i]? = some v:=by simpa using J
  have hi:i<a.length:=(List.getElem?_eq_some_iff.mp c).1
  obtain ⟨t,e⟩:=yS m hi
  rw [e] at c
  refine ⟨t,?_⟩
  show v=df (ns.getD i 0) t
  rw [aj,ae ∅]
  exact (aJ c).symm
 ·intro j P
  have f:j<ns.length:=by
   have:a.toArray.size=a.length:=by simp
   omega
  constructor
  ·show InLong (ns.getD j 0)
   rw [aj,ae f]
   have:=l _ (bL f)
   show -(2 ^ 63)<=ns[j]/\ns[j]<2 ^ 63
   omega
  ·rw [mZ]
   have:=gm (ns.take (j+1)) λn C=>l n (iB C)
   have L:(ns.take (j+1)).length<=1000:=by rw [aE];omega
   show -(2 ^ 63)<=_/\_<2 ^ 63
   omega
 ·intro h' tk t' E
  rw [mZ,bw ↥84]
  refine ⟨.int ns.sum,H,I.kept (t':=tk) λb o w=>E b o (by
   intro z
   have:=List.mem_singleton.mp z
   subst this
   exact absurd (ax w) (cw _)) (ah _ w),⟨t',rfl⟩,q⟩
inductive cI_call_tuple_ofL (K:ag) (xs:List V) (H:Hp) (Q:VK):Prop
 | mk (p:_) (ys:_) (zz1:xs=[.ref p]) (zz2:SqL K H p ys) (zz3:New H (.tup ys) Q)
theorem zm (K:ag) (h:X.K=K:=by rfl):qz X (.type "tuple") (cI_call_tuple_ofL K):=by
 subst h
 exact kF.weak λ_ _ _ ⟨p,ys,h1,h2,q⟩=>⟨p,ys,h1,.inl ⟨h2,q.at⟩⟩
end
end L2
end
section
namespace L2
open PySem.W
structure Nb2 (mg:Str->Option ak):Prop extends Nb mg where
 b_enumerate:mg "enumerate" = none
 b_sorted:mg "sorted" = none
 b_sum:mg "sum" = none
noncomputable abbrev Rch:=Int×List Int
noncomputable def tos (rs:List Rch):List Int:=rs.map (·.1)
noncomputable def xN (rs:List Rch) (r:Nat):Int:=(rs.getD r (-1,[])).1
noncomputable def zK (rs:List Rch) (r:Nat):List Int:=(rs.getD r (-1,[])).2
noncomputable def xC (i:Nat) (t:Int):Bool:=if i=0 then decide (t = -1) else decide (0<=t/\t<i)
noncomputable def okR (i:Nat) (r:Rch):Bool:=xC i r.1 && decide (1<=(r.2.length:Int)/\(r.2.length:Int)<=12) && r.2.all λx=>decide (0<=x/\x<=99)
noncomputable def ul (rs:List Rch):Bool:=(aG rs.length).all λi=>okR i (rs.getD i (-1,[]))
noncomputable def xn (rs:List Rch):Prop:=∀i,i<rs.length->xC i (xN rs i)=true
noncomputable def jQ (rs:List Rch) (h:Nat):Bool:=!decide ((h:Int)∈tos rs)
noncomputable def jq (rs:List Rch):List Nat:=(aG rs.length).filter (jQ rs)
noncomputable def vd (rs:List Rch):Nat->Nat->List Int
 | 0,_=>[]
 | f+1,r=>(r:Int)::(if xN rs r<0 then [] else vd rs f (xN rs r).toNat)
noncomputable def qr (rs:List Rch) (r:Nat):List Int:=vd rs (r+1) r
noncomputable def jx (rs:List Rch) (j:List Int):Int:=(j.map λr=>((zK rs r.toNat).length:Int)).sum
noncomputable def zB (rs:List Rch):Bool:=decide (1<=(rs.length:Int)/\(rs.length:Int)<=8) && (ul rs && (decide (↥94<=6) && (jq rs).all λh=>decide (jx rs (qr rs h)<=30)))
theorem wg {i:Nat}{t:Int}(h:xC i t=true):t<i/\(-1<=t)/\(t<0->i=0):=by
 unfold xC at h
 by_cases hi:i=0
 ·rw [if_pos hi] at h
  have:=of_decide_eq_true h
  omega
 ·rw [if_neg hi] at h
  have:=of_decide_eq_true h
  omega
theorem Z6 {i:Nat}(h:okR i r=true):xC i r.1=true:=by
 unfold okR at h
 rw [bz,bz] at h
 exact h.1.1
theorem gK (h:ul rs=true) {i:Nat}(j:rs[i]? = some r):okR i r=true:=by
 unfold ul at h
 rw [cA] at h
 have hi:=(List.getElem?_eq_some_iff.mp j).1
 have:=h i (List.mem_range.mpr hi)
 rw [aj,j] at this
 exact this
theorem jZ (h:ul rs=true):xn rs:=λi hi=>by
 have:=Z6 (gK h (ae hi))
 unfold xN
 rw [aj,ae hi]
 exact this
theorem Jp {rs:List Rch}{i:Nat}(h:rs[i]? = some r):xN rs i=r.1:=by
 unfold xN
 rw [aj,h]
 rfl
theorem Jj {rs:List Rch}{i:Nat}(h:rs[i]? = some r):zK rs i=r.2:=by
 unfold zK
 rw [aj,h]
 rfl
theorem xn.lt {rs:List Rch}(L:xn rs) {r:Nat}(j:r<rs.length):xN rs r<r:=(wg (L r j)).1
theorem gH (L:xn rs):∀(f g r:Nat),r<rs.length->r<f->r<g->vd rs f r=vd rs g r
 | 0,_,_,_,h,_=>∅
 | _+1,0,_,_,_,h=>∅
 | f+1,g+1,r,b,h1,h2=>by
  unfold vd
  by_cases a:xN rs r<0
  ·rw [if_pos a,if_pos a]
  ·rw [if_neg a,if_neg a]
   have c:=L.lt b
   rw [gH L f g (xN rs r).toNat ∅ ∅ ∅]
theorem zI (L:xn rs) {r:Nat}(j:r<rs.length):qr rs r=(r:Int)::(if xN rs r<0 then [] else qr rs (xN rs r).toNat):=by
 unfold qr
 rw [vd]
 by_cases a:xN rs r<0
 ·rw [if_pos a,if_pos a]
 ·rw [if_neg a,if_neg a]
  have b:=L.lt j
  rw [gH L r ((xN rs r).toNat+1) (xN rs r).toNat ∅ ∅ ∅]
theorem Vl (r:Nat):qr rs r≠[]:=by unfold qr vd;exact λz=>nomatch z
theorem ud (L:xn rs):∀(r:Nat),r<rs.length->(qr rs r).length<=r+1
 | r,b=>by
  rw [zI L b]
  by_cases a:xN rs r<0
  ·rw [if_pos a];simp
  ·rw [if_neg a]
   have c:=L.lt b
   have:=ud L (xN rs r).toNat ∅
   rw [bc]
   omega
 termination_by r=>r
 decreasing_by omega
theorem xM {rs:List Rch}(L:xn rs):∀(r:Nat),r<rs.length->∀x∈qr rs r,0<=x/\x<rs.length
 | r,b,x,hx=>by
  rw [zI L b] at hx
  rcases List.mem_cons.mp hx with rfl | hx
  ·omega
  ·by_cases a:xN rs r<0
   ·rw [if_pos a] at hx;cases hx
   ·rw [if_neg a] at hx
    have c:=L.lt b
    exact xM L (xN rs r).toNat ∅ x hx
 termination_by r=>r
 decreasing_by omega
theorem xw {h:Nat}(j:h∈jq rs):h<rs.length:=by
 have:=(List.mem_filter.mp j).1
 exact List.mem_range.mp this
theorem xa (rs:List Rch) (r:Int) (way:List Int):jx rs (r::way)=((zK rs r.toNat).length:Int)+jx rs way:=by
 unfold jx
 rw [aO,ir]
theorem ZW {α:Type}{p:α->Bool}{l j:List α}(h:l.Perm j):l.all p=j.all p:=by
 rw [dO,cA,cA]
 exact ⟨λz x a=>z x (h.mem_iff.mpr a),λz x a=>z x (h.mem_iff.mp a)⟩
noncomputable def jW (rs:List Rch) (ws:List (List Int)):Prop:=ws.Perm ((jq rs).map (qr rs))/\(ws.map cU).Pairwise uU.kle
theorem jW.length {rs:List Rch}{ws:List (List Int)}(h:jW rs ws):ws.length=(jq rs).length:=by rw [h.1.length_eq,aa]
theorem jW.mem {rs:List Rch}{ws:List (List Int)}(h:jW rs ws) {w:List Int}(j:w∈ws):∃x∈jq rs,w=qr rs x:=by
 obtain ⟨x,a,e⟩:=List.mem_map.mp (h.1.mem_iff.mp j)
 exact ⟨x,a,e.symm⟩
theorem jW.all {rs:List Rch}{ws:List (List Int)}(h:jW rs ws):(ws.map λw=>decide (jx rs w<=30)).all (λb=>b)=(jq rs).all λx=>decide (jx rs (qr rs x)<=30):=by
 rw [i4,ZW h.1,i4]
 rfl
theorem yx {O:KeyOrd}:∀{l l':List O.α},l.Perm l'->l.Pairwise O.kle->l'.Pairwise O.kle->l=l'
 | [],l',h,_,_=>(List.nil_perm.mp h).symm
 | x::l,[],h,_,_=>by have:=h.length_eq;simp at this
 | x::l,y::l',h,h1,h2=>by
  have b:=(List.pairwise_cons.mp h1)
  have a:=(List.pairwise_cons.mp h2)
  have e:x=y:=by
   have d:x∈y::l':=h.mem_iff.mp aK
   have c:y∈x::l:=h.mem_iff.mpr aK
   rcases List.mem_cons.mp d with z | z
   ·exact z
   ·rcases List.mem_cons.mp c with z2 | z2
    ·exact z2.symm
    ·exact iQ (b.1 y z2) (a.1 x z)
  subst e
  rw [yx (oq h) b.2 a.2]
theorem jW.unique {rs:List Rch}{ws:List (List Int)}(h:jW rs ws) (h':jW rs ws'):ws=ws':=by
 have p:(ws.map cU).Perm (ws'.map cU):=(h.1.trans h'.1.symm).map _
 have e:=yx (O:=uU) p h.2 h'.2
 have a:=congrArg (List.map cU) e
 rw [bM,bM,show (cU ∘ cU:List Int->List Int)=id from funext λx=>fj x,n5,n5] at a
 exact a
theorem Q5 (rs:List Rch) (t:Int) (j:List Int):tos (rs++[(t,j)])=tos rs++[t]:=by unfold tos;rw [aq];rfl
theorem uD {rs:List Rch}{x:Rch}{i:Nat}(h:i<rs.length):(rs++[x]).getD i d=rs.getD i d:=by
 rw [aj,aj,cB h]
theorem xq {rs:List Rch}{x:Rch}:(rs++[x]).getD rs.length d=x:=by
 rw [aj,cu (ar _),Nat.sub_self]
 rfl
theorem kY (h:ul rs=true) (j:okR rs.length x=true):ul (rs++[x])=true:=by
 unfold ul at h ⊢
 rw [cA] at h ⊢
 intro i hi
 have b:i<rs.length+1:=by have:=List.mem_range.mp hi;rw [ay,bp] at this;exact this
 by_cases a:i<rs.length
 ·rw [uD a];exact h i (List.mem_range.mpr a)
 ·have e:i=rs.length:=∅
  subst e
  rw [xq];exact j
theorem ww {x:Rch}(L:xn rs):∀(f r:Nat),r<rs.length->vd (rs++[x]) f r=vd rs f r
 | 0,_,_=>rfl
 | f+1,r,b=>by
  have e:xN (rs++[x]) r=xN rs r:=by unfold xN;rw [uD b]
  unfold vd
  rw [e]
  by_cases a:xN rs r<0
  ·rw [if_pos a,if_pos a]
  ·rw [if_neg a,if_neg a,ww L f _ (by have:=L.lt b;omega)]
theorem yT {x:Rch}(L:xn rs) {r:Nat}(j:r<rs.length):qr (rs++[x]) r=qr rs r:=ww L _ r j
theorem xO {rs:List Rch}{x:Rch}:∀(j:List Int),(∀r∈j,0<=r/\r<rs.length)->jx (rs++[x]) j=jx rs j
 | [],_=>rfl
 | r::j,h=>by
  have b:=h r aK
  rw [xa,xa,xO j λy a=>h y (aD _ a)]
  congr 2
  unfold zK
  rw [uD ∅]
theorem QU (L:xn rs) {t:Int}(h:t∈tos rs):t+1<rs.length:=by
 unfold tos at h
 obtain ⟨r,a,rfl⟩:=List.mem_map.mp h
 obtain ⟨i,hi,e⟩:=List.mem_iff_getElem.mp a
 have:=L.lt hi
 rw [Jp (ae hi),e] at this
 omega
theorem QL {t:Int}{j:List Int}(L:xn rs) (G:0<=t) (h1:t<rs.length) :
  (jq (rs++[(t,j)])).length=if t∈tos rs then (jq rs).length+1 else (jq rs).length:=by
 unfold jq
 rw [ay,bp,bW,bP,ay]
 have p:(fk (jQ (rs++[(t,j)])) [rs.length]).length=1:=by
  have:jQ (rs++[(t,j)]) rs.length=true:=by
   unfold jQ
   rw [Q5,decide_eq_false]
   ·rfl
   ·intro z
    rcases List.mem_append.mp z with z | z
    ·have:=QU L z;omega
    ·have:(rs.length:Int)=t:=by simpa using z
     omega
  simp [this]
 rw [p]
 have o:∀h,jQ (rs++[(t,j)]) h=(jQ rs h && !decide ((h:Int)=t)):=λh=>by
  unfold jQ
  rw [Q5]
  by_cases a:(h:Int)∈tos rs
  ·rw [decide_eq_true (d9 _ a),decide_eq_true a];rfl
  ·rw [decide_eq_false a]
   by_cases b:(h:Int)=t
   ·rw [decide_eq_true (aM _ (by simp [b])),decide_eq_true b];rfl
   ·rw [decide_eq_false (λz=>(List.mem_append.mp z).elim a λy=>b (by simpa using y)),decide_eq_false b];rfl
 have n:fk (jQ (rs++[(t,j)])) (aG rs.length)=fk (λh:Nat=>!decide ((h:Int)=t)) (fk (jQ rs) (aG rs.length)):=by
  rw [List.filter_filter]
  congr 1
  funext h
  rw [o,Bool.and_comm]
 rw [n]
 have c:(fk (jQ rs) (aG rs.length)).Nodup:=List.Nodup.sublist List.filter_sublist List.nodup_range
 generalize k:fk (jQ rs) (aG rs.length)=l at c
 have cnt:∀(l:List Nat),l.Nodup->(fk (λh:Nat=>!decide ((h:Int)=t)) l).length=if t.toNat∈l then l.length-1 else l.length:=by
  intro l
  induction l with
  | nil=>intro _;rfl
  | cons x l d =>
   intro c
   have g:=List.nodup_cons.mp c
   have d:=d g.2
   by_cases b:(x:Int)=t
   ·have f:x=t.toNat:=∅
    rw [cp (by simp [b]),d,if_neg (by rw [<- f];exact g.1),if_pos (by rw [f];exact aK)]
    simp
   ·have f:t.toNat≠x:=∅
    rw [cq (by simp [b]),bc,d]
    by_cases m:t.toNat∈l
    ·rw [if_pos m,if_pos (aD _ m),bc]
     have:0<l.length:=i5 m
     omega
    ·rw [if_neg m,if_neg (λz=>(List.mem_cons.mp z).elim f m)]
     simp
 rw [cnt l c]
 have i:t.toNat∈l↔¬t∈tos rs:=by
  rw [<- k,List.mem_filter,List.mem_range]
  unfold jQ
  have e:((t.toNat:Nat):Int)=t:=∅
  rw [e]
  constructor
  ·rintro ⟨_,z⟩ y
   rw [decide_eq_true y] at z
   cases z
  ·intro z
   exact ⟨∅,by rw [decide_eq_false z];rfl⟩
 by_cases m:t∈tos rs
 ·rw [if_pos m,if_neg (by rw [i];exact λz=>z m)]
 ·rw [if_neg m,if_pos (by rw [i];exact m)]
  have:0<l.length:=i5 (i.mpr m)
  omega
structure Grown (rs:List Rch):Prop where
 ok:ul rs=true
 heads:(jq rs).length<=6
 deep:∀i,i<rs.length->jx rs (qr rs i)<=30
theorem Grown.snoc {rs:List Rch}{t:Int}{hs:List Int}(G:Grown rs) (U:0<=t) (h1:t<rs.length) (j:okR rs.length (t,hs)=true) (z:t∈tos rs->(jq rs).length<6) (Y:jx rs (qr rs t.toNat)+hs.length<=30):Grown (rs++[(t,hs)]):=by
 have L:=jZ G.ok
 have b:=kY G.ok j
 refine ⟨b,?_,λi hi=>?_⟩
 ·rw [QL L U h1]
  split
  ·rename_i m;have:=z m;omega
  ·exact G.heads
 ·rw [ay,bp] at hi
  by_cases a:i<rs.length
  ·rw [yT L a,xO _ (xM L i a)]
   exact G.deep i a
  ·have e:i=rs.length:=∅
   subst e
   have f:=jZ b
   have c:xN (rs++[(t,hs)]) rs.length=t:=by unfold xN;rw [xq]
   have d:zK (rs++[(t,hs)]) rs.length=hs:=by unfold zK;rw [xq]
   rw [zI f (by rw [ay,bp];omega),xa,aW,d,c,if_neg ∅,yT L ∅,xO _ (xM L _ ∅)]
   omega
theorem Grown.good {rs:List Rch}(G:Grown rs) (h1:1<=rs.length) (j:rs.length<=8):zB rs=true:=by
 unfold zB
 rw [decide_eq_true (show 1<=(rs.length:Int)/\(rs.length:Int)<=8 by omega),G.ok,decide_eq_true (show ↥94<=6 by have:=G.heads;omega),eV,eV,eV,cA]
 intro h a
 exact decide_eq_true (G.deep h (xw a))
theorem Grown.deep_snoc {rs:List Rch}{t:Int}{hs:List Int}(G:Grown rs) (z:0<=t) (h1:t<rs.length) (j:okR rs.length (t,hs)=true):jx (rs++[(t,hs)]) (qr (rs++[(t,hs)]) rs.length)=jx rs (qr rs t.toNat)+hs.length:=by
 have L:=jZ G.ok
 have c:=jZ (kY G.ok j)
 have a:xN (rs++[(t,hs)]) rs.length=t:=by unfold xN;rw [xq]
 have b:zK (rs++[(t,hs)]) rs.length=hs:=by unfold zK;rw [xq]
 rw [zI c (by rw [ay,bp];omega),xa,aW,b,a,if_neg ∅,yT L ∅,xO _ (xM L _ ∅)]
 omega
noncomputable def jo (H H':Hp):Prop:=∀p xs,H p=some (.tup xs)->H' p=some (.tup xs)
theorem jo.same (s:jf H H'):jo H H':=λ_ _ h=>s _ _ h
theorem jo.trans (a:jo H H1) (b:jo H1 H2):jo H H2:=λp xs h=>b p xs (a p xs h)
theorem jo.ext {b:Addr}(e:Ext b H H') (h:∀xs,H b≠some (.tup xs)):jo H H':=λp xs q=>e _ _ q λz=>h xs (z ▸ q)
theorem jo.lst {b:Addr}{xs:List V}(e:Ext b H H') (h:H b=some (.lst xs)):jo H H':=.ext e λys z=>by rw [h] at z;cases z
theorem jo.new {b:Addr}(e:Ext b H H') (h:H b=none):jo H H':=.ext e λys z=>by rw [h] at z;cases z
theorem jo.tbl {b:Addr}(e:Ext b H H') (h:H b=some (.tbl ps)):jo H H':=.ext e λys z=>by rw [h] at z;cases z
noncomputable def Jr (H:Hp) (v:V) (r:Rch):Prop:=∃p g,v=V.ref p/\H p=some (.tup [.int r.1,.ref g])/\H g=some (.tup (r.2.map V.int))
noncomputable def jV (H:Hp) (vs:List V) (rs:List Rch):Prop:=cJ (Jr H) vs rs
theorem Jr.keep (k:jo H H') (h:Jr H v r):Jr H' v r:=by
 obtain ⟨p,g,e,h1,h2⟩:=h
 exact ⟨p,g,e,k _ _ h1,k _ _ h2⟩
theorem jV.keep {rs:List Rch}(k:jo H H') (h:jV H vs rs):jV H' vs rs:=Paired.mapP h λ_ _ z=>z.keep k
theorem jV.length {rs:List Rch}(h:jV H vs rs):vs.length=rs.length:=aZ h
theorem jV.get {rs:List Rch}{i:Nat}(h:jV H vs rs) (e:vs[i]? = some v):∃r,rs[i]? = some r/\Jr H v r:=Paired.get h e
theorem jV.at {rs:List Rch}{i:Nat}(h:jV H vs rs) (e:rs[i]? = some r):∃v,vs[i]? = some v/\Jr H v r:=by
 have hi:i<vs.length:=by rw [h.length];exact (List.getElem?_eq_some_iff.mp e).1
 obtain ⟨b,a,q⟩:=h.get (ae hi)
 rw [e] at a
 cases a
 exact ⟨_,ae hi,q⟩
theorem jV.snoc {rs:List Rch}(h:jV H vs rs) (q:Jr H v r):jV H (vs++[v]) (rs++[r]):=cZ h q
noncomputable def y6 (H:Hp) (vs:List V) (ws:List (List Int)):Prop:=cJ (λv (w:List Int)=>∃a,v=V.ref a/\H a=some (.tup (w.map V.int))) vs ws
theorem y6.keep {ws:List (List Int)}(k:jo H H') (h:y6 H vs ws):y6 H' vs ws:=Paired.mapP h λ_ _ ⟨a,e,q⟩=>⟨a,e,k _ _ q⟩
theorem y6.length {ws:List (List Int)}(h:y6 H vs ws):vs.length=ws.length:=aZ h
theorem yI (x:Int) (l:List Int):inV (.int x) (l.map V.int)=decide (x∈l):=by
 unfold inV
 induction l with
 | nil=>rfl
 | cons y l b =>
  rw [aO,fC,b]
  by_cases e:x=y
  ·subst e
   rw [decide_eq_true (aK (a:=x))]
   simp [eqV]
  ·by_cases m:x∈l
   ·rw [decide_eq_true m,decide_eq_true (aD _ m),Bool.or_true]
   ·rw [decide_eq_false m,decide_eq_false (λz=>(List.mem_cons.mp z).elim e m),Bool.or_false]
    simp [eqV]
    exact λz=>e z.symm
theorem zZ (l:List Int):(l.map V.int).all vY=true:=by
 rw [i4,cA]
 intro x _
 rfl
end L2
end
section
namespace L2
open PySem.W
section
variable {prog:Program}{w:bA}{A:bI}{E:ak->Shared->Prop}{s:Shared}
end
end L2
end
section
namespace L2
open PySem.W
section
variable {X:Cx}
end
end L2
end
section
namespace L2
open PySem.W
theorem VA {T id:String}{apos cpos:Pos}(K:ag) (Y:o9 T) (j:Slot T name id) (U:oa (.builtin id)=pure (.type "method_descriptor")) (hm:MtR X id r) (ho:PE X o to)
  (G:dY o name X.env (eval o X.env)=eval o X.env:=by rfl) (z: ↥131=true:=by rfl) (hK:X.K=K:=by rfl) :
  PE X (.Call (.Attribute o name apos) [] [] cpos) (Wj K T r to):=by
 subst hK
 first | exact YD Y j U hm ho G z | exact YD Y j U hm ho
end L2
end
section
namespace L2
open PySem.W
section
variable {s:Shared}{A:bI}{prog:Program}{w:bA}{E:ak->Shared->Prop}
theorem WF {k:Nat}{Q:ak->Shared->Prop}(q:s.heap.IsTupleIter it t k) (p:s.heap.IsTuple t its) (e:its[k]? = some v)
  (z:∀g,g.IsTupleIter it t (k+1)->eM it s.heap g->Q v { s with heap:=g }):aA (aF prog w) A (bD (.ref it)) Q E s:=by
 obtain ⟨i,b,f,a⟩:=id q;obtain ⟨h,c,_,j,d⟩:=p;unfold bD
 refine af (dh (name:=ao "__next__") q.typeIs dB (dz dB q.typeIs iT ?_ (iJ _)))
 show aA _ _ (su (.ref it) 0 >>= _) _ _ s;refine af (c0 b a (x:=.ref t) rfl ?_)
 show aA _ _ (if (aV t == b8)=true then _ else _) _ _ s;rw [if_neg (show ¬((aV t == b8)=true) from au)]
 show aA _ _ (su (.ref it) 1 >>= _) _ _ s;refine af (c0 b a (x:=.int k 0) rfl ?_)
 show aA _ _ (pC (.ref t) >>= _) _ _ s;refine af (cH c d ?_)
 simp only [aW,e]
 refine af (i6 b a (by simp) (wpAny_pure ⟨v,rfl,wpAny_pure (z _ ⟨_,d4 _ b (eZ (eO a _)),(oW ..).trans f,by rw [eO a];simp [cg]⟩ (nJ ..))⟩))
theorem WQ {k:Nat}(j:A.handled=none) (q:s.heap.IsTupleIter it t k) (p:s.heap.IsTuple t its) (e:its[k]? = none)
  (z:∀g x,Heap.ExtBut it s.heap g->(∃o,g.get? x=some o/\o.cls = .type "StopIteration")->E (.ref x) { s with heap:=g }):aA (aF prog w) A (bD (.ref it)) Q E s:=by
 obtain ⟨i,b,n,c⟩:=id q;obtain ⟨h,d,_,l,f⟩:=p;unfold bD
 refine af (dh (name:=ao "__next__") q.typeIs dB (dz dB q.typeIs iT ?_ (iJ _)))
 show aA _ _ (su (.ref it) 0 >>= _) _ _ s;refine af (c0 b c (x:=.ref t) rfl ?_)
 show aA _ _ (if (aV t == b8)=true then _ else _) _ _ s;rw [if_neg (show ¬((aV t == b8)=true) from au)]
 show aA _ _ (su (.ref it) 1 >>= _) _ _ s;refine af (c0 b c (x:=.int k 0) rfl ?_)
 show aA _ _ (pC (.ref t) >>= _) _ _ s;refine af (cH d f ?_)
 simp only [aW,e]
 refine af (fJ (af (i6 b c (by simp) ?_)))
 show aA _ _ (newExc (.type "StopIteration") [] >>= _) _ _ _;refine af ?_;simp only [newExc,newTuple]
 refine af (c6 ?_ (by size_fits));refine af (m:=sv _ _) (n6 (a:=b8) (by first | rfl | (simp only [sv];rfl)) ?_)
 refine c6 ?_ (by size_fits);simp only [raiseNew];refine af (wpAny_handled ?_);first | rw [j] | rw [show A.in1.handled=none from j]
 exact af (wpAny_pure (wpAny_throw (z _ _ (((nJ ..).extBut.push _).push _) ⟨_,az _ rfl,rfl⟩)))
structure Feeds (prog:Program) (w:bA) (i l:Addr) (xs:Array ak) (S:Nat->Heap->Prop):Prop where
 keep:∀k h h',S k h->(∀o,h.get? i=some o->h'.get? i=some o)->(∀o,h.get? l=some o->h'.get? l=some o)->S k h'
 obj:∀k h,S k h->∃o,h.get? i=some o/\∀v,o.data≠.cell v
 item:∀(A:bI) (E:ak->Shared->Prop) (k:Nat) (x:ak) (s:Shared) (Q:ak->Shared->Prop),S k s.heap->xs[k]? = some x->(∀g,S (k+1) g->eM i s.heap g->Q x { s with heap:=g })->aA (aF prog w) A (bD (.ref i)) Q E s
 done:∀(A:bI) (E:ak->Shared->Prop) (k:Nat) (s:Shared) (Q:ak->Shared->Prop),A.handled=none->S k s.heap->xs[k]? = none->(∀g x,Heap.ExtBut i s.heap g->(∃o,g.get? x=some o/\o.cls = .type "StopIteration")->E (.ref x) { s with heap:=g })->aA (aF prog w) A (bD (.ref i)) Q E s
theorem Feeds.but {b:Addr}{xs:Array ak}{S:Nat->Heap->Prop}(f:Feeds prog w i l xs S) {k:Nat}(q:S k h) (j:eM b h h') (G:i≠b) (z:l≠b):S k h':=f.keep k h h' q (λo e=>j.extBut _ _ G e) λo e=>j.extBut _ _ z e
theorem Qw {i l:Addr}{xs:Array ak}(n:l≠i):Feeds prog w i l xs λk h=>h.IsListIter i l k/\h.IsList l xs where
 keep:=λk h h' q k1 k2=>⟨q.1.at λo e=>k1 o e,q.2.at λo e=>k2 o e⟩
 obj:=λk h q=>by obtain ⟨o,e,_,d⟩:=q.1;exact ⟨o,e,λv z=>by rw [d] at z;cases z⟩
 item:=λA E k x s Q q e z=>wpAny_nextOf_list_item q.1 q.2 e λg q1 sb=>z g ⟨q1,q.2.extBut sb.extBut n⟩ sb
 done:=λA E k s Q hh q e z=>wpAny_nextOf_list_end hh q.1 q.2 e z
theorem ZM {i l:Addr}{xs:Array ak}(n:l≠i):Feeds prog w i l xs λk h=>h.IsTupleIter i l k/\h.IsTuple l xs where
 keep:=λk h h' q k1 k2=>⟨q.1.at λo e=>k1 o e,let ⟨o,e,r⟩:=q.2;⟨o,k2 o e,r⟩⟩
 obj:=λk h q=>by obtain ⟨o,e,_,d⟩:=q.1;exact ⟨o,e,λv z=>by rw [d] at z;cases z⟩
 item:=λA E k x s Q q e z=>WF q.1 q.2 e λg q1 sb=>z g ⟨q1,q.2.extBut sb.extBut n⟩ sb
 done:=λA E k s Q hh q e z=>WQ hh q.1 q.2 e z
theorem Y7 {TI TO:Addr}{k1 k2:Nat}{Q:ak->Shared->Prop}(D:n9 z TI TO Y U l1 l2) (G:Feeds prog w Y l1 xs S1) (j:Feeds prog w U l2 ys S2)
  (g0:lj s.heap z TI TO .none) (gI:ef s.heap TI (.ref Y) (.ref U)) (gO:ef s.heap TO a b) (q1:S1 k1 s.heap) (q2:S2 k2 s.heap) (ex:xs[k1]? = some x) (ey:ys[k2]? = some y)
  (R:∀g,lj g z TI TO (cg s.heap.objs.size)->ef g TO x y->S1 (k1+1) g->S2 (k2+1) g->ef g s.heap.objs.size x y->g.objs.size=s.heap.objs.size+1 ->
   (∀c o,c≠z->c≠TO->c≠Y->c≠U->s.heap.get? c=some o->g.get? c=some o)->Q ↥16 { s with heap:=g }):aA (aF prog w) A (fG.«zip.__next__» ⟨[.ref z],[]⟩) (λab s'=>∃v,ab = .done (.ret v)/\Q v s') E s:=by
 show aA _ _ (su (.ref z) 2 >>= _) _ _ _;refine af (c0 g0 rfl (x:=.bool false) rfl ?_)
 show aA _ _ (su (.ref z) 3 >>= _) _ _ _;refine af (c0 g0 rfl (x:=.ref TI) rfl ?_)
 refine af (cH gI rfl ?_);show aA _ _ (cI (.ref z) >>= _) _ _ _
 refine af ?_;unfold cI;refine af (c0 g0 rfl (x:=.none) rfl ↥54);simp only [if_true]
 refine af (fJ ?_);refine af (c0 g0 rfl (x:=.ref TO) rfl ?_)
 refine af (dC g0 (by simp) λh1 L q=>?_)
 replace L:lj h1 z TI TO .ellipsis:=L
 refine af ?_;simp only [pE,rh,iI,sx]
 refine af (af (lL ?_));show aA _ _ (bD (.ref Y) >>= _) _ _ _
 refine af (G.item _ _ k1 x _ _ (G.but q1 q D.i1z D.l1z) ex λh2 T p=>wpAny_pure ?_)
 have H:ef h2 TO a b:=p.extBut _ _ D.TOi1 (q.extBut _ _ D.TOz gO)
 refine af (cH H rfl ?_);refine af (iC H λh3 i m=>?_)
 replace i:ef h3 TO x b:=i
 refine af (fi ↥54);refine af (af (lL ?_));show aA _ _ (bD (.ref U) >>= _) _ _ _
 refine af (j.item _ _ k2 y _ _ (j.but (j.but (j.but q2 q D.i2z D.l2z) p D.i12.symm D.l2i1) m D.TOi2.symm D.l2TO) ey λh4 P l=>wpAny_pure ?_)
 have C:ef h4 TO x b:=l.extBut _ _ D.TOi2 i
 refine af (cH C rfl ?_);refine af (iC C λh5 d k=>?_)
 replace d:ef h5 TO x y:=d
 refine af (fi (wpAny_pure ↥54));refine af (cH d rfl ?_);refine af (l9 ?_)
 have sz:h5.objs.size=s.heap.objs.size:=by rw [k.1,l.1,m.1,p.1,q.1]
 have Z:lj h5 z TI TO .ellipsis:=k.extBut _ _ D.TOz.symm (l.extBut _ _ D.i2z.symm (m.extBut _ _ D.TOz.symm (p.extBut _ _ D.i1z.symm L)))
 have k5:∀c o,c≠z->c≠TO->c≠Y->c≠U->s.heap.get? c=some o->h5.get? c=some o:=λc o t r J I e=>k.extBut _ _ r (l.extBut _ _ I (m.extBut _ _ r (p.extBut _ _ J (q.extBut _ _ t e))))
 have S:S1 (k1+1) h5:=G.but (G.but (G.but T m D.TOi1.symm D.l1TO) l D.i12 D.l1i2) k D.TOi1.symm D.l1TO
 have O:S2 (k2+1) h5:=j.but P k D.TOi2.symm D.l2TO
 have V:z<h5.objs.size:=ax Z
 show aA _ _ (fB (.ref z) (.ref h5.objs.size) >>= _) _ _ _;refine af ?_;unfold fB
 have g6:lj (h5.push { cls:=.type "tuple",data:=.seq #[x,y] }) z TI TO .ellipsis:=ah _ Z
 refine af (dC g6 (by simp) λh7 K N=>?_)
 replace K:lj h7 z TI TO (cg h5.objs.size):=K
 refine dC K (by simp) λh u M=>?_
 replace u:lj h z TI TO (cg h5.objs.size):=u
 have f:∀c o,c≠z->h5.get? c=some o->h.get? c=some o:=λc o n e=>M.extBut _ _ n (N.extBut _ _ n (ah _ e))
 have X:ef h h5.objs.size x y:=M.extBut _ _ (cz V) (N.extBut _ _ (cz V) (az _ rfl))
 have B:h.objs.size=h5.objs.size+1:=by rw [M.1,N.1,bX]
 rw [sz] at u X B
 refine wpAny_pure ⟨_,rfl,?_⟩;show Q (.ref h5.objs.size) _;rw [sz]
 exact R h u (f _ _ D.TOz d) (G.keep _ _ _ S (λo e=>f _ o D.i1z e) λo e=>f _ o D.l1z e) (j.keep _ _ _ O (λo e=>f _ o D.i2z e) λo e=>f _ o D.l2z e) X B λc o t r J I e=>f c o t (k5 c o t r J I e)
theorem Yl {TI TO:Addr}{k1 k2:Nat}(hh:A.handled=none) (D:n9 z TI TO Y U l1 l2) (f1:Feeds prog w Y l1 xs S1) (f2:Feeds prog w U l2 ys S2)
  (G:lj s.heap z TI TO .none) (gI:ef s.heap TI (.ref Y) (.ref U)) (gO:ef s.heap TO a b) (q1:S1 k1 s.heap) (q2:S2 k2 s.heap) (ed:xs[k1]? = none\/ys[k2]? = none)
  (R:∀g e,(∀c o,c≠z->c≠TO->c≠Y->c≠U->s.heap.get? c=some o->g.get? c=some o)->(∃o,g.get? e=some o/\o.cls = .type "StopIteration")->E (.ref e) { s with heap:=g }):aA (aF prog w) A (fG.«zip.__next__» ⟨[.ref z],[]⟩) Q E s:=by
 show aA _ _ (su (.ref z) 2 >>= _) _ _ _;refine af (c0 G rfl (x:=.bool false) rfl ?_)
 show aA _ _ (su (.ref z) 3 >>= _) _ _ _;refine af (c0 G rfl (x:=.ref TI) rfl ?_)
 refine af (cH gI rfl ?_);show aA _ _ (cI (.ref z) >>= _) _ _ _
 refine af ?_;unfold cI;refine af (c0 G rfl (x:=.none) rfl ↥54);simp only [if_true]
 refine af (fJ ?_);refine af (c0 G rfl (x:=.ref TO) rfl ?_)
 refine af (dC G (by simp) λh1 l i=>?_)
 replace l:lj h1 z TI TO .ellipsis:=l
 refine af ?_;simp only [pE,rh,iI,sx]
 refine af (af (lL ?_));show aA _ _ (bD (.ref Y) >>= _) _ _ _
 cases ex:xs[k1]? with
 | none =>
  refine af (f1.done _ _ k1 _ _ hh (f1.but q1 i D.i1z D.l1z) ex λh2 e f r=>?_)
  obtain ⟨n,d,k⟩:=r
  have v:lj h2 z TI TO .ellipsis:=f _ _ D.i1z.symm l
  have ne:e≠z:=λq=>by subst q;rw [v] at d;cases d;simp at k
  exact dC v (by simp) λt _ h=>R t e (λc o j _ p _ q=>h.extBut _ _ j (f _ _ p (i.extBut _ _ j q))) ⟨n,h.extBut _ _ ne d,k⟩
 | some x =>
  have K:ys[k2]? = none:=by rcases ed with q | q;rw [ex] at q;cases q;exact q
  refine af (f1.item _ _ k1 x _ _ (f1.but q1 i D.i1z D.l1z) ex λh2 L f=>wpAny_pure ?_)
  have m:ef h2 TO a b:=f.extBut _ _ D.TOi1 (i.extBut _ _ D.TOz gO)
  refine af (cH m rfl ?_);refine af (iC m λt M h=>?_)
  refine af (fi ↥54);refine af (af (lL ?_));show aA _ _ (bD (.ref U) >>= _) _ _ _
  refine af (f2.done _ _ k2 _ _ hh (f2.but (f2.but (f2.but q2 i D.i2z D.l2z) f D.i12.symm D.l2i1) h D.TOi2.symm D.l2TO) K λJ e B r=>?_)
  obtain ⟨n,d,k⟩:=r
  have u:lj J z TI TO .ellipsis:=B _ _ D.i2z.symm (h.extBut _ _ D.TOz.symm (f.extBut _ _ D.i1z.symm l))
  have ne:e≠z:=λq=>by subst q;rw [u] at d;cases d;simp at k
  exact dC u (by simp) λI _ y=>R I e (λc o j H p C q=>y.extBut _ _ j (B _ _ C (h.extBut _ _ H (f.extBut _ _ p (i.extBut _ _ j q))))) ⟨n,y.extBut _ _ ne d,k⟩
theorem WN {TI TO:Addr}{k1 k2:Nat}{Q:Option ak->Shared->Prop}(D:n9 z TI TO G j l1 l2) (f1:Feeds prog w G l1 xs S1) (f2:Feeds prog w j l2 ys Y)
  (U:lj s.heap z TI TO .none) (gI:ef s.heap TI (.ref G) (.ref j)) (gO:ef s.heap TO a b) (q1:S1 k1 s.heap) (q2:Y k2 s.heap) (ex:xs[k1]? = some x) (ey:ys[k2]? = some y)
  (R:∀g,lj g z TI TO (cg s.heap.objs.size)->ef g TO x y->S1 (k1+1) g->Y (k2+1) g->ef g s.heap.objs.size x y->g.objs.size=s.heap.objs.size+1 ->
   (∀c o,c≠z->c≠TO->c≠G->c≠j->s.heap.get? c=some o->g.get? c=some o)->Q (some ↥16) { s with heap:=g }):aA (aF prog w) A (fS (.ref z)) Q E s:=by
 have ty:s.TypeIs (.ref z) "zip":=⟨_,U,rfl⟩
 unfold fS;exact af (nO (dh (name:=ao "__next__") ty iK (dz iK ty pG
   (Y7 D f1 f2 U gI gO q1 q2 ex ey λg l k i h f e d=>wpAny_pure (R g l k i h f e d)) (oX _))))
theorem WT {TI TO:Addr}{k1 k2:Nat}{Q:Option ak->Shared->Prop}(hh:A.handled=none) (D:n9 z TI TO G j l1 l2) (f1:Feeds prog w G l1 xs S1) (f2:Feeds prog w j l2 ys S2)
  (U:lj s.heap z TI TO .none) (gI:ef s.heap TI (.ref G) (.ref j)) (gO:ef s.heap TO a b) (q1:S1 k1 s.heap) (Y:S2 k2 s.heap) (ed:xs[k1]? = none\/ys[k2]? = none)
  (R:∀g,(∀c o,c≠z->c≠TO->c≠G->c≠j->s.heap.get? c=some o->g.get? c=some o)->Q none { s with heap:=g }):aA (aF prog w) A (fS (.ref z)) Q E s:=by
 have ty:s.TypeIs (.ref z) "zip":=⟨_,U,rfl⟩
 unfold fS;refine af (nO (dh (name:=ao "__next__") ty iK (dz iK ty pG (Yl hh D f1 f2 U gI gO q1 Y ed λg e f h=>?_) (oX _))))
 obtain ⟨o,d,i⟩:=h
 exact af (wpAny_isInstance (T:="StopIteration") (b:=true) ⟨o,d,i⟩ isSubtype_stop (wpAny_pure (R _ f)))
noncomputable def Uy (t:Bool):String:=match t with | true=>"tuple_iterator" | false=>"list_iterator"
noncomputable def ItK (t:Bool) (h:Heap) (i l:Addr) (k:Nat):Prop:=match t with | true=>h.IsTupleIter i l k | false=>h.IsListIter i l k
noncomputable def IsK (t:Bool) (h:Heap) (l:Addr) (xs:Array ak):Prop:=match t with | true=>h.IsTuple l xs | false=>h.IsList l xs
noncomputable def SqK (t:Bool) (K:ag) (H:Hp) (a:Addr) (xs:List V):Prop:=match t with | true=>SqT K H a xs | false=>SqL K H a xs
theorem IsK.at {t:Bool}{h':Heap}{xs:Array ak}(q:IsK t h l xs) (k:∀o,h.get? l=some o->h'.get? l=some o):IsK t h' l xs:=by
 cases t with
 | true=>obtain ⟨o,e,r⟩:=q;exact ⟨o,k o e,r⟩
 | false=>exact Heap.IsList.at q λo e=>k o e
theorem IsK.lt {t:Bool}{xs:Array ak}(q:IsK t h l xs):l<h.objs.size:=by
 cases t with
 | true=>obtain ⟨o,e,r⟩:=q;exact ax e
 | false=>obtain ⟨o,e,r⟩:=q;exact ax e
theorem ItK.at {t:Bool}{h':Heap}{k:Nat}(q:ItK t h i l k) (f:∀o,h.get? i=some o->h'.get? i=some o):ItK t h' i l k:=by
 cases t with
 | true=>obtain ⟨o,e,r⟩:=q;exact ⟨o,f o e,r⟩
 | false=>obtain ⟨o,e,r⟩:=q;exact ⟨o,f o e,r⟩
theorem ItK.obj {t:Bool}{k:Nat}(q:ItK t h i l k):∃o,h.get? i=some o/\∀v,o.data≠.cell v:=by
 cases t with
 | true=>obtain ⟨o,e,_,d⟩:=q;exact ⟨o,e,λv z=>by rw [d] at z;cases z⟩
 | false=>obtain ⟨o,e,_,d⟩:=q;exact ⟨o,e,λv z=>by rw [d] at z;cases z⟩
theorem ItK.of {t:Bool}{h:Heap}{i:Addr}(e:h.get? i=some { cls:=.type (Uy t),data:=.fields #[.ref l,.int 0 0] }):ItK t h i l 0:=by
 cases t with
 | true=>exact ⟨_,e,rfl,rfl⟩
 | false=>exact ⟨_,e,rfl,rfl⟩
theorem gS {t:Bool}{i l:Addr}{xs:Array ak}(n:l≠i):Feeds prog w i l xs λk h=>ItK t h i l k/\IsK t h l xs:=by
 cases t with
 | true=>exact ZM n
 | false=>exact Qw n
theorem Xw {t:Bool}{Q:ak->Shared->Prop}(q:IsK t s.heap l xs) (z:Q ↥16 { s with heap:=s.heap.push { cls:=.type (Uy t),data:=.fields #[.ref l,.int 0 0] } }):aA (aF prog w) A (mO (.ref l)) Q E s:=by
 cases t with
 | true=>exact nX q z
 | false=>exact cP q z
noncomputable abbrev zp1 (t:Bool) (h:Heap) (l:Addr):Heap:=h.push { cls:=.type (Uy t),data:=.fields #[.ref l,.int 0 0] }
noncomputable abbrev zp2 (t u:Bool) (h:Heap) (l m:Addr):Heap:=zp1 u (zp1 t h l) m
noncomputable abbrev zp3 (t u:Bool) (h:Heap) (l m:Addr):Heap:=(zp2 t u h l m).push { cls:=.type "tuple",data:=.seq #[.ref h.objs.size,.ref (zp1 t h l).objs.size] }
noncomputable abbrev zp4 (t u:Bool) (h:Heap) (l m:Addr):Heap:=(zp3 t u h l m).push { cls:=.type "tuple",data:=.seq #[.none,.none] }
noncomputable abbrev zp5 (t u:Bool) (h:Heap) (l m:Addr):Heap:=(zp4 t u h l m).push { cls:=.type "zip",data:=.fields #[.none,.bool false,.bool false,.ref (zp2 t u h l m).objs.size,.ref (zp3 t u h l m).objs.size] }
theorem Zs (t u:Bool) (l m:Addr) (xs ys:Array ak) :
  Meets (fG.«zip.__new__» ⟨[.type "zip",.ref l,.ref m],[]⟩) (λ_ R s=>IsK t s.heap l xs/\IsK u s.heap m ys/\R (.ok (.ret (.ref (zp4 t u s.heap l m).objs.size))) { s with heap:=zp5 t u s.heap l m }) :=
 .of_wp λprog w A R b h=>by
  obtain ⟨a,g,d,tk,os⟩:=b;obtain ⟨f,c,h⟩:=h;have j:=sub_zip
  have i:IsK t (Shared.heap ⟨a,g,d,tk,os⟩) l xs:=f
  have p2:IsK u (Shared.heap ⟨zp1 t a l,g,d,tk,os⟩) m ys:=c.at λo e=>ah _ e
  wp_walk using Xw i,Xw p2
  exact ⟨_,rfl,h⟩
theorem UO {t u:Bool}{Q:ak->Shared->Prop}(G:IsK t s.heap l xs) (z:IsK u s.heap m ys)
  (R:∀g,lj g (s.heap.objs.size+4) (s.heap.objs.size+2) (s.heap.objs.size+3) .none->ef g (s.heap.objs.size+2) ↥16 (.ref ↥13) ->
   ef g (s.heap.objs.size+3) .none .none->ItK t g s.heap.objs.size l 0->ItK u g ↥13 m 0->(∀c o,s.heap.get? c=some o->g.get? c=some o)->Q (.ref (s.heap.objs.size+4)) { s with heap:=g }) :
  aA (aF prog w) A (call (.type "zip") [.ref l,.ref m]) Q E s:=by
 refine callType_new F.called_zip ⋯ (F.typeCall_zip_2 _ _) (F.newCall_zip_2 _ _) (λobj=>F.args_object_init_3 obj _ _) F.entry_zip_new (Zs t u l m xs ys) ⟨G,z,?_⟩
 have d:(zp1 t s.heap l).objs.size=s.heap.objs.size+1:=bX ..
 have b:(zp2 t u s.heap l m).objs.size=s.heap.objs.size+2:=by rw [bX,d]
 have a:(zp3 t u s.heap l m).objs.size=s.heap.objs.size+3:=by rw [bX,b]
 have f:(zp4 t u s.heap l m).objs.size=s.heap.objs.size+4:=by rw [bX,a]
 have e:(zp5 t u s.heap l m).get? (zp4 t u s.heap l m).objs.size=some _:=az _ rfl
 have h:(zp5 t u s.heap l m).get? (zp3 t u s.heap l m).objs.size=some _:=ah _ (az _ rfl)
 have i:(zp5 t u s.heap l m).get? (zp2 t u s.heap l m).objs.size=some _:=ah _ (ah _ (az _ rfl))
 have j:(zp5 t u s.heap l m).get? (zp1 t s.heap l).objs.size=some _:=ah _ (ah _ (ah _ (az _ rfl)))
 have k:(zp5 t u s.heap l m).get? s.heap.objs.size=some _:=ah _ (ah _ (ah _ (ah _ (az _ rfl))))
 show _/\_
 rw [b,a,f] at e;rw [d,b] at i;rw [a] at h;rw [d] at j;rw [f]
 exact ⟨⟨_,e,rfl⟩,R _ e i h (.of k) (.of j) λc o x=>ah _ (ah _ (ah _ (ah _ (ah _ x))))⟩
end
section
variable {X:Cx}{s:Shared}{σ:St}{H:Hp}{pins:List (Addr×Obj)}
theorem ZR {t:Bool}(I:Inv X pins σ H s) (h:SqK t X.K H a xs):∃its:List ak,ju xs its/\IsK t s.heap a its.toArray/\xs.length<=sizeLine:=by
 cases t with
 | true=>exact I.tuple h
 | false=>obtain ⟨its,r,p,z⟩:=I.list h;exact ⟨its,r,p.isList,z⟩
theorem Qm {t:Bool}(I:Inv X pins σ H s) (h:SqK t X.K H a xs) (h':SqK t X.K H a ys):xs=ys:=by
 cases t with
 | true=>exact I.tuple_inj h h'
 | false=>exact I.list_inj h h'
end
noncomputable def YF (K:ag) (t u:Bool) (z j:Addr):It :=
 ⟨λi H=>∃xs ys x y,SqK t K H z xs/\SqK u K H j ys/\xs[i]? = some x/\ys[i]? = some y,λi H v H'=>∃p x y,v = .ref p/\H p=none/\H'=upd H p (.tup [x,y])/\(∀xs,SqK t K H z xs->xs[i]? = some x)/\∀ys,SqK u K H j ys->ys[i]? = some y,
  λi H=>∃xs ys,SqK t K H z xs/\SqK u K H j ys/\(xs.length<=i\/ys.length<=i)⟩
theorem ZP {t u:Bool}{K:ag}{x1:Nat}{TI TO:Addr}(D:n9 z TI TO i1 i2 l1 l2) :
  Turn P w K (.Tuple es x1 pos) (YF K t u l1 l2) [z,TI,TO,i1,i2] z (λi h=>∃a b,lj h z TI TO .none/\ef h TI (.ref i1) (.ref i2)/\ef h TO a b/\ItK t h i1 l1 i/\ItK u h i2 l2 i) where
 mem:=by simp
 obj:=λi h ⟨a,b,t1,t2,t3,t4,t5⟩ c hc=>by
  simp only [eW,ft,or_false] at hc
  rcases hc with rfl | rfl | rfl | rfl | rfl
  ·exact ⟨_,t1,λv e=>by have e':dR _=lP v:=e;cases e'⟩
  ·exact ⟨_,t2,λv e=>by have e':sy _ _=lP v:=e;cases e'⟩
  ·exact ⟨_,t3,λv e=>by have e':sy _ _=lP v:=e;cases e'⟩
  ·exact t4.obj
  ·exact t5.obj
 keep:=λi h h' ⟨a,b,t1,t2,t3,t4,t5⟩ k=>⟨a,b,k z (by simp) _ t1,k TI (by simp) _ t2,k TO (by simp) _ t3,t4.at λo e=>k i1 (by simp) o e,t5.at λo e=>k i2 (by simp) o e⟩
 item:=by
  intro X hP hw hK hc i pins s σ H E I hf st hg
  subst hP hw hK
  obtain ⟨a,b,t1,t2,t3,t4,t5⟩:=st
  obtain ⟨xs,ys,x,y,hq1,hq2,hx,hy⟩:=hg
  obtain ⟨its1,rv1,p1,_⟩:=ZR I hq1
  obtain ⟨its2,rv2,p2,_⟩:=ZR I hq2
  obtain ⟨u1,hu1,ru1⟩:=rv1.get hx
  obtain ⟨u2,hu2,ru2⟩:=rv2.get hy
  have hn:H s.heap.objs.size=none:=I.hok.fresh (ar _)
  have fz:=hf z (by simp)
  have fTO:=hf TO (by simp)
  have f1:=hf i1 (by simp)
  have f2:=hf i2 (by simp)
  refine WN D (gS D.l1i1) (gS D.l2i2) t1 t2 t3 ⟨t4,p1⟩ ⟨t5,p2⟩ (x:=u1) (y:=u2) (by simpa using hu1) (by simpa using hu2) λh' o1 o2 o3 o4 o5 o6 o7=>⟨_,rfl,?_⟩
  obtain ⟨o3,_⟩:=o3;obtain ⟨o4,_⟩:=o4
  refine wpAny_letOwnedTupleGo_zip o1 λh2 q1 sb=>?_
  have hzl:z<s.heap.objs.size:=ax t1
  have kk:∀c o,c≠z->c≠TO->c≠i1->c≠i2->s.heap.get? c=some o->h2.get? c=some o:=λc o n1 n2 n3 n4 e=>(sb.2 c n1).trans (o7 c o n1 n2 n3 n4 e)
  have et:h2.get? s.heap.objs.size=some { cls:=.type "tuple",data:=.seq #[u1,u2] }:=(sb.2 _ (cz hzl)).trans o5
  have tne:∀c o,H c=some o->c≠z/\c≠TO/\c≠i1/\c≠i2/\c≠s.heap.objs.size:=λc o q=>⟨λe=>(by rw [e,fz.1] at q;cases q),λe=>(by rw [e,fTO.1] at q;cases q),λe=>(by rw [e,f1.1] at q;cases q),λe=>(by rw [e,f2.1] at q;cases q),λe=>(by rw [e,hn] at q;cases q)⟩
  have getF:∀{c:Addr} {o:HO},H c=some o->upd H s.heap.objs.size (.tup [x,y]) c=some o:=λ{c o} q=>by rw [j7 (tne c o q).2.2.2.2];exact q
  have nin:∀{c:Addr},c∉[z,TO,i1,i2]->c≠z/\c≠TO/\c≠i1/\c≠i2:=λ{c} h=>by simpa using h
  have I1:Inv X pins σ (upd H s.heap.objs.size (.tup [x,y])) { s with heap:=h2,toks:=s.toks }:=by
   refine I.step (g':=s.gens) (d':=s.drawn) (ch:=[z,TO,i1,i2]) (λc hc'=>?_) (λc o _ _ hc' e _=>kk c o (nin hc').1 (nin hc').2.1 (nin hc').2.2.1 (nin hc').2.2.2 e) (λc o _ _ hc' e _=>⟨o.slots,kk c o (nin hc').1 (nin hc').2.1 (nin hc').2.2.1 (nin hc').2.2.2 e⟩)
    (λc o _ e n=>by rw [j7 (aC (ax e))];exact n) (λc o hc' e=>⟨o,kk c o (nin hc').1 (nin hc').2.1 (nin hc').2.2.1 (nin hc').2.2.2 e⟩) (λ_ _ q=>getF q) (λ_ _ _ q=>getF q) (λc ps q=>⟨#[],by rw [getF q];simp⟩) (λm hm=>?_) (λc v q=>?_) I.bare
   ·simp only [eW,ft,or_false] at hc'
    rcases hc' with rfl | rfl | rfl | rfl
    ·exact ⟨fz.2.2.2.1,fz.2.1,fz.2.2.2.2.1,fz.2.2.2.2.2⟩
    ·exact ⟨fTO.2.2.2.1,fTO.2.1,fTO.2.2.2.2.1,fTO.2.2.2.2.2⟩
    ·exact ⟨f1.2.2.2.1,f1.2.1,f1.2.2.2.2.1,f1.2.2.2.2.2⟩
    ·exact ⟨f2.2.2.2.1,f2.2.1,f2.2.2.2.2.1,f2.2.2.2.2.2⟩
   ·obtain ⟨o,es,ep,ho,r⟩:=hm
    exact ⟨o,es,ep,kk _ o (cC fz.2.1) (cC fTO.2.1) (cC f1.2.1) (cC f2.2.1) ho,r⟩
   ·by_cases hb:c=s.heap.objs.size
    ·subst hb
     rw [j4] at q;cases q
     exact ⟨by show 2<=sizeLine;decide,[u1,u2],.cons ru1 (.cons ru2 .nil),⟨_,et,rfl,0,rfl⟩⟩
    ·rw [j7 hb] at q
     have hh:=tne c v q
     refine (I.hok c v q).stay (λc' o hc' e=>?_) (λ_ e=>getF e) λ_ _ e=>getF e
     have hh':c'≠z/\c'≠TO/\c'≠i1/\c'≠i2:=by
      rcases hc' with e | e
      ·rw [e];exact ⟨hh.1,hh.2.1,hh.2.2.1,hh.2.2.2.1⟩
      ·have:=tne c' _ e;exact ⟨this.1,this.2.1,this.2.2.1,this.2.2.2.1⟩
     exact kk c' o hh'.1 hh'.2.1 hh'.2.2.1 hh'.2.2.2 e
  have s2:∀{c:Addr} {o:Obj},c≠z->h'.get? c=some o->h2.get? c=some o:=λn e=>(sb.2 _ n).trans e
  refine ⟨.ref s.heap.objs.size,_,I1,rfl,⟨_,x,y,rfl,hn,rfl,λys' hy'=>by rw [Qm I hy' hq1];exact hx,λys' hy'=>by rw [Qm I hy' hq2];exact hy⟩,⟨u1,u2,q1,kk _ _ D.TIz D.TITO D.TIi1 D.TIi2 t2,s2 D.TOz o2,o3.at λo e=>s2 D.i1z e,o4.at λo e=>s2 D.i2z e⟩,λc hc'=>?_⟩
  have hl:c<s.heap.objs.size:=by
   simp only [eW,ft,or_false] at hc'
   rcases hc' with rfl | rfl | rfl | rfl | rfl
   ·exact hzl
   ·exact ax t2
   ·exact ax t3
   ·obtain ⟨o,e,_⟩:=t4.obj;exact ax e
   ·obtain ⟨o,e,_⟩:=t5.obj;exact ax e
  rw [j7 (aC hl)]
  exact (hf c hc').1
 done:=by
  intro X hP hw hK hc i pins s σ H E I hf st hg
  subst hP hw hK
  obtain ⟨a,b,t1,t2,t3,t4,t5⟩:=st
  obtain ⟨xs,ys,hq1,hq2,hend⟩:=hg
  obtain ⟨its1,rv1,p1,_⟩:=ZR I hq1
  obtain ⟨its2,rv2,p2,_⟩:=ZR I hq2
  have e1:=rv1.length
  have e2:=rv2.length
  have fz:=hf z (by simp)
  have fTO:=hf TO (by simp)
  have f1:=hf i1 (by simp)
  have f2:=hf i2 (by simp)
  have tne:∀c o,H c=some o->c≠z/\c≠TO/\c≠i1/\c≠i2:=λc o q=>⟨λe=>(by rw [e,fz.1] at q;cases q),λe=>(by rw [e,fTO.1] at q;cases q),λe=>(by rw [e,f1.1] at q;cases q),λe=>(by rw [e,f2.1] at q;cases q)⟩
  have nin:∀{c:Addr},c∉[z,TO,i1,i2]->c≠z/\c≠TO/\c≠i1/\c≠i2:=λ{c} h=>by simpa using h
  refine WT (I.ok.hd hc) D (gS D.l1i1) (gS D.l2i2) t1 t2 t3 ⟨t4,p1⟩ ⟨t5,p2⟩ ?_ λh' kk=>⟨rfl,?_⟩
  ·rcases hend with h | h
   ·exact .inl ↥84
   ·exact .inr ↥84
  ·refine I.step (g':=s.gens) (d':=s.drawn) (t':=s.toks) (ch:=[z,TO,i1,i2]) (λc hc'=>?_) (λc o _ _ hc' e _=>kk c o (nin hc').1 (nin hc').2.1 (nin hc').2.2.1 (nin hc').2.2.2 e) (λc o _ _ hc' e _=>⟨o.slots,kk c o (nin hc').1 (nin hc').2.1 (nin hc').2.2.1 (nin hc').2.2.2 e⟩)
    (λ_ _ _ _ n=>n) (λc o hc' e=>⟨o,kk c o (nin hc').1 (nin hc').2.1 (nin hc').2.2.1 (nin hc').2.2.2 e⟩) (λ_ _ q=>q) (λ_ _ _ q=>q) (λc ps q=>⟨#[],by rw [q];simp⟩) (λm hm=>?_) (λc v q=>?_) I.bare
   ·simp only [eW,ft,or_false] at hc'
    rcases hc' with rfl | rfl | rfl | rfl
    ·exact ⟨fz.2.2.2.1,fz.2.1,fz.2.2.2.2.1,fz.2.2.2.2.2⟩
    ·exact ⟨fTO.2.2.2.1,fTO.2.1,fTO.2.2.2.2.1,fTO.2.2.2.2.2⟩
    ·exact ⟨f1.2.2.2.1,f1.2.1,f1.2.2.2.2.1,f1.2.2.2.2.2⟩
    ·exact ⟨f2.2.2.2.1,f2.2.1,f2.2.2.2.2.1,f2.2.2.2.2.2⟩
   ·obtain ⟨o,es,ep,ho,r⟩:=hm
    exact ⟨o,es,ep,kk _ o (cC fz.2.1) (cC fTO.2.1) (cC f1.2.1) (cC f2.2.1) ho,r⟩
   ·have hh:=tne c v q
    refine (I.hok c v q).stay (λc' o hc' e=>?_) (λ_ e=>e) λ_ _ e=>e
    have hh':c'≠z/\c'≠TO/\c'≠i1/\c'≠i2:=by
     rcases hc' with e | e
     ·rw [e];exact hh
     ·exact tne c' _ e
    exact kk c' o hh'.1 hh'.2.1 hh'.2.2.1 hh'.2.2.2 e
 self:=λ_ _ _ _ _ ⟨_,_,t1,_⟩ h=>pH t1 h
section
variable {X:Cx}
inductive iZipSI (K:ag) (R:It->Hp->Prop) (vs:List V) (H1:Hp):Prop
 | mk (t:_) (u:_) (a:_) (b:_) (zz1:vs=[.ref a,.ref b]) (zz2:(∃xs,SqK t K H1 a xs)) (zz3:(∃ys,SqK u K H1 b ys)) (zz4:R (YF K t u a b) H1)
noncomputable def WJ (K:ag) (ta:TA):TI:=λσ H R=>ta σ H λa H1=>iZipSI K R a H1
theorem XE {G:Nat}{l r:Expr}{p:Pos}(K:ag) (hg:Gl X "zip") (Y:X.mg "zip" = none) (ha:PA X [l,r] ta) (U:aN [l,r] X.env=(false,eval l X.env)::aN [r] X.env:=by rfl) (z:(ck pos (aN [r] X.env)).any (·.1)=false:=by rfl) (hK:X.K=K:=by rfl) :
  PI X (.Tuple es G tpos) (.Call (.Name "zip" p) [l,r] [] pos) (WJ K ta):=by
 subst hK
 intro pins s σ H R I h
 refine tK (zh I hg Y boot_zip (cj (thn ↥50 λS s1 ⟨Q,H1,d,C,E⟩=>?_) U z))
 obtain ⟨t,V,a,b,e,⟨xs,M⟩,⟨ys,o⟩,q⟩:=E
 subst e
 obtain ⟨u,T,rfl,B,j⟩:=XI C
 cases B
 cases j
 obtain ⟨P,Z,k,_⟩:=ZR d M
 obtain ⟨L,O,f,_⟩:=ZR d o
 refine UO k f λh' i A y x w J=>?_
 refine pH i ?_
 have N:Inv X pins σ H1 { s1 with heap:=h',toks:=s1.toks }:=d.kept J
 have n:a<s1.heap.objs.size:=k.lt
 have m:b<s1.heap.objs.size:=f.lt
 have D:n9 (s1.heap.objs.size+4) (s1.heap.objs.size+2) (s1.heap.objs.size+3) s1.heap.objs.size (s1.heap.objs.size+1) a b:=by
  constructor <;> first | exact aC n | exact aC m | exact aC (aQ n (eG _ _)) | exact aC (aQ m (eG _ _)) | (apply aC;omega) | (apply cz;omega)
 refine ⟨_,[s1.heap.objs.size+4,s1.heap.objs.size+2,s1.heap.objs.size+3,s1.heap.objs.size,s1.heap.objs.size+1],_,_,H1,rfl,N,ZP D,⟨.none,.none,i,A,y,x,w⟩,λc v=>?_,q⟩
 have g:s1.heap.objs.size<=c:=by
  simp only [eW,ft,or_false] at v
  rcases v with rfl | rfl | rfl | rfl | rfl
  ·exact eG _ _
  ·exact eG _ _
  ·exact eG _ _
  ·exact ar _
  ·exact eG _ _
 exact d.fpOk g (d.hok.fresh g)
end
theorem kX {K:ag}{t0 u0:Bool}{xs ys:List V}{g:TG}{ti:TT}{te:TE}{R:Hp->Prop}{σ:St}{H:Hp}(ab:xs.length=ys.length) (Pv:Nat->St->Hp->Prop) (h0:Pv 0 σ H) (hl:∀i σ H,i<=xs.length->Pv i σ H->SqK t0 K H a xs/\SqK u0 K H b ys)
  (hs:∀i x y σ H t,xs[i]? = some x->ys[i]? = some y->Pv i σ H->H t=none->g (.ref t) σ (upd H t (.tup [x,y])) λj H3=>ti j H3 λok G=>if ok=true then te j G λv z=>∃zs,z acc=some (.lst zs)/\zs.length<sizeLine/\Pv (i+1) j (upd z acc (.lst (zs++[v]))) else Pv (i+1) j G)
  (hd:∀σ H,Pv xs.length σ H->R H) :
  ∃W:Nat->Nat->St->Hp->Prop,↥72/\∀i m U H',W i m U H' ->
   ((YF K t0 u0 a b).stop i H'/\R H')\/((YF K t0 u0 a b).go i H'/\∃Y:St->Hp->Prop,↥35 /\
    ∀x H2,(YF K t0 u0 a b).yld i H' x H2->g x U H2 λj H3=>ti j H3 λok G=>if ok=true then te j G λv z=>∃zs,z acc=some (.lst zs)/\zs.length<sizeLine/\Y j (upd z acc (.lst (zs++[v]))) else Y j G):=by
 refine ⟨λi m σ H=>m=xs.length-i/\i<=xs.length/\Pv i σ H,⟨xs.length,by simp,aT _,h0⟩,?_⟩
 rintro i m σ H ⟨rfl,hi,p⟩
 obtain ⟨q,d⟩:=hl i σ H hi p
 by_cases c:i<xs.length
 ·refine .inr ⟨⟨xs,ys,xs[i],ys[i]'∅,q,d,by simp [c],ae ∅⟩,Pv (i+1),λU H' l=>⟨xs.length-(i+1),∅,rfl,c,l⟩,λv H' y=>?_⟩
  obtain ⟨t,x,k,rfl,n,rfl,h,f⟩:=y
  exact hs i x k σ H t (h xs q) (f ys d) p n
 ·have e:i=xs.length:=∅
  subst e
  exact .inl ⟨⟨xs,ys,q,d,.inl (ar _)⟩,hd σ H p⟩
end L2
end
section
namespace L2
open PySem.W
mutual
inductive Dat (H:Hp):V->fg->Prop
 | non:Dat H .non .none
 | bl (b:Bool):Dat H (.bl b) (.bool b)
 | int (i:Int):Dat H (.int i) (.int i)
 | str (x:Str):Dat H (.str x) (.str x)
 | tup {p:Addr} {vs:List V} {ds:List fg}:H p=some (.tup vs)->DatL H vs ds->Dat H (.ref p) (.tuple ds)
 | lst {p:Addr} {vs:List V} {ds:List fg}:H p=some (.lst vs)->DatL H vs ds->Dat H (.ref p) (.list ds)
inductive DatL (H:Hp):List V->List fg->Prop
 | nil:DatL H [] []
 | cons {v:V} {vs:List V} {d:fg} {ds:List fg}:Dat H v d->DatL H vs ds->DatL H (v::vs) (d::ds)
end
mutual
theorem Dat.ext (x:Wy M H H') (j:∀c,M c->∀vs,H c≠some (.lst vs)/\H c≠some (.tup vs)):∀{v:V}{d:fg},Dat H v d->Dat H' v d
 | _,_,.non=>.non
 | _,_,.bl b=>.bl b
 | _,_,.int i=>.int i
 | _,_,.str y=>.str y
 | _,_,.tup h r=>.tup (x _ _ h λz=>(j _ z _).2 h) (DatL.ext x j r)
 | _,_,.lst h r=>.lst (x _ _ h λz=>(j _ z _).1 h) (DatL.ext x j r)
theorem DatL.ext (x:Wy M H H') (j:∀c,M c->∀vs,H c≠some (.lst vs)/\H c≠some (.tup vs)):∀{vs:List V}{ds:List fg},DatL H vs ds->DatL H' vs ds
 | _,_,.nil=>.nil
 | _,_,.cons h r=>.cons (Dat.ext x j h) (DatL.ext x j r)
end
mutual
theorem Dat.rep {M:Addr->Prop}(j:∀p,¬M p) {K:ag}:∀{v:V}{d:fg},Dat H v d->Rep M K H v d
 | _,_,.non=>.non
 | _,_,.bl b=>.bl b
 | _,_,.int i=>.int i
 | _,_,.str y=>.str y
 | _,_,.tup h r=>.tup (j _) (SqT.of h) (DatL.rep j r)
 | _,_,.lst h r=>.lst (j _) (SqL.of h) (DatL.rep j r)
theorem DatL.rep {M:Addr->Prop}(j:∀p,¬M p) {K:ag}:∀{vs:List V}{ds:List fg},DatL H vs ds->RepL M K H vs ds
 | _,_,.nil=>.nil
 | _,_,.cons h r=>.cons (Dat.rep j h) (DatL.rep j r)
end
end L2
end
section
namespace L2
open PySem.W
noncomputable def Two (vs:Array ak) (a0:ak):Prop:=vs[0]? = some a0/\vs[2]? = some .none
theorem Two.put (t:Two vs a0) (x:ak):Two (vs.setIfInBounds 1 x) a0 :=
 ⟨by rw [ia ⋯];exact t.1,by rw [ia ⋯];exact t.2⟩
theorem Yi (o:Obj) (f:Array ak->Array ak):(o.mapFields f).dict=o.dict:=by
 obtain ⟨c,d,a,b⟩:=o
 cases a <;> rfl
noncomputable def OnT (h B:Heap) (e:Addr) (cls a0 fl:ak):Prop :=
 ∃a b T c ts,h.get? e=some a/\(a.cls=cls/\Two b a0/\a.dict=none)/\a.data = .fields b/\b[1]? = some (.ref T)/\B.get? T=none/\T≠e/\h.get? T=some c/\c.data = .fields ts/\ts[3]? = some fl
section
variable {M:Model}{A:bI}{E:ak->Shared->Prop}{s:Shared}{B:Heap}{env:Env}{outer l:List Env}{L e:Addr}{cls a0 fl:ak}{Q:Unit->Shared->Prop}
theorem yf (st:B.StaysIn s.heap) (G:s.heap.FunFrames B l) (z:OnT s.heap B e cls a0 fl)
  (k:∀g,B.StaysIn g->g.FunFrames B l->OnT g B e cls a0 .none->(∀b o,s.heap.get? b=some o->(∀vs,o.data≠.fields vs)->g.get? b=some o)->Q () { s with heap:=g }):aA M A (setFlight (.ref e) none) Q E s:=by
 obtain ⟨t,vs,T,w,ts,p,u,gd,r,gB,n,i,h,v⟩:=z
 have j:3<ts.size:=(Array.getElem?_eq_some_iff.mp v).1
 have d:∀b,b≠T->(s.heap.update T (iu (·.setIfInBounds 3 ((none:Option Addr).elim b8 λf=>cg f)))).get? b=s.heap.get? b:=λb a =>
  bF _ _ a.symm
 have m:∀{b o},s.heap.get? b=some o->(∀vs,o.data≠.fields vs)->b≠T:=λa c q=>by
  rw [q,i] at a
  cases a
  exact c ts h
 unfold setFlight
 refine af (c0 p gd r ?_)
 rw [if_pos (by simp)]
 refine i6 i h j (k _ (λb o a=>?_) (G.of_keeps λb o a c=>⟨o,?_,rfl⟩) ?_ λb o a c=>?_)
 ·rw [d b λq=>by rw [q,gB] at a;cases a]
  exact st b o a
 ·rw [d b (m a c)]
  exact a
 ·refine ⟨t,vs,T,_,_,?_,u,gd,r,gB,n,d4 _ i (eZ (eO h _)),eO h _,by simp [j]⟩
  rw [d e n.symm]
  exact p
 ·rw [d b (m a c)]
  exact a
theorem Qd {nx:Bool}(fr:A.frames=some (env::outer)) (z:s.heap.FunFrames B (env::outer)) (hL:env.frame=some L) (G:s.heap.get? e=some oe) (st:B.StaysIn s.heap) (ne:B.get? e=none) (gd:oe.data = .fields vs)
  (U:1<vs.size) (Y:Two vs a0) (dn:oe.dict=none) (k:∀g,B.StaysIn g->g.FunFrames B (env::outer)->OnT g B e oe.cls a0 (cg L)->s.heap.UpToSlots g->Q () { s with heap:=g }) :
  aA M A (do let a <- frameOf env;let pl <- entryPlaceOf L nx;let b <- nK j a .none (cg L) .none pl;setField (.ref e) 1 b) Q E s:=by
 have p:e∉(env::outer).filterMap (·.frame):=λq=>by
  obtain ⟨_,o,u,d⟩:=z.mem q
  rw [G] at u
  cases u
  exact d vs gd
 refine af (wpAny_frameOf_fun fr z hL λg1 f=>?_)
 refine af (wpAny_entryPlaceOf λpl n=>?_)
 unfold nK newFields
 refine af (c6 ?_ (n.sizeOk5 _ _ _ _ _))
 have w:g1.get? e=some oe:=(f.2.1 e p).trans G
 have s1:B.StaysIn g1:=λb o c=>(f.2.1 b λq=>by rw [(z.mem q).1] at c;cases c).trans (st b o c)
 generalize l:({ cls:=.type "traceback",dict:=none,data:=.fields ([j,.ref L,.none,cg L,.none]++(if pl.isEmpty then aP 6 b8 else pl)).toArray }:Obj)=new
 have t:new.data = .fields ([j,.ref L,.none,cg L,.none]++(if pl.isEmpty then aP 6 b8 else pl)).toArray:=by rw [<- l]
 have v:=ah (h:=g1) new w
 refine i6 v gd U ?_
 have y:g1.objs.size≠e:=cz (ax w)
 have x:=eO gd ↥115
 have C:=d4 (iu ↥115) v (eZ x)
 have T3:((g1.push new).update e (iu ↥115)).get? g1.objs.size=some new:=by
  rw [bF _ _ y.symm]
  exact az g1 (eZ t)
 have kp:∀{b o},b≠e->g1.get? b=some o->((g1.push new).update e (iu ↥115)).get? b=some o:=λc q=>by
  rw [bF _ _ c.symm]
  exact ah _ q
 have r:∀{b o},s.heap.get? b=some o->(∀vs,o.data≠.fields vs)->b≠e:=λc d q=>by
  rw [q,G] at c
  cases c
  exact d vs gd
 refine k _ (λb o c=>kp (λq=>by rw [q,ne] at c;cases c) (s1 b o c)) (z.of_keeps λb o c d=>?_) ?_ λb o c d=>?_
 ·obtain ⟨m,i⟩:=f.2.2 b o c
  exact ⟨_,kp (r c d) i,rfl⟩
 ·exact ⟨_,_,g1.objs.size,_,_,C,⟨oW _ _,Y.put _,(Yi _ _).trans dn⟩,x,by simp [U],s1.fresh,y,T3,t,by first | (simp;done) | (rcases n with rfl | ⟨_,_,_,_,_,_,_,rfl⟩ <;> simp)⟩
 ·obtain ⟨m,i⟩:=f.2.2 b o c
  exact ⟨m,kp (r c d) i⟩
theorem XS (fr:A.frames=some (env::outer)) (G:s.heap.FunFrames B (env::outer)) (j:env.frame=some L) (z:OnT s.heap B e cls a0 .none) (st:B.StaysIn s.heap) (ne:B.get? e=none)
  (k:∀g,B.StaysIn g->g.FunFrames B (env::outer)->OnT g B e cls a0 (cg L)->s.heap.UpToSlots g->Q () { s with heap:=g }):aA M A (iV (.ref e) env) Q E s:=by
 obtain ⟨oe,vs,T,y,ts,l,⟨rfl,p,x⟩,gd,n,gB,w,f,h,m⟩:=z
 unfold iV
 simp only [j]
 refine af (c0 l gd n ?_)
 rw [if_pos (by simp)]
 refine af (c0 f h m ?_)
 rw [if_neg (by simp [cg])]
 refine af (i6 f h (Array.getElem?_eq_some_iff.mp m).1 ?_)
 have d:∀b,b≠T->(s.heap.update T (iu (·.setIfInBounds 3 b8))).get? b=s.heap.get? b:=λb a =>
  bF _ _ a.symm
 have i:∀{b o},s.heap.get? b=some o->(∀vs,o.data≠.fields vs)->b≠T:=λa c q=>by
  rw [q,f] at a
  cases a
  exact c ts h
 refine Qd (oe:=oe) (vs:=vs) (a0:=a0) fr (G.of_keeps λb o a c=>⟨o,?_,rfl⟩) j ?_ (λb o a=>?_) ne gd (Array.getElem?_eq_some_iff.mp n).1 p x λg v u t r=>k g v u t λb o a c=>?_
 ·exact (d b (i a c)).trans a
 ·exact (d e w.symm).trans l
 ·exact (d b λq=>by rw [q,gB] at a;cases a).trans (st b o a)
 ·exact r b o ((d b (i a c)).trans a) c
theorem Y4 (fr:A.frames=some (env::outer)) (G:s.heap.FunFrames B (env::outer)) (z:env.frame=some L) (j:OnT s.heap B e cls a0 .none) (st:B.StaysIn s.heap) (ne:B.get? e=none)
  (k:∀g,B.StaysIn g->g.FunFrames B (env::outer)->OnT g B e cls a0 .none->s.heap.UpToSlots g->Q () { s with heap:=g }):aA M A (nA env (.ref e)) Q E s:=by
 unfold nA
 refine af (XS fr G z j st ne λg m l i h=>?_)
 exact yf (s:={ s with heap:=g }) m l i λq f d c a=>k q f d c (h.trans λb o p n=>⟨o.slots,a b o p n⟩)
theorem Xj (fr:A.frames=some (env::outer)) (z:env.frame=some L) (st:B.StaysIn h) (G:h.FunFrames B (env::outer)) (j:nc h s.heap e cls U)
  (k:∀g t,B.StaysIn g->g.FunFrames B (env::outer)->OnT g B e cls (.ref t) .none->B.get? e=none->s.heap.UpToSlots g->Q () { s with heap:=g }):aA M A (nA env (.ref e)) Q E s:=by
 obtain ⟨t,c,w,y⟩:=j.there
 have new:B.get? e=none:=by
  cases q:B.get? e with
  | none=>rfl
  | some o =>
   have:=st e o q
   rw [j.new] at this
   cases this
 unfold nA iV
 simp only [z]
 refine af (af (c0 (x:=.none) c rfl rfl ?_))
 rw [if_neg ⋯]
 refine Qd (a0:=.ref t) fr (G.of_keeps λb o a _=>⟨o,j.keeps b o a,rfl⟩) z c (λb o a=>j.keeps b o (st b o a)) new rfl (by simp) ⟨rfl,rfl⟩ rfl λg r p n m=>?_
 exact yf (s:={ s with heap:=g }) r p n λv l i f d=>k v t l i f new (m.trans λb o a u=>⟨o.slots,d b o a u⟩)
end
end L2
end
section
namespace L2
open PySem.W
structure Fly (g:Heap) (H:Hp) (h:Heap) (a:Addr) (cls fl:ak):Prop where
 na:g.get? a=none
 ha:H a=none
 ob:∃oe vs T oT ts a0,h.get? a=some oe/\(oe.cls=cls/\Two vs a0/\oe.dict=none)/\oe.data = .fields vs/\vs[1]? = some (.ref T)/\g.get? T=none/\H T=none/\T≠a/\h.get? T=some oT/\oT.data = .fields ts/\ts[3]? = some fl
theorem Fly.mono {g':Heap}(f:Fly g H h a cls fl) (l:∀b o,g'.get? b=some o->∃o',g.get? b=some o'):Fly g' H h a cls fl:=by
 have no:∀{b},g.get? b=none->g'.get? b=none:=λ{b} e=>by
  cases q:g'.get? b with
  | none=>rfl
  | some o =>
   obtain ⟨o',c⟩:=l b o q
   rw [e] at c
   cases c
 obtain ⟨i,d,T,j,ts,a0,h1,h2,p,n,m,k⟩:=f.ob
 exact ⟨no f.na,f.ha,i,d,T,j,ts,a0,h1,h2,p,n,no m,k⟩
noncomputable def CX1 (P:Program) (w:bA):CXT:=λouter H s E e s' =>
 ∃a cls H',e = .ref a/\s'.os=s.os/\il s'.gens/\Un (frs outer) [] H H' s.heap s'.heap/\HOk P w H' s'.heap/\Fly s.heap H' s'.heap a cls .none/\E cls none H'
noncomputable def xK (X:Cx) (pins:List (Addr×Obj)) (σ:St) (H':Hp) (s1:Shared) (a:Addr) (cls fl:ak):Prop :=
 ∃s H,Inv X pins σ H s/\s1.os=s.os/\il s1.gens/\Un (frs X.stack) [] H H' s.heap s1.heap/\HOk X.prog X.w H' s1.heap/\Fly s.heap H' s1.heap a cls fl
theorem ko (x:qa P w H h a o):∃ob,h.get? a=some ob:=by
 cases o with
 | lst xs=>obtain ⟨_,_,_,_,e⟩:=x;exact ⟨_,e⟩
 | tup xs=>obtain ⟨_,_,_,ob,e,_⟩:=x;exact ⟨_,e⟩
 | dK kvs=>obtain ⟨_,_,_,_,ob,_,_,e,_⟩:=x;exact ⟨_,e⟩
 | dT kvs=>obtain ⟨_,_,_,_,ob,_,_,e,_⟩:=x;exact ⟨_,e⟩
 | set S n=>obtain ⟨ob,_,_,_,e,_⟩:=x;exact ⟨_,e⟩
 | ins C dx fs=>obtain ⟨_,_,_,e,_⟩:=x;exact ⟨_,e⟩
 | own y=>exact x
 | xd fs=>obtain ⟨_,⟨_,_,_,e,_⟩,_⟩:=x;exact ⟨_,e⟩
 | rng lo hi=>obtain ⟨_,_,_,e⟩:=x;exact ⟨_,e⟩
 | frz ob u=>obtain ⟨e,_⟩:=x;exact ⟨_,e⟩
 | tbl ps=>exact ⟨_,(show h.get? a=some _ from x)⟩
 | met f y=>exact ⟨_,(show h.get? a=some _ from x)⟩
 | ext φ=>obtain ⟨_,e,_⟩:=x;exact e
section
variable {X:Cx}{pins:List (Addr×Obj)}{σ:St}{H H':Hp}{s s1:Shared}{a:Addr}{cls fl:ak}
theorem xK.inv (f:xK X pins σ H' s1 a cls fl):Inv X pins σ H' s1:=by
 obtain ⟨s,H,I,os,b,u,ok,c⟩:=f
 exact I.call' os u ok b (λb z=>absurd z (by simp))
theorem xK.fly (j:X.ex=[]) (f:xK X pins σ H' s1 a cls fl):Fly X.s₀.heap H' s1.heap a cls fl:=by
 obtain ⟨s,H,I,os,b,u,ok,d⟩:=f
 exact d.mono λc o e=>I.base.there c o e (by rw [j];exact λz=>by cases z)
theorem xK.under (f:xK X pins σ H' s1 a cls .none):∃B a0,(B.StaysIn s1.heap/\B.get? a=none/\s1.heap.FunFrames B X.stack/\OnT s1.heap B a cls a0 .none) /\
  ∀h2 fl2,B.StaysIn h2->s1.heap.UpToSlots h2->OnT h2 B a cls a0 fl2->xK X pins σ H' { s1 with heap:=h2 } a cls fl2:=by
 have Z:=f.inv
 obtain ⟨s,H,I,os,b,u,ok,t⟩:=f
 obtain ⟨oe,vs,T,oT,ts,a0,h1,h2,S,h4,R,Q,h7,P,O,U⟩:=t.ob
 have fr:=Z.stack
 have fs:∀b∈frs X.stack,b≠a/\b≠T:=λb hb=>by
  obtain ⟨_,o,i,x⟩:=fr.mem hb
  refine ⟨λz=>?_,λz=>?_⟩
  ·rw [z,h1] at i;cases i;exact x _ S
  ·rw [z,P] at i;cases i;exact x _ O
 have L:∀env∈X.stack,∀c,env.frame=some c->c∈a::T::frs X.stack:=λenv he c l=>aD _ (aD _ (List.mem_filterMap.mpr ⟨env,he,l⟩))
 have j:∀{c o},s1.heap.get? c=some o->c≠a->c≠T->c∉frs X.stack->(hideAll s1.heap (a::T::frs X.stack)).get? c=some o:=λe n1 n2 n3 =>
  hideAll_get _ e (by simp only [eW,not_or];exact ⟨n1,n2,n3⟩)
 refine ⟨hideAll s1.heap (a::T::frs X.stack),a0,⟨λb o q=>of_hideAll _ q,hideAll_none _ (.head _),sA fr L,oe,vs,T,oT,ts,h1,h2,S,h4,hideAll_none _ (.tail _ (.head _)),h7,P,O,U⟩,λhp fl2 st A tr=>?_⟩
 have lo:∀{c o},s.heap.get? c=some o->c≠a/\c≠T:=λ{c o} e=>⟨λz=>(by rw [z,t.na] at e;cases e),λz=>(by rw [z,R] at e;cases e)⟩
 have k:∀{c o},s1.heap.get? c=some o->c∈frs X.stack->∀vs,o.data≠.fields vs:=λe l=>by
  obtain ⟨_,o',i,x⟩:=fr.mem l
  rw [e] at i;cases i;exact x
 refine ⟨s,H,I,os,b,⟨λc o e n K h=>?_,λc o e n g h=>?_,λc o e n h=>u.free c o e n h,λc o e h=>?_,u.tups,u.frzs,u.tbls⟩,λc o l=>?_,?_⟩
 ·exact st _ _ (j (u.keep c o e n K h) (lo e).1 (lo e).2 K)
 ·obtain ⟨sl,m⟩:=u.slot c o e n g h
  obtain ⟨p,v⟩:=A c _ m (k m g)
  exact ⟨p,v⟩
 ·obtain ⟨o1,m⟩:=u.there c o e h
  by_cases g:c∈frs X.stack
  ·obtain ⟨p,v⟩:=A c _ m (k m g)
   exact ⟨_,v⟩
  ·exact ⟨o1,st _ _ (j m (lo e).1 (lo e).2 g)⟩
 ·refine (ok c o l).stay (λc' o' M e=>?_) (λ_ e=>e) λ_ _ e=>e
  have r:H' c'≠none:=by
   rcases M with z | z
   ·rw [z,l];exact λy=>by cases y
   ·rw [z];exact λy=>by cases y
  exact st _ _ (j e (λz=>r (by rw [z];exact t.ha)) (λz=>r (by rw [z];exact Q)) λz=>r (Z.stkFree _ z))
 ·obtain ⟨G,D,d,J,E,g1,g2,g3,g4,g5,Y,C,V,g9⟩:=tr
  have key:d=T\/s1.heap.get? d=none:=by
   cases q:s1.heap.get? d with
   | none=>exact .inr rfl
   | some o =>
    refine .inl ?_
    by_cases N:d=T
    ·exact N
    ·by_cases g:d∈frs X.stack
     ·obtain ⟨p,v⟩:=A d _ q (k q g)
      rw [v] at C
      cases C
      exact absurd V (k q g _)
     ·have:=j q Y N g
      rw [g5] at this
      cases this
  refine ⟨t.na,t.ha,G,D,d,J,E,a0,g1,g2,g3,g4,?_,?_,Y,C,V,g9⟩
  ·rcases key with z | z
   ·rw [z];exact R
   ·cases q:s.heap.get? d with
    | none=>rfl
    | some o =>
     obtain ⟨o',w⟩:=u.there d o q (by simp)
     rw [z] at w
     cases w
  ·rcases key with z | z
   ·rw [z];exact Q
   ·cases q:H' d with
    | none=>rfl
    | some o =>
     obtain ⟨o',w⟩:=ko (ok d o q)
     rw [z] at w
     cases w
theorem xK.leave {Q:Unit->Shared->Prop}(f:xK X pins σ H' s1 a cls .none) (st:X.stack=X.env::X.outer) (j:X.env.frame=some X.env.locals)
  (k:∀h2,xK X pins σ H' { s1 with heap:=h2 } a cls .none->Q () { s1 with heap:=h2 }):aA ↥2 X.A (nA X.env (.ref a)) Q E s1:=by
 obtain ⟨B,a0,b,c⟩:=f.under
 have fr:X.A.frames=some (X.env::X.outer):=by rw [<- st];exact f.inv.ok.frames
 rw [st] at b
 obtain ⟨m,l,i,h⟩:=b
 exact Y4 fr i j h m l λh2 g n e d=>k h2 (c h2 .none g d e)
theorem QY {Q:Unit->Shared->Prop}(I:Inv X pins σ H s) (G:nc s.heap h1 a cls vs) (st:X.stack=X.env::X.outer) (U:X.env.frame=some X.env.locals)
  (k:∀h2,xK X pins σ H { s with heap:=h2 } a cls .none->Q () { s with heap:=h2 }):aA ↥2 X.A (nA X.env (.ref a)) Q E { s with heap:=h1 }:=by
 have fr:X.A.frames=some (X.env::X.outer):=by rw [<- st];exact I.ok.frames
 have j:=I.stack
 have x:∀env∈X.stack,∀c,env.frame=some c->c∈frs X.stack:=λenv V c d=>List.mem_filterMap.mpr ⟨env,V,d⟩
 have i:=sA j x
 have m:∀{c o},s.heap.get? c=some o->c∈frs X.stack->∀vs,o.data≠.fields vs:=λe d=>by
  obtain ⟨_,o',C,l⟩:=j.mem d
  rw [e] at C;cases C;exact l
 rw [st] at i
 refine Xj (s:={ s with heap:=h1 }) (B:=hideAll s.heap (frs (X.env::X.outer))) (h:=s.heap) fr U (λb o q=>of_hideAll _ q) i G λh2 t N b2 L b3 O=>?_
 rw [<- st] at L N
 obtain ⟨P,ws,T,R,ts,g1,g2,g3,g4,K,Z,u,J,Y⟩:=L
 have g:∀{c o},s.heap.get? c=some o->c∉frs X.stack->h2.get? c=some o:=λe n=>N _ _ (hideAll_get _ e n)
 have f:∀{c o},s.heap.get? c=some o->c∈frs X.stack->∃p,h2.get? c=some { o with slots:=p }:=λ{c o} e d=>O c o (G.keeps _ _ e) (m e d)
 have v:s.heap.get? T=none:=by
  cases q:s.heap.get? T with
  | none=>rfl
  | some o =>
   exfalso
   by_cases d:T∈frs X.stack
   ·obtain ⟨p,e⟩:=f q d
    rw [e] at u
    cases u
    exact m q d _ J
   ·rw [hideAll_get _ q d] at K
    cases K
 have l:∀{c},s.heap.get? c=none->H c=none:=λ{c} e=>by
  cases q:H c with
  | none=>rfl
  | some o =>
   obtain ⟨o',M⟩:=ko (I.hok c o q)
   rw [e] at M
   cases M
 refine k h2 ⟨s,H,I,rfl,I.bare,⟨λc o e n S r=>g e S,λc o e n U r=>f e U,λc o e n r=>n,λc o e r=>?_,λ_ _ e=>e,λ_ _ _ e=>e,λc ps e=>⟨#[],by rw [e];simp⟩⟩,λc o d=>?_,G.new,l G.new,P,ws,T,R,ts,.ref t,g1,g2,g3,g4,v,l v,Z,u,J,Y⟩
 ·by_cases d:c∈frs X.stack
  ·obtain ⟨p,e2⟩:=f e d
   exact ⟨_,e2⟩
  ·exact ⟨o,g e d⟩
 ·refine (I.hok c o d).stay (λc' o' D e=>?_) (λ_ e=>e) λ_ _ e=>e
  refine g e λz=>?_
  have:=I.stkFree _ z
  rcases D with y | y
  ·rw [y,d] at this;cases this
  ·rw [y] at this;cases this
end
noncomputable def Acc (X:Cx) (J:ak->St->Hp->Prop):Prop:=∀(pins:List (Addr×Obj)) (σ:St) (H':Hp) (s1:Shared) (a:Addr) (cls:ak),xK X pins σ H' s1 a cls .none->J cls σ H'->X.xe (.ref a) s1
noncomputable def Ut (sp:Sp) (J:ak->St->Hp->Prop) (t:TA):TE:=λσ H Q=>t σ H λa H1=>sp a H1 Q λcls _ H'=>J cls σ H'
structure CalX (P:Program) (w:bA) (K:ag) (mg:Str->Option ak) (base:Heap) (k:Nat) (x:Str) (ps:List Str) (sp:Sp):Prop where
 ex:∃f fd,FnOk P w K mg base (CX1 P w) k f fd ps sp/\zW K fd ps []/\mg x=some (.ref f)/\c7 K (.ref f)=true
theorem y8 {X:Cx}{k:Nat}{e:Expr}{es:List Expr}(c:CalX X.prog X.w X.K X.mg X.base k x ps sp) (U:Room k X.A) (ac:Acc X J) (Y:Gl X x) (ha:PA X (e::es) t)
  (G: ↥24=false:=by decide) (he:aN (e::es) X.env=↥31::aN es X.env:=by rfl) (z: (↥66).any (·.1)=false:=by rfl) :
  PE X ↥70 (Ut sp J t):=by
 obtain ⟨f,fd,F,y,n,v⟩:=c.ex
 intro pins s σ H Q I h
 refine cK (yR I Y n ?_ G)
 refine eN (h₀:=X.base) I.ok.mod.kin v (thn ↥50 λi s1 ⟨m,H1,g,r,q⟩=>⟨g.kIn,?_⟩) he z
 have o:i.length=ps.length:=by rw [<- r.length];exact F.len _ _ _ _ q
 have l:=y s1 i g.kIn (by rw [b0];exact o)
 rw [b0] at l
 refine m6 (dU (F.run X.A X.stack s1 H1 ⟨i,[]⟩ i m Q _ U g.env0 l r q) λr s' d=>?_)
 cases r with
 | error e =>
  obtain ⟨a,cls,H',rfl,os,b,u,ok,B,j⟩:=d
  exact ac pins σ H' s' a cls ⟨s1,H1,g,os,b,u,ok,B⟩ j
 | ok fl =>
  cases fl with
  | ret u=>exact g.after d
  | next=>exact bJ d
  | brk=>exact bJ d
  | cont=>exact bJ d
theorem CalX.cal {w:bA}{K:ag}{mg:Str->Option ak}{base:Heap}{k:Nat}{x:Str}{sp:Sp}(c:CalX P w K mg base k x ps sp):Cal P w K mg base k x ps (λvs H Q _=>sp vs H Q E0):=by
 obtain ⟨f,fd,F,b,n,o⟩:=c.ex
 refine ⟨f,fd,⟨λvs H Q E h=>F.len vs H Q E0 h,λA outer s H d g vs Q E m p b i l=>dU (F.run A outer s H d g vs Q E0 m p b i l) λr s' q=>?_⟩,b,n,o⟩
 cases r with
 | error e =>
  obtain ⟨a,cls,H',_,_,_,_,_,_,j⟩:=q
  exact bJ j
 | ok fl =>
  cases fl with
  | ret u=>exact q
  | next=>exact q
  | brk=>exact q
  | cont=>exact q
theorem qX {K:ag}{E:XK} :
  Acc (vj (CX1 P w) P w K mg base N z scope f G A outer s H E) λcls _ H'=>E cls none H':=by
 intro pins σ H' s1 a cls fl j
 refine xK.leave (X:=vj (CX1 P w) P w K mg base N z scope f G A outer s H E) fl rfl rfl λh2 b=>?_
 exact ⟨a,cls,H',rfl,b.inv.os,b.inv.bare,b.inv.base,b.inv.hok,b.fly rfl,j⟩
noncomputable def WH (X:Cx) (J:ak->St->Hp->Prop):Prop:=∀(pins:List (Addr×Obj)) (σ:St) (H:Hp) (s:Shared) (h1:Heap) (a:Addr) (cls:ak) (b:List ak),Inv X pins σ H s->nc s.heap h1 a cls b->J cls σ H->X.xe (.ref a) { s with heap:=h1 }
theorem zw {K:ag}{E:XK} :
  WH (vj (CX1 P w) P w K mg base N z scope f G A outer s H E) λcls _ H'=>E cls none H':=by
 intro pins σ H' s1 h1 a cls d I c j
 refine QY (X:=vj (CX1 P w) P w K mg base N z scope f G A outer s H E) I c rfl rfl λh2 b=>?_
 exact ⟨a,cls,H',rfl,b.inv.os,b.inv.bare,b.inv.base,b.inv.hok,b.fly rfl,j⟩
theorem U2 {K:ag}{j:String}(X:K.In h) (q:excIn K C z j=true) :
  ∃bm N nm q bs hdct sn sub ab col dd k0 k1 k2 k3 k5 mN,h.get? C=some (excClassObj nm q C N bs bm hdct sn sub ab col dd k0 k1 k2 k3 k5 j)/\h.Ns N mN/\mN "__init__" = none/\OwnTail h z bm:=by
 unfold excIn at q
 split at q
 ·rename_i dd o b g
  split at q
  ·rename_i s bm k0 k1 k2 k3 n k5 c es
   simp only [bz,beq_iff_eq,Bool.not_eq_true'] at q
   obtain ⟨⟨⟨⟨⟨rfl,rfl⟩,e⟩,m⟩,a⟩,d⟩:=q
   obtain ⟨nm,bs,p,ns,f,i,sn,sub,ab,col,r⟩:=o
   dsimp only at c e a d
   subst c e
   have k:b = #[k0,k1,k2,k3,some (.builtin n),k5]:=by obtain ⟨l⟩:=b;simp only at es;rw [es]
   subst k
   exact ⟨bm,ns,nm,f,bs,i,sn,sub,ab,col,dd,k0,k1,k2,k3,k5,_,X _ _ g,.of_isNs (isNs_of_in X a),nsMap_none_of_in X a d,tail_of_in X m⟩
  ·cases q
 ·cases q
theorem xR {X:Cx}{e:Expr}{es:List Expr}{t:TA}{C:Addr}{B z G:String}{J:ak->St->Hp->Prop}(FB:ExcBaseFacts B z G ai) (O:excIn X.K C ai z=true) (hm:X.mg x=some (.ref C)) (hc:X.calm=true) (am:WH X J)
  (hg:Gl X x) (ha:PA X (e::es) t) (ac: ↥24=false:=by decide) (U:aN (e::es) X.env=↥31::aN es X.env:=by rfl) (Y:(ck cpos (aN es X.env)).any (·.1)=false:=by rfl) :
  PS X (.Raise (some (.Call (.Name x np) (e::es) [] cpos)) none pos) (λD σ H=>t σ H λvs H1=>vs.length<=sizeLine/\J (.ref C) σ H1):=by
 intro pins s σ H D I h
 obtain ⟨bm,N,nm,q,bs,hdct,sn,sub,ab,col,dd,k0,k1,k2,k3,k5,mN,k,i,c,T⟩:=U2 I.ok.mod.kin O
 have h':=ha cpos pins s σ H _ I h
 rw [U] at h'
 refine wpAny_Raise_call_subT (C:=C) (nm:=nm) (q:=q) (N:=N) (bs:=bs) (bm:=bm) (hdct:=hdct) (sn:=sn) (sub:=sub) (ab:=ab) (col:=col) (dd:=dd) (k0:=k0) (k1:=k1) (k2:=k2) (k3:=k3) (k5:=k5)
  FB (mN:=mN) (T.hasType FB.hasBase) (I.ok.hd hc) (by rw [U];show (false || (ck cpos (aN es X.env)).any (·.1))=false;rw [Y];rfl) c (yR I hg hm ⟨rfl,?_⟩ ac)
 rw [U]
 refine iA (thn h' λl d ⟨vs,H2,b,r,g,j⟩=>⟨rfl,by rw [<- r.length];exact g,b.bk _ _ k,i.keeps b.bk,T.keeps b.bk,λh1 a f=>am pins σ H2 d h1 a (.ref C) _ b f j⟩)
theorem Fun.okX {w:bA}{K:ag}{mg:Str->Option ak}{base:Heap}{x:Str}{st:Stmt}{N:List Str}{k:Nat}{sp:Sp}(F:Fun K x z st f fd) (S:FnScope N ps (j8 st)) (len:∀vs H Q E,sp vs H Q E->vs.length=ps.length)
  (G:∀(j:ak) (A:bI) (outer:List Env) (s:Shared) (H:Hp) (vs:List V) (Q:VK) (E:XK),Room k (A.deeper (lI z (j8 st) s.heap.objs.size f j))->sp vs H Q E ->
   ∃t,PSs (vj (CX1 P w) P w K mg base N z (j8 st) f j A outer s H E) (jR st) t/\t { nx:=λ_ H'=>Q .non H',rt:=Q } (start N vs) H):FnOk P w K mg base (CX1 P w) (k+1) f fd ps sp:=by
 obtain ⟨h,g,kV,doc,pm,l,j,i,e,rfl,c,b⟩:=F.ex
 exact Yw c b S len λA outer s H vs Q E d a=>G j A outer s H vs Q E d a
theorem CalX.mk' {w:bA}{K:ag}{mg:Str->Option ak}{base:Heap}{k:Nat}{x:Str}{ps:List Str}{st:Stmt}{f:Addr}{oc:ak}{od U:Option Addr}{Y:Array (Option ak)}{kV doc pm j z:ak}
  (X:K.In h) (G:h.Ns mainGlobals mg) (a:aY K mainGlobals x=some (some (.ref f)))
  (l:K.lookup f=some ⟨oc,od,.func ↥69,Y⟩) (c:cS K j x=true) (k':c7 K (.ref f)=true)
  (hb:∀(kV doc pm:ak) (U:Option Addr) (j z:ak) (us:List ak),us.length=ps.length->cR ↥69 ⟨us,[]⟩=pure (ps.zip us))
  (ok:∀{f:Addr} {fd:FuncData},Fun K x x st f fd->FnOk P w K mg base (CX1 P w) k f fd ps sp):CalX P w K mg base k x ps sp:=by
 have F:=vy (st:=st) l c k'
 exact ⟨f,_,ok F,F.binds hb,bB X G a,k'⟩
end L2
end
section
namespace L2
open PySem.W
noncomputable abbrev Cx.atP (X:Cx) (pn:List (Addr×Obj)):Cx:={ X with pn:=pn }
noncomputable abbrev Cx.tryX (X:Cx) (pn:List (Addr×Obj)) (J:ak->St->Hp->Prop):Cx:={ X with pn:=pn,xe:=λe s1=>∃a cls b H',e = .ref a/\xK (X.atP pn) [] b H' s1 a cls .none/\J cls b H' }
noncomputable abbrev Cx.hand (X:Cx) (a:Addr):Cx:={ X with A:=X.A.mark (some (.ref a)),calm:=false,xe:=λ_ _=>False }
section
variable {X:Cx}{pins pn:List (Addr×Obj)}{σ:St}{H:Hp}{s:Shared}{J:ak->St->Hp->Prop}
theorem okP (ok:X.Ok) (Y:Cx) (h:Y={ X with pn:=Y.pn,xe:=Y.xe }):Y.Ok:=by
 rw [h]
 exact ⟨ok.mod,ok.kind,ok.glob,ok.blt,ok.above,ok.inj,ok.has,ok.cab,ok.hd,ok.frames,ok.stk,ok.exf,ok.bs,ok.bsz,ok.noex,ok.exfs,ok.funs,ok.frf⟩
theorem Inv.toTry (I:Inv X pins σ H s):Inv (X.tryX (X.pn++pins) J) [] σ H s :=
 ⟨okP I.ok _ rfl,I.os,I.bare,I.base,I.loc,I.cell,I.free,I.freeC,λp a=>I.pin p (by rw [b0] at a;exact a),I.hok,I.len⟩
theorem Inv.ofTry (I:Inv (X.tryX pn J) pins σ H s):Inv (X.atP pn) [] σ H s :=
 ⟨okP I.ok _ rfl,I.os,I.bare,I.base,I.loc,I.cell,I.free,I.freeC,λp a=>I.pin p (d9 _ (by rw [b0] at a;exact a)),I.hok,I.len⟩
theorem Inv.ofP (I:Inv (X.atP (X.pn++pins)) [] σ H s):Inv X pins σ H s :=
 ⟨okP I.ok _ rfl,I.os,I.bare,I.base,I.loc,I.cell,I.free,I.freeC,λp a=>I.pin p (by rw [b0];exact a),I.hok,I.len⟩
theorem Inv.ofTryP (I:Inv (X.tryX (X.pn++pins) J) [] σ H s):Inv X pins σ H s:=Inv.ofP (Inv.ofTry I)
theorem Inv.toHand (a:Addr) (I:Inv X pins σ H s):Inv (X.hand a) pins σ H s :=
 ⟨⟨I.ok.mod,I.ok.kind,I.ok.glob,I.ok.blt,I.ok.above,I.ok.inj,I.ok.has,I.ok.cab,(λz=>(by cases z)),I.ok.frames,I.ok.stk,I.ok.exf,I.ok.bs,I.ok.bsz,I.ok.noex,I.ok.exfs,I.ok.funs,I.ok.frf⟩,I.os,I.bare,I.base,I.loc,I.cell,I.free,I.freeC,I.pin,I.hok,I.len⟩
theorem Inv.ofHand (j:X.calm=true->X.A.handled=none) (I:Inv (X.hand a) pins σ H s):Inv X pins σ H s :=
 ⟨⟨I.ok.mod,I.ok.kind,I.ok.glob,I.ok.blt,I.ok.above,I.ok.inj,I.ok.has,I.ok.cab,j,I.ok.frames,I.ok.stk,I.ok.exf,I.ok.bs,I.ok.bsz,I.ok.noex,I.ok.exfs,I.ok.funs,I.ok.frf⟩,I.os,I.bare,I.base,I.loc,I.cell,I.free,I.freeC,I.pin,I.hok,I.len⟩
theorem UW {D:Ends}(g:∀{σ H},Inv Y j σ H s'->Inv X pins σ H s') (h:SP Y j D f s'):SP X pins D f s':=by
 cases f with
 | next=>obtain ⟨a,H',I,q⟩:=h;exact ⟨a,H',g I,q⟩
 | brk=>obtain ⟨a,H',I,q⟩:=h;exact ⟨a,H',g I,q⟩
 | cont=>obtain ⟨a,H',I,q⟩:=h;exact ⟨a,H',g I,q⟩
 | ret u=>obtain ⟨v,a,H',I,r,q⟩:=h;exact ⟨v,a,H',g I,r,q⟩
theorem Vd:Acc (X.tryX pn J) J:=by
 intro pins σ H' s1 a cls f j
 obtain ⟨s,H,I,os,b,u,ok,c⟩:=f
 exact ⟨a,cls,σ,H',rfl,⟨s,H,Inv.ofTry I,os,b,u,ok,c⟩,j⟩
end
noncomputable def tTry (K:ag) (C:Addr) (tb:(ak->St->Hp->Prop)->TS) (th:TS):TS:=λD σ H=>tb (λcls a H'=>exmOne K cls (.ref C)=some true/\th D a H') D σ H
theorem U8 {X:Cx}{j:List Stmt}{U:Stmt}{tb:(ak->St->Hp->Prop)->TS}(K:ag) (st:X.stack=X.env::X.outer) (hf:X.env.frame=some X.env.locals) (hm:X.mg x=some (.ref C)) (hg:Gl X x)
  (hb:∀(pn:List (Addr×Obj)) (J:ak->St->Hp->Prop),PSs (X.tryX pn J) body (tb J)) (Y:∀a:Addr,PSs (X.hand a) (U::j) th) (G: ↥24=false:=by decide) (hK:X.K=K:=by rfl) :
  PS X (.Try body [.ExceptHandler (some (.Name x np)) none (U::j) ab] [] [] pos) (tTry K C tb th):=by
 subst hK
 intro pins s σ H D I h
 refine wpAny_Try_except (bb (hb (X.pn++pins) _ [] s σ H D I.toTry h) (λf s1 q=>?_) λe s1 q=>?_)
 ·have i:SP X pins D f s1:=UW (λI=>Inv.ofTryP I) q
  cases f with
  | next=>exact fF i
  | brk=>exact i
  | cont=>exact i
  | ret u=>exact i
 ·obtain ⟨a,cls,d,H',rfl,fl,S,T⟩:=q
  have f:xK X pins d H' s1 a cls .none:=by
   obtain ⟨s,H,I,os,b,u,ok,fy⟩:=fl
   exact ⟨s,H,Inv.ofP I,os,b,u,ok,fy⟩
  obtain ⟨B,a0,c,p⟩:=f.under
  have fr:X.A.frames=some (X.env::X.outer):=by rw [<- st];exact I.ok.frames
  rw [st] at c
  refine XS fr c.2.2.1 hf c.2.2.2 c.1 c.2.1 λh2 L E y m=>?_
  refine yf (s:={ s1 with heap:=h2 }) L E y λh3 r O l N=>?_
  have k:s1.heap.UpToSlots h3:=m.trans λb o e n=>⟨o.slots,N b o e n⟩
  have f3:xK X pins d H' { s1 with heap:=h3 } a cls .none:=p h3 .none r k l
  have v:=f3.inv.toHand a
  refine wpAny_handleBy_cons (codeAny_handlers_test ?_) ↥36
  refine yR (X:=X.hand a) v hg hm ?_ G
  obtain ⟨oe,_,_,_,_,V,Z,_⟩:=id l
  have lt:Looks ↥2 h3 (oa (.ref a)) cls:=Z.1 ▸ (Looks.ld V).andThen .now
  refine exm_one (M:=aF X.prog X.w) v.kIn lt S _ _ _ _ (λ_ _ e=>e) ?_
  refine codeAny_handlers_suite ?_
  refine yf (s:={ s1 with heap:=h3 }) r O l λt R k2 Q P=>?_
  have f4:xK X pins d H' { s1 with heap:=t } a cls .none:=p t .none R (k.trans λb o e n=>⟨o.slots,P b o e n⟩) Q
  refine bb (Y a pins _ d H' D (f4.inv.toHand a) T) (λg s5 q=>?_) λ_ _ z=>bJ z
  exact UW (λJ=>Inv.ofHand I.ok.hd J) q
end L2
end
section
namespace L2
open PySem.W
section
variable {s:Shared}{A:bI}{prog:Program}{w:bA}{E:ak->Shared->Prop}
end
section
variable {X:Cx}
end
end L2
end
section
namespace L2
open PySem.W
end L2
end
section
namespace L2
open PySem.W
section
variable {X:Cx}{o e:Expr}{es:List Expr}{to:TE}{t:TA}{name:Str}{apos cpos:Pos}{id:String}{r:V->List V->Hp->VK->Prop}
end
end L2
end
section
namespace L2
open PySem.W
noncomputable abbrev wa (ifs:List Expr) (env:Env):Sem Bool:=tj ifs true λc r=>if r=true then do let ok <- isTrue c env (eval c env);pure (c8 ok) else pure (c8 r)
noncomputable abbrev xr (elt tg iter tg2 iter2:Expr) (ifs ifs2:List Expr) (scope:Scope) (pos:Pos):Expr:=.ListComp elt [⟨tg,iter,ifs,0⟩,⟨tg2,iter2,ifs2,0⟩] scope pos
theorem Zg (elt tg iter tg2 iter2:Expr) (ifs ifs2:List Expr) (scope:Scope) (pos:Pos) (it acc:ak) (env:Env) :
  oO ↥6 0 it acc env=(dQ iter.pos >>= λ_=>fS it >>= λr=>match r with
   | none=>pure (.done .next)
   | some v=>dj tg it v >>= λ_=>iF tg env v >>= λ_=>wa ifs env >>= λok =>
    (if ok=true then (eval iter2 env >>= λx=>dQ iter2.pos >>= λ_=>cQ iter2 env x >>= λx=>dG [x] (mO x) >>= λj=>runOwn (.compStart ↥6 1 j acc env) env >>= λ_=>again (.compLoop ↥6 0 it acc env))
     else again (.compLoop ↥6 0 it acc env))):=by
 rfl
theorem Yv (elt tg iter tg2 iter2:Expr) (ifs ifs2:List Expr) (scope:Scope) (pos:Pos) (it acc:ak) (env:Env) :
  oO ↥6 1 it acc env=(dQ iter2.pos >>= λ_=>fS it >>= λr=>match r with
   | none=>pure (.done .next)
   | some v=>dj tg2 it v >>= λ_=>iF tg2 env v >>= λ_=>wa ifs2 env >>= λok =>
    (if ok=true then ((eval elt env >>= λx=>call (.builtin "list.append") [acc,x] >>= λ_=>pure ()) >>= λ_=>again (.compLoop ↥6 1 it acc env))
     else again (.compLoop ↥6 1 it acc env))):=by
 rfl
section
variable {s:Shared}{A:bI}{prog:Program}{w:bA}{R:o8->Shared->Prop}{elt tg iter tg2 iter2:Expr}{ifs ifs2:List Expr}{scope:Scope}{pos:Pos}{it acc:ak}{env:Env}
theorem Y0 (I:Nat->Shared->Prop)
  (j:∀n s,I n s->aA (aF prog w) A (fS it) (λr G=>match r with
   | none=>R (.ok .next) G
   | some v=>aA (aF prog w) A (dj tg2 it v) (λ_ s₂=>aA (aF prog w) A (iF tg2 env v) (λ_ s₃=>aA (aF prog w) A (wa ifs2 env) (λok z =>
      if ok=true then aA (aF prog w) A (eval elt env) (λx Y=>aA (aF prog w) A (call (.builtin "list.append") [acc,x]) (λ_ U=>∃m,m<n/\I m U) (λ_ _=>False) Y) (λ_ _=>False) z
      else ∃m,m<n/\I m z) (λ_ _=>False) s₃) (λ_ _=>False) s₂) (λ_ _=>False) G) (λ_ _=>False) s)
  (n:Nat) (h:I n s):d7 (aF prog w) A (.compLoop ↥6 1 it acc env) R s:=by
 refine oN rfl I (λn s g=>?_) n h
 show aA _ A ((oO ↥6 1 it acc env).onRaise (λx=>do iV x env;mC x)) _ _ s
 refine pU ?_;rw [Yv]
 refine af (cN (af (bb (j n s g) (λr G b=>?_) λ_ _ h'=>h'.elim)))
 cases r with
 | none=>exact wpAny_pure b
 | some v =>
  refine af (bb b (λ_ s₂ f=>?_) λ_ _ h'=>h'.elim)
  refine af (bb f (λ_ s₃ e=>af (bb e (λok z a=>?_) λ_ _ h'=>h'.elim)) λ_ _ h'=>h'.elim)
  cases ok with
  | false=>exact wpAny_pure ⟨rfl,a⟩
  | true=>exact af (af (bb a (λx Y d=>af (bb d (λ_ U c=>wpAny_pure (wpAny_pure ⟨rfl,c⟩)) λ_ _ h'=>h'.elim)) λ_ _ h'=>h'.elim))
theorem ZG {R:o8->Shared->Prop}(z:d7 (aF prog w) A (.compLoop ↥6 1 it acc env) R s)
  (h:aA (aF prog w) A (mO it) (λj s'=>d7 (aF prog w) A (.compLoop ↥6 1 j acc env) R s') (λ_ _=>False) s) :
  d7 (aF prog w) A (.compStart ↥6 1 it acc env) R s:=by
 refine codeAny_of_tree ?_
 show aA _ _ ((compStart ↥6 1 it acc env).onRaise (λx=>do iV x env;dQ theWindowsPlace)) _ _ s
 refine wpAny_notedAt ?_;unfold compStart;show aA _ _ (ask >>= _) _ _ s
 refine af (wpAny_askSetting (wpAny_ite ?_))
 split
 ·first | exact af (wpAny_pure (wpAny_pure (fP rfl z))) | exact wpAny_pure (fP rfl z)
 ·first
   | exact af (fJ (af (cN (af (bb h (λj s' h'=>wpAny_pure (fP rfl h')) λ_ _ x=>x.elim)))))
   | (refine af (fJ ?_);show aA _ _ (dQ iter2.pos >>= _) _ _ s;exact af (cN (af (bb h (λj s' h'=>wpAny_pure (fP rfl h')) λ_ _ x=>x.elim))))
theorem ZL (I:Nat->Shared->Prop) (ab:∀x,cQ iter2 env x=pure x)
  (j:∀n s,I n s->aA (aF prog w) A (fS it) (λr G=>match r with
   | none=>R (.ok .next) G
   | some v=>aA (aF prog w) A (dj tg it v) (λ_ s₂=>aA (aF prog w) A (iF tg env v) (λ_ s₃=>aA (aF prog w) A (wa ifs env) (λok z =>
      if ok=true then aA (aF prog w) A (eval iter2 env) (λx Y=>aA (aF prog w) A (mO x) (λi2 U=>d7 (aF prog w) A (.compStart ↥6 1 i2 acc env) (λr s'=>match r with | .ok _=>∃m,m<n/\I m s' | .error _=>False) U) (λ_ _=>False) Y) (λ_ _=>False) z
      else ∃m,m<n/\I m z) (λ_ _=>False) s₃) (λ_ _=>False) s₂) (λ_ _=>False) G) (λ_ _=>False) s)
  (n:Nat) (h:I n s):d7 (aF prog w) A (.compLoop ↥6 0 it acc env) R s:=by
 refine oN rfl I (λn s k=>?_) n h
 show aA _ A ((oO ↥6 0 it acc env).onRaise (λx=>do iV x env;mC x)) _ _ s
 refine pU ?_;rw [Zg]
 refine af (cN (af (bb (j n s k) (λr G b=>?_) λ_ _ h'=>h'.elim)))
 cases r with
 | none=>exact wpAny_pure b
 | some v =>
  refine af (bb b (λ_ s₂ i=>?_) λ_ _ h'=>h'.elim)
  refine af (bb i (λ_ s₃ g=>af (bb g (λok z a=>?_) λ_ _ h'=>h'.elim)) λ_ _ h'=>h'.elim)
  cases ok with
  | false=>exact wpAny_pure ⟨rfl,a⟩
  | true =>
   refine af (bb a (λx Y d=>af (cN (af (n6 (ab x) (af (c5 (bb d (λi2 U c=>af (wpAny_runOwn ?_)) λ_ _ h'=>h'.elim))))))) λ_ _ h'=>h'.elim)
   rw [Around.mark_none]
   refine dU c λr s' q=>?_
   cases r with
   | ok f=>exact wpAny_pure ⟨rfl,q⟩
   | error e=>exact q.elim
end
noncomputable def kt (acc:Addr) (Y:TG) (G:TT) (te:TE) (z:It) (NX:St->Hp->Prop) (U:St) (H5:Hp):Prop :=
 ∃g:Nat->Nat->St->Hp->Prop,(∃m,g 0 m U H5)/\∀j m f c,g j m f c->(z.stop j c/\NX f c)\/(z.go j c/\∃a:St->Hp->Prop,(∀h b,a h b->∃k,k<m/\g (j+1) k h b) /\
  ∀y b,z.yld j c y b->Y y f b λd n=>G d n λi l=>if i=true then te d l λv e=>∃ys,e acc=some (.lst ys)/\ys.length<sizeLine/\a d (upd e acc (.lst (ys++[v]))) else a d l)
section
variable {X:Cx}{pos:Pos}
noncomputable def Uv (own:Nat) (caps:List Nat) (G:TI) (g:TG) (U:TT) (j:TI) (Y:TG) (z:TT) (te:TE):TE:=λσ H Q=>G σ H λJ H1=>∀acc,H1 acc=none ->
 ∃W:Nat->Nat->St->Hp->Prop,(∃m,W 0 m (ve own caps σ) (upd H1 acc (.lst [])))/\∀i m d H',W i m d H' ->
  (J.stop i H'/\Q (.ref acc) H') \/
  (J.go i H'/\∃b:St->Hp->Prop,(∀c H2,b c H2->∃e,e<m/\W (i+1) e c H2) /\
   ∀x H2,J.yld i H' x H2->g x d H2 λa l=>U a l λok f=>if ok=true then j a f λh k=>kt acc Y z te h b a k else b a f)
theorem Zc {scope:Scope}{own:Nat}{G:List (Str×Addr)}{tg elt iter tg2 iter2:Expr}{ifs ifs2:List Expr}{g2:TG}{ti a8:TT}{a6:TI}{te:TE}{H:Hp}{s:Shared}{fp:List Addr}{it:Addr}
    {Q:VK} {RR:ak->Addr->o8->Shared->Prop} {E:ak->Shared->Prop}
  (hc:X.calm=true) (S:CompSc osc ON scope own N caps) (db:X.env.scope=osc) (hN:X.N=ON) (dy:∀x,G.lookup x=if (x,bh)∈scope.names then X.env.cells.lookup x else none)
  (hg:∀G C s H ex,PG ↥53 tg g) (dg:∀G C s H ex,Jt ↥53 ifs ti) (dn:∀G C s H ex,PI ↥53 tg2 iter2 a6) (dt:∀G C s H ex,PG ↥53 tg2 g2) (b2:∀G C s H ex,Jt ↥53 ifs2 a8) (he:∀G C s H ex,PE ↥53 elt te) (dc:∀env x,cQ iter2 env x=pure x)
  (I:Inv X pins σ H s) (T:Turn X.prog X.w X.K tg J fp it tn) (st:tn 0 s.heap) (hf:∀b∈fp,ur X pins H b)
  (hw:∀acc,H acc=none->∃W:Nat->Nat->St->Hp->Prop,(∃m,W 0 m (ve own caps σ) (upd H acc (.lst [])))/\∀i m U H',W i m U H' ->
   (J.stop i H'/\Q (.ref acc) H')\/(J.go i H'/\∃NX:St->Hp->Prop,↥76 /\
    ∀x H2,J.yld i H' x H2->g x U H2 λY H3=>ti Y H3 λok H4=>if ok=true then a6 Y H4 λJ2 H5=>kt acc g2 a8 te J2 NX Y H5 else NX Y H4))
  (dF:∀(D C:Addr) (H':Hp) (s':Shared),Inv X pins σ H' s'->BlockAt X pins H' C->(∃m,s'.heap.Ns C m)->Q (.ref D) H'->RR (.ref D) C (.ok .next) s') :
  aA ↥2 X.A (rH []) (λacc s₃=>aA ↥2 X.A (rZ scope X.env.globals G [] X.env.qual none .none (some X.env)) (λa1 s₄ =>
   d7 ↥2 X.A (.compStart ↥6 0 (.ref it) acc { a1 with scope:=relabel scope X.env }) (RR acc a1.locals) s₄) E s₃) E s:=by
 have bm:∀b∈fp,b<s.heap.objs.size:=λb a=>by
  obtain ⟨o,e,_⟩:=T.obj _ _ st b a
  exact ax e
 refine c6 (mU S.nocell (by intro y hy;simp at hy) (λh₁ R l=>?_) S.kind)
 dsimp only at R l ⊢
 generalize an:s.heap.push { cls:=.type "list",dict:=none,data:=.seq ([]:List ak).toArray }=H2 at R l ⊢
 have ap:H2.objs.size=s.heap.objs.size+1:=by rw [<- an,bX]
 have bl:∀b o,s.heap.get? b=some o->h₁.get? b=some o:=λb o e=>l.extBut b o (aC (by rw [ap];exact bK (ax e))) (ah _ (an ▸ ah _ e))
 have eD:h₁.get? s.heap.objs.size=some { cls:=.type "list",data:=.seq #[] }:=l.extBut _ _ (aC ∅) (ah _ (an ▸ az _ rfl))
 have dp:H s.heap.objs.size=none:=I.hok.fresh (ar _)
 obtain ⟨W,⟨m0,w0⟩,bN⟩:=hw s.heap.objs.size dp
 have dd:h₁.Ns H2.objs.size λ_=>none:=R
 have I1:Inv ↥9 [] (ve own caps σ) (upd H s.heap.objs.size (.lst [])) { s with heap:=h₁,toks:=s.toks+([]:List (Str×ak)).length } :=
  uG S db hN dy I hf bm rfl ap bl eD dd _
 have be:tn 0 h₁:=T.keep 0 _ _ st λb _ o e=>bl b o e
 have aL:∀{H':Hp},↥71->∀b∈fp,ur ↥9 [] H' b:=λ{H'} hn b a=>by
  have ok:=I1.ok
  exact ⟨hn b a,(ok.exf b a).1,ok.exfs b a,.inl a,(ok.exf b a).2,λp hp=>absurd (show p∈([]:List (Addr×Obj)) from hp) (by simp)⟩
 have b5:∀{U:St} {H':Hp} {s':Shared},Inv ↥9 [] U H' s'->Q ↥16 H'->RR ↥16 H2.objs.size (.ok .next) s':=λ{U H' s'} J1 q=>by
  have J2:Inv X pins σ H' s':=I.call' (ch:=fp) J1.os J1.base J1.hok J1.bare λb a=>⟨(hf b a).2.2.2.1,(hf b a).2.1,(hf b a).2.2.2.2.1,(hf b a).2.2.2.2.2⟩
  obtain ⟨m,hm,_⟩:=J1.loc
  refine dF _ _ H' s' J2 ⟨J1.free,cz (aQ I.lt ∅),aI I.sz ∅,λx c e z=>?_,λp hp z=>?_⟩ ⟨m,hm⟩ q
  ·obtain ⟨v,y⟩:=I.cell x c e
   have h1:H2.objs.size<s.heap.objs.size:=z ▸ y.lt
   exact absurd h1 ∅
  ·have h1:H2.objs.size<s.heap.objs.size:=z ▸ ax (I.pin p hp).1
   exact absurd h1 ∅
 have am:∀s₃:Shared,s₃={ s with heap:=h₁,toks:=s.toks+([]:List (Str×ak)).length } ->
   d7 ↥2 X.A (.compLoop ↥6 0 (.ref it) ↥16 (rX scope G H2.objs.size X.env)) (RR ↥16 H2.objs.size) s₃:=by
  rintro s₃ rfl
  refine ZL (λn s'=>∃i U H',Inv ↥9 [] U H' s'/\tn i s'.heap/\ ↥71/\W i n U H') (dc _) ?_ m0
   ⟨0,_,_,I1,be,λb a=>by rw [j7 (aC (bm b a))];exact (hf b a).1,w0⟩
  rintro n s3 ⟨i,Y,H3,I3,bd,bn,w3⟩
  rcases bN i n Y H3 w3 with ⟨b1,qn⟩ | ⟨go,NX,dk,step⟩
  ·refine thn (T.done ↥9 rfl rfl rfl hc i [] s3 Y H3 _ I3 (aL bn) bd b1) λr s4 ⟨P,I4⟩=>?_
   subst P
   exact b5 I4 qn
  ·refine thn (T.item ↥9 rfl rfl rfl hc i [] s3 Y H3 _ I3 (aL bn) bd go) λr s4 ⟨u,P,h4⟩=>?_
   subst P
   refine thn h4 λ_ s5 ⟨x,H5,I5,r5,y5,ai,dD⟩=>?_
   have dT:=I5.pinned (aL dD) (T.obj _ _ ai)
   refine thn (hg G H2.objs.size s H fp _ s5 Y H5 x u _ dT r5 (step x H5 y5)) λ_ s6 ⟨σ6,H6,I6,q6⟩=>?_
   refine thn (dg G H2.objs.size s H fp _ s6 σ6 H6 _ I6 q6) λok s7 ⟨H7,I7,q7⟩=>?_
   have again:∀{s8:Shared} {σ8:St} {H8:Hp},Inv ↥9 ([]++zt fp s5.heap) σ8 H8 s8->NX σ8 H8->∃m,m<n/\∃i U H',Inv ↥9 [] U H' s8/\tn i s8.heap/\ ↥71/\W i m U H':=λ{s8 σ8 H8} I8 n8=>by
    obtain ⟨m',hm,w8⟩:=dk σ8 H8 n8
    refine ⟨m',hm,i+1,σ8,H8,I8.unpinned,T.keep _ _ _ ai λb a o e=>(I8.pin (b,o) (aM _ (aM _ (qN a e)))).1,λb a=>?_,w8⟩
    obtain ⟨o,e,d⟩:=T.obj _ _ ai b a
    exact (I8.pin (b,o) (aM _ (aM _ (qN a e)))).2.1
   cases ok with
   | false =>
    rw [if_neg au] at q7 ⊢
    exact again I7 q7
   | true =>
    rw [if_pos rfl] at q7 ⊢
    refine thn (dn G H2.objs.size s H fp _ s7 σ6 H7 _ I7 q7) λv s8 h8=>thn h8 λec s9 h9=>?_
    obtain ⟨da,B,a7,J2,H9,e,I9,T2,a9,f9,W2,⟨m2,w2⟩,a2⟩:=h9
    subst e
    have k:∀{H':Hp},(∀b∈B,H' b=none)->∀b∈B,ur ↥9 ([]++zt fp s5.heap) H' b:=λhn b a=>⟨hn b a,(f9 b a).2⟩
    have ac:d7 ↥2 X.A (.compLoop ↥6 1 (.ref da) ↥16 (rX scope G H2.objs.size X.env)) (λr s'=>match r with | .ok _=>∃m,m<n/\∃i U H',Inv ↥9 [] U H' s'/\tn i s'.heap/\ ↥71/\W i m U H' | .error _=>False) s9:=by
     refine Y0 (λn2 s'=>∃j U H',Inv ↥9 ([]++zt fp s5.heap) U H' s'/\a7 j s'.heap/\(∀b∈B,H' b=none)/\W2 j n2 U H') ?_ m2 ⟨0,_,_,I9,a9,λb a=>(f9 b a).1,w2⟩
     rintro n2 bk ⟨j,Z,a0,bs,al,as,cd⟩
     rcases a2 j n2 Z a0 cd with ⟨a3,c4⟩ | ⟨dx,bq,b3,a4⟩
     ·refine thn (T2.done ↥9 rfl rfl rfl hc j _ bk Z a0 _ bs (k as) al a3) λr cr ⟨P,d2⟩=>?_
      subst P
      exact again d2 c4
     ·refine thn (T2.item ↥9 rfl rfl rfl hc j _ bk Z a0 _ bs (k as) al dx) λr cr ⟨u2,P,ds⟩=>?_
      subst P
      refine thn ds λ_ bi ⟨x2,bv,d1,ct,ca,O,b4⟩=>?_
      have b6:=d1.pinned (k b4) (T2.obj _ _ O)
      refine thn (dt G H2.objs.size s H fp _ bi Z bv x2 u2 _ b6 ct (a4 x2 bv ca)) λ_ cm ⟨V,ea,d0,c1⟩=>?_
      refine thn (b2 G H2.objs.size s H fp _ cm V ea _ d0 c1) λc2 ci ⟨d3,br,ab⟩=>?_
      have L:∀{h:Shared} {t:St} {f:Hp},Inv ↥9 (([]++zt fp s5.heap)++zt B bi.heap) t f h->bq t f->∃m,m<n2/\∃j U H',Inv ↥9 ([]++zt fp s5.heap) U H' h/\a7 j h.heap/\(∀b∈B,H' b=none)/\W2 j m U H':=λ{h t f} M c9=>by
       obtain ⟨m',hm,cb⟩:=b3 t f c9
       refine ⟨m',hm,j+1,t,f,M.unpinned,T2.keep _ _ _ O λb a o e=>(M.pin (b,o) (aM _ (aM _ (qN a e)))).1,λb a=>?_,cb⟩
       obtain ⟨o,e,d⟩:=T2.obj _ _ O b a
       exact (M.pin (b,o) (aM _ (aM _ (qN a e)))).2.1
      cases c2 with
      | false =>
       rw [if_neg au] at ab ⊢
       exact L br ab
      | true =>
       rw [if_pos rfl] at ab ⊢
       refine thn (he G H2.objs.size s H fp _ ci V d3 _ br ab) λce h ⟨a5,f,M,cs,ys,dK,b9,cL⟩=>?_
       refine thn (qk _ h V f ↥16 [a5] _ [ce] (λ_ bt=>bq V bt) M rfl (.cons cs .nil) ⟨_,ys,a5,rfl,rfl,dK,b9,cL⟩) λ_ eb ⟨_,bt,dV,_,cy⟩=>?_
       exact L dV cy
    exact ZG ac (T2.self _ 0 _ _ _ a9 ac)
 exact mi (am _ rfl) (T.self _ 0 _ _ _ be (am _ rfl))
theorem Y6 {own:Nat}(S:CompSc osc ON scope own N caps)
  (hc:X.calm=true) (z:X.env.scope=osc) (hN:X.N=ON) (hi:PI X tg iter wi)
  (hg:∀j C s H ex,PG ↥32 tg g) (ac:∀j C s H ex,Jt ↥32 ifs ti) (ai:∀j C s H ex,PI ↥32 tg2 iter2 U) (al:∀j C s H ex,PG ↥32 tg2 g2) (G:∀j C s H ex,Jt ↥32 ifs2 Y) (he:∀j C s H ex,PE ↥32 elt te)
  (hs:∀x,cQ iter X.env x=pure x:=by intro _;rfl) (ab:∀env x,cQ iter2 env x=pure x:=by intro _ _;rfl):PE X (.ListComp elt [⟨tg,iter,ifs,0⟩,⟨tg2,iter2,ifs2,0⟩] scope pos) (Uv own caps wi g ti U g2 Y te):=by
 intro pins s σ H Q I h
 obtain ⟨j,a,d⟩:=vx (Xf S z I)
 rw [sP]
 refine fD (use:=none) rfl hs a S.kind S.loc (thn (hi pins s σ H _ I h) λv s1 h1=>thn h1 λo r h2=>?_)
 obtain ⟨it,fp,p,J,H2,e,n,T,b,k,f⟩:=h2
 subst e
 refine Zc (RR:=λacc C=>tu ↥2 X.A X.xe none ↥51 acc C) hc S z hN d hg ac ai al G he ab n T b k f λD C H' s' l B ⟨m,i⟩ q=>?_
 exact ⟨m,i,λh' c=>⟨.ref D,H',B.gone l c,rfl,q⟩⟩
end
end L2
end
section
namespace L2
open PySem.W
structure CalM (P:Program) (w:bA) (K:ag) (mg:Str->Option ak) (base:Heap) (k:Nat) (C:Addr) (m:Str) (ps:List Str) (sp:Sp):Prop where
 ex:∃f fd,FnOk P w K mg base CX0 k f fd ps sp/\zW K fd ps []/\Meth K C m f
structure CalMX (P:Program) (w:bA) (K:ag) (mg:Str->Option ak) (base:Heap) (k:Nat) (C:Addr) (m:Str) (ps:List Str) (sp:Sp):Prop where
 ex:∃f fd,FnOk P w K mg base (CX1 P w) k f fd ps sp/\zW K fd ps []/\Meth K C m f
section
variable {X:Cx}{k:Nat}{f C:Addr}{fd:FuncData}{ps:List Str}{sp:Sp}{x m:Str}{p pos apos:Pos}{e o:Expr}{es:List Expr}{ta:TE}{t:TA}{J:ak->St->Hp->Prop}
theorem We {pins:List (Addr×Obj)}{σ:St}{s:Shared}{Q:VK}{us:List ak}(F:FnOk X.prog X.w X.K X.mg X.base (CX1 X.prog X.w) k f fd ps sp) (z:Room k X.A) (G:zW X.K fd ps []) (U:Acc X J)
  (I:Inv X pins σ H s) (r:ju vs us) (h:sp vs H Q λcls _ H'=>J cls σ H'):aA ↥2 X.A (call (.ref f) us) ↥51 X.xe s:=by
 have g:us.length=ps.length:=by rw [<- r.length];exact F.len _ _ _ _ h
 have d:=G s us I.kIn (by rw [b0];exact g)
 rw [b0] at d
 refine m6 (dU (F.run X.A X.stack s H ⟨us,[]⟩ us vs Q _ z I.env0 d r h) λr s' c=>?_)
 cases r with
 | error e =>
  obtain ⟨a,cls,H',rfl,os,b,u,ok,i,j⟩:=c
  exact U pins σ H' s' a cls ⟨s,H,I,os,b,u,ok,i⟩ j
 | ok fl =>
  cases fl with
  | ret u=>exact I.after c
  | next=>exact bJ c
  | brk=>exact bJ c
  | cont=>exact bJ c
theorem pe_m (he:PE X o ta) (c:Cls X.K C) (cm:CalM X.prog X.w X.K X.mg X.base k C m ps sp) (Y:Room k X.A) (ha:PA X (e::es) t)
  (z:aN (e::es) X.env=↥31::aN es X.env:=by rfl) (G: (↥66).any (·.1)=false:=by rfl)
  (U:eval ↥45 X.env=(do let j <- eval o X.env;dQ apos.atName;let (f,first) <- dG [j] (ie j m pl);lR pos f first (ck pos (aN (e::es) X.env)) ↥114):=by rfl) :
  PE X ↥45 (XX C m sp [] E0 ta t):=by
 obtain ⟨f,fd,F,b,a⟩:=cm.ex
 exact V6 he c a F Y b .nil YL ha z G U
theorem VP (U:PE X o ta) (c:Cls X.K C) (Y:CalM X.prog X.w X.K X.mg X.base k C m ps sp) (G:Room k X.A)
  (z:eval ↥110 X.env=(do let j <- eval o X.env;dQ apos.atName;let (f,first) <- dG [j] (ie j m pl);lR pos f first (ck pos (aN [] X.env)) ↥114):=by rfl) :
  PE X ↥110 (XX C m sp [] E0 ta gU):=by
 obtain ⟨f,fd,F,b,a⟩:=Y.ex
 exact YA U c a F G b .nil YL z
inductive tMethXI (C:Addr) (m:Str) (sp:Sp) (J:ak->St->Hp->Prop) (t:TA) (σ:St) (Q:VK) (x:V) (H1:Hp):Prop
 | mk (a:_) (dx:_) (fs:_) (zz1:x = .ref a) (zz2:H1 a=some ↥113) (zz3:fs.lookup m=none) (zz4:t σ H1 λvs H2=>sp (x::vs) H2 Q λcls _ H'=>J cls σ H')
noncomputable def Ux (C:Addr) (m:Str) (sp:Sp) (J:ak->St->Hp->Prop) (ta:TE) (t:TA):TE:=λσ H Q=>ta σ H λx H1=>tMethXI C m sp J t σ Q x H1
theorem zU (he:PE X o ta) (c:Cls X.K C) (cm:CalMX X.prog X.w X.K X.mg X.base k C m ps sp) (Y:Room k X.A) (ac:Acc X J) (ha:PA X (e::es) t)
  (z:aN (e::es) X.env=↥31::aN es X.env:=by rfl) (G: (↥66).any (·.1)=false:=by rfl)
  (U:eval ↥45 X.env=(do let j <- eval o X.env;dQ apos.atName;let (f,first) <- dG [j] (ie j m pl);lR pos f first (ck pos (aN (e::es) X.env)) ↥114):=by rfl) :
  PE X ↥45 (Ux C m sp J ta t):=by
 obtain ⟨f,fd,F,p,b⟩:=cm.ex
 intro pins s σ H Q I h
 refine eY (pl:=pl) (thn (he pins s σ H _ I h) λu s1 ⟨x,H1,g,i,a,dx,fs,ex,v,l,q⟩=>?_) U
 subst ex
 obtain rfl:u=aV a:=i
 refine yt g v c b l ?_
 refine eN (first:=[.ref a]) (h₀:=X.base) I.ok.mod.kin b.kp (thn (ha pos pins s1 σ H1 _ g q) λus y ⟨vs,H2,d,r,n⟩=>⟨d.kIn,?_⟩) z G
 exact We (us:=.ref a::us) (vs:=.ref a::vs) F Y p ac d (.cons rfl r) n
structure MakX (P:Program) (w:bA) (K:ag) (mg:Str->Option ak) (base:Heap) (k:Nat) (C:Addr) (x:Str) (ps:List Str) (sp:Sp):Prop where
 ex:∃f fd,FnOk P w K mg base (CX1 P w) k f fd ps sp/\zW K fd ps []/\Mk K C f/\mg x=some (.ref C)
noncomputable def UQ (C:Addr) (sp:Sp) (J:ak->St->Hp->Prop) (t:TA):TE:=λσ H Q=>t σ H λa H1=>∀x dx,H1 x=none->H1 dx=none->dx≠x ->
 sp (.ref x::a) (upd (upd H1 dx (.own x)) x (.ins C dx [])) (λv H2=>v = .non/\Q (.ref x) H2) λcls _ H'=>J cls σ H'
theorem Vw (c:MakX X.prog X.w X.K X.mg X.base k C x ps sp) (U:Room (k+1) X.A) (ac:Acc X J) (Y:Gl X x) (ha:PA X (e::es) t) (G: ↥24=false:=by decide) (he:aN (e::es) X.env=↥31::aN es X.env:=by rfl) (z: (↥66).any (·.1)=false:=by rfl) :
  PE X ↥70 (UQ C sp J t):=by
 obtain ⟨f,fd,F,N,M,E⟩:=c.ex
 intro pins y σ H0 Q m O
 refine cK (yR m Y E ?_ G)
 refine eN (h₀:=X.base) m.ok.mod.kin M.kp (thn (ha pos pins y σ H0 _ m O) λg s ⟨q,H,I,r,h⟩=>⟨I.kIn,?_⟩) he z
 have o:=h ↥13 s.heap.objs.size (I.hok.fresh (fN _)) (I.hok.fresh (ar _)) (aC (d5 _))
 have i:=Inv.made (C:=C) I
 have n:ju (V.ref ↥13::q) (aV ↥13::g):=.cons rfl r
 have L:(aV ↥13::g).length=ps.length:=by rw [<- n.length];exact F.len _ _ _ _ o
 have l:=N { s with heap:=_ } (aV ↥13::g) i.kIn (by rw [b0];exact L)
 rw [b0] at l
 refine m6 (Yx (f:=f) I.kIn M.makes M.init (beq_iff_eq.mp M.fn) (dU (F.run _ X.stack _ _ ⟨aV ↥13::g,[]⟩ (aV ↥13::g) _ _ _ (U.make C g []) (i.env0.make C g []) l n o) λr s' d=>?_))
 cases r with
 | error e =>
  obtain ⟨a,cls,H',rfl,os,b,u,ok,P,j⟩:=d
  exact ac pins σ H' s' a cls ⟨_,_,i,os,b,u,ok,P⟩ j
 | ok fl =>
  cases fl with
  | ret u =>
   obtain ⟨v,H',S,B,R,D⟩:=i.after d
   subst R
   exact ⟨B,⟨V.ref ↥13,H',S,rfl,D⟩⟩
  | next=>exact bJ d
  | brk=>exact bJ d
  | cont=>exact bJ d
theorem qB {f:Str}(K:ag) (j:PE X e ta) (z:dY e f X.env (eval e X.env)=eval e X.env:=by rfl) (G:X.K=K:=by rfl):PE X (.Attribute e f pos) (Ww K ta f):=by subst G;exact UL j z
theorem vL {f:Str}(K:ag) (G:PE X o ta) (j:PE X value tv) (z:iU value (some (.Attribute o f pos')) pos.line X.env=pure false:=by rfl) (U:X.K=K:=by rfl):PS X (.Assign [.Attribute o f pos'] value pos) (Wd K ta tv f):=by subst U;exact UF G j z
end
theorem UU {K:ag}{xs:List V}{U:TG}{G:TT}{te:TE}{Y:St->Hp->Prop}{σ:St}{H:Hp}(Pv:Nat->St->Hp->Prop) (h0:Pv 0 σ H) (hl:∀i σ H,i<=xs.length->Pv i σ H->SqT K H a xs)
  (hs:∀i x σ H,xs[i]? = some x->Pv i σ H->U x σ H λj H3=>G j H3 λok H4=>if ok=true then te j H4 λv H5=>∃ys,H5 acc=some (.lst ys)/\ys.length<sizeLine/\Pv (i+1) j (upd H5 acc (.lst (ys++[v]))) else Pv (i+1) j H4)
  (hd:∀σ H,Pv xs.length σ H->Y σ H):kt acc U G te (Itt K a) Y σ H:=by
 refine ⟨λi m σ H=>m=xs.length-i/\i<=xs.length/\Pv i σ H,⟨xs.length,by simp,aT _,h0⟩,λi m σ H z=>?_⟩
 obtain ⟨rfl,hi,p⟩:=z
 have q:=hl i σ H hi p
 by_cases b:i<xs.length
 ·refine .inr ⟨⟨xs,xs[i],q,by simp [b]⟩,Pv (i+1),λd H' c=>⟨xs.length-(i+1),∅,rfl,b,c⟩,λx H' y=>?_⟩
  obtain ⟨e,y⟩:=y
  subst e
  exact hs i x σ _ (y xs q) p
 ·obtain rfl:i=xs.length:=∅
  exact .inl ⟨⟨xs,q,ar _⟩,hd σ H p⟩
theorem Zw {K:ag}{acc:Addr}{xs:List V}{g g2:TG}{ti Y:TT}{U:TI}{te:TE}{R:Hp->Prop}{σ:St}{H:Hp}(Pv:Nat->St->Hp->Prop) (h0:Pv 0 σ H) (hl:∀i σ H,i<=xs.length->Pv i σ H->SqT K H a xs)
  (hs:∀i x σ H,xs[i]? = some x->Pv i σ H->g x σ H λj H3=>ti j H3 λok G=>if ok=true then U j G λJ2 H5=>kt acc g2 Y te J2 (Pv (i+1)) j H5 else Pv (i+1) j G)
  (hd:∀σ H,Pv xs.length σ H->R H) :
  ∃W:Nat->Nat->St->Hp->Prop,↥72/\∀i m σ' H',W i m σ' H' ->
   ((Itt K a).stop i H'/\R H')\/((Itt K a).go i H'/\∃NX:St->Hp->Prop,↥76 /\
    ∀x H2,(Itt K a).yld i H' x H2->g x σ' H2 λj H3=>ti j H3 λok G=>if ok=true then U j G λJ2 H5=>kt acc g2 Y te J2 NX j H5 else NX j G):=by
 refine ⟨λi m σ H=>m=xs.length-i/\i<=xs.length/\Pv i σ H,⟨xs.length,by simp,aT _,h0⟩,λi m σ H z=>?_⟩
 obtain ⟨rfl,hi,p⟩:=z
 have q:=hl i σ H hi p
 by_cases b:i<xs.length
 ·refine .inr ⟨⟨xs,xs[i],q,by simp [b]⟩,Pv (i+1),λσ' H' c=>⟨xs.length-(i+1),∅,rfl,b,c⟩,λx H' y=>?_⟩
  obtain ⟨e,y⟩:=y
  subst e
  exact hs i x σ _ (y xs q) p
 ·obtain rfl:i=xs.length:=∅
  exact .inl ⟨⟨xs,q,ar _⟩,hd σ H p⟩
theorem J9 :Acc X λ_ _ _=>False:=λ_ _ _ _ _ _ _ z=>z.elim
end L2
end
section
namespace L2
open PySem.W
inductive gN (K:ag) (n:Str) (s:Stmt):Prop
 | mk {f:Addr} {oc kV dc pm cd ct:ak} {od an:Option Addr} {sl:Array (Option ak)} (a:nsIn K mainGlobals n=some (some (.ref f))) (l:K.lookup f=some ⟨oc,od,.func (fnOf n n (jX s) (jR s) (j8 s) .none kV dc pm an cd ct),sl⟩) (c:codeIn K cd n=true) (k:keepIn K (.ref f)=true)
inductive gM (K:ag) (C:Addr) (m q:Str) (s:Stmt):Prop
 | mk {f:Addr} {oc kV dc pm cd ct:ak} {od an:Option Addr} {sl:Array (Option ak)} (a:findIn K (.ref C) m=some (some (.ref f))) (i:isFn K (.ref f)=true) (l:K.lookup f=some ⟨oc,od,.func (fnOf m q (jX s) (jR s) (j8 s) .none kV dc pm an cd ct),sl⟩) (c:codeIn K cd q=true) (k:keepIn K (.ref f)=true)
structure gE (K:ag) (n:Str) (C:Addr):Prop where
 e:nsIn K mainGlobals n=some (some (.ref C))
 x:excIn K C [.type "ValueError",.type "Exception",.type "BaseException",.type "object"] "ValueError.__new__" = true
 m:exmOne K (.ref C) (.ref C)=some true
noncomputable abbrev gB (x q:Str) (st:Stmt) (ps:List Str):Prop:=∀(kV doc pm:ak) (d:Option Addr) (b c:ak) (a:List ak),a.length=ps.length->cR (fnOf x q (jX st) (jR st) (j8 st) .none kV doc pm d b c) ⟨a,[]⟩=pure (ps.zip a)
inductive Zt (P:Program) (w:bA) (K:ag) (mg:Str->Option ak) (base:Heap):Prop
 | mk {h:Heap} (X:K.In h) (G:h.Ns mainGlobals mg)
section
variable {P:Program}{w:bA}{K:ag}{mg:Str->Option ak}{base:Heap}{k:Nat}{x q:Str}{ps:List Str}{sp:Sp}{st:Stmt}{C:Addr}
theorem gN.cal (a:gN K x st) (z:Zt P w K mg base) (j:gB x x st ps)
  (ok:∀{f:Addr} {fd:FuncData},Fun K x x st f fd->FnOk P w K mg base CX0 k f fd ps sp):Cal P w K mg base k x ps sp:=by
 obtain ⟨a,l,c,b⟩:=a
 obtain ⟨X,G⟩:=z
 exact Cal.mk' X G a l c b j ok
theorem gN.calX (a:gN K x st) (z:Zt P w K mg base) (j:gB x x st ps)
  (ok:∀{f:Addr} {fd:FuncData},Fun K x x st f fd->FnOk P w K mg base (CX1 P w) k f fd ps sp):CalX P w K mg base k x ps sp:=by
 obtain ⟨a,l,c,b⟩:=a
 obtain ⟨X,G⟩:=z
 exact CalX.mk' X G a l c b j ok
theorem gM.cal (a:gM K C x q st) (z:Zt P w K mg base) (j:gB x q st ps)
  (ok:∀{f:Addr} {fd:FuncData},Fun K x q st f fd->FnOk P w K mg base CX0 k f fd ps sp):CalM P w K mg base k C x ps sp:=by
 obtain ⟨a,i,l,c,b⟩:=a
 have F:=vy (st:=st) l c b
 exact ⟨_,_,ok F,F.binds j,⟨a,i,b⟩⟩
theorem gM.calX (a:gM K C x q st) (z:Zt P w K mg base) (j:gB x q st ps)
  (ok:∀{f:Addr} {fd:FuncData},Fun K x q st f fd->FnOk P w K mg base (CX1 P w) k f fd ps sp):CalMX P w K mg base k C x ps sp:=by
 obtain ⟨a,i,l,c,b⟩:=a
 have F:=vy (st:=st) l c b
 exact ⟨_,_,ok F,F.binds j,⟨a,i,b⟩⟩
theorem gM.mak (a:gM K C "__init__" q st) (z:Zt P w K mg base) (m:makesIn K C=true) (j:keepIn K (.ref C)=true) (n:nsIn K mainGlobals y=some (some (.ref C))) (U:gB "__init__" q st ps)
  (ok:∀{f:Addr} {fd:FuncData},Fun K "__init__" q st f fd->FnOk P w K mg base (CX1 P w) k f fd ps sp):MakX P w K mg base k C y ps sp:=by
 obtain ⟨a,i,l,c,b⟩:=a
 obtain ⟨X,G⟩:=z
 have F:=vy (st:=st) l c b
 exact ⟨_,_,ok F,F.binds U,⟨m,a,i,j⟩,mg_of X G n⟩
end
theorem bnd1 {ps:List Str}{us:List ak}(j:us.length=1) (h:∀a,cR fd ⟨[a],[]⟩=pure (ps.zip [a])):cR fd ⟨us,[]⟩=pure (ps.zip us):=match us,j with | [a],_=>h a
theorem bnd2 {ps:List Str}{us:List ak}(j:us.length=2) (h:∀a b,cR fd ⟨[a,b],[]⟩=pure (ps.zip [a,b])):cR fd ⟨us,[]⟩=pure (ps.zip us):=match us,j with | [a,b],_=>h a b
theorem bnd3 {ps:List Str}{us:List ak}(j:us.length=3) (h:∀a b c,cR fd ⟨[a,b,c],[]⟩=pure (ps.zip [a,b,c])):cR fd ⟨us,[]⟩=pure (ps.zip us):=match us,j with | [a,b,c],_=>h a b c
theorem bnd4 {ps:List Str}{us:List ak}(j:us.length=4) (h:∀a b c d,cR fd ⟨[a,b,c,d],[]⟩=pure (ps.zip [a,b,c,d])):cR fd ⟨us,[]⟩=pure (ps.zip us):=match us,j with | [a,b,c,d],_=>h a b c d
theorem bnd5 {ps:List Str}{us:List ak}(j:us.length=5) (h:∀a b c d e,cR fd ⟨[a,b,c,d,e],[]⟩=pure (ps.zip [a,b,c,d,e])):cR fd ⟨us,[]⟩=pure (ps.zip us):=match us,j with | [a,b,c,d,e],_=>h a b c d e
theorem bnd6 {ps:List Str}{us:List ak}(j:us.length=6) (h:∀a b c d e f,cR fd ⟨[a,b,c,d,e,f],[]⟩=pure (ps.zip [a,b,c,d,e,f])):cR fd ⟨us,[]⟩=pure (ps.zip us):=match us,j with | [a,b,c,d,e,f],_=>h a b c d e f
end L2
end
section
namespace L2
open PySem.W
theorem Z4 {ta:TE}(K:ag) (G:PE X a ta) (z:∀j,isTrue a X.env j=(do let v <- j;dQ a.pos;dG [v] (tJ v)):=by intro _;rfl) (U:X.K=K:=by rfl) :
  PT X a (λσ H Q=>ta σ H λx H'=>∃k,UV K x H' k/\Q k H'):=by subst U;exact Ye G z
theorem iteP {c:Bool}{A B:Prop}(h:c=true) (k:A):if c=true then A else B:=by rw [if_pos h];exact k
end L2
end
section
namespace L2
end L2
namespace L2
section
variable (P:Program) (w:bA)
end
section
variable {P:Program}{w:bA}{H H':Hp}{h h':Heap}{a:Addr}{o:HO}
end
section
variable {P:Program}{w:bA}{H:Hp}{h h':Heap}{x e:Addr}{o':HO}
end
section
variable {fs fs' ex ex':List Addr}{H H1 H2:Hp}{h h1 h2 h':Heap}{a x e:Addr}{o:HO}
end
end L2
namespace L2
section
variable {X:Cx}{pins:List (Addr×Obj)}{σ:List (Option V)}{H H':Hp}{s:Shared}{h':Heap}
end
end L2
namespace L2
section
variable {X:Cx}
variable {a b:Expr}{ta tb:TE}{pos:Pos}
variable {tA tB':TT}{yM:List Expr}
end
end L2
namespace L2
section
variable {X:Cx}{pins:List (Addr×Obj)}{σ:St}{H:Hp}{s:Shared}{a:Addr}{xs ys:List V}
end
section
variable {X:Cx}{pins:List (Addr×Obj)}{σ:St}{H:Hp}{s:Shared}{E:ak->Shared->Prop}
end
section
variable {X:Cx}{st:Stmt}{yM:List Stmt}{t u:TS}{e:Expr}{te:TE}{pos:Pos}
end
section
variable {X:Cx}{pos:Pos}
end
section
variable {X:Cx}{pos:Pos}
end
end L2
namespace L2
section
variable {X:Cx}{tg:Expr}
end
end L2
namespace L2
section
variable {X:Cx}{a b c:Expr}{ta tb tc:TE}{pos:Pos}
end
section
variable {X:Cx}{a b c:Expr}{ta tb tc:TE}{pos:Pos}
end
end L2
namespace L2
section
variable {prog:Program}{w:bA}{A:bI}{E:ak->Shared->Prop}{s:Shared}{K:ag}{x dx C f:Addr}{mA:Str->Option ak}{name:Str}{v:ak}
end
section
variable {P:Program}{w:bA}{H H':Hp}{h h':Heap}{a C dx:Addr}{fs fs':List (Str×V)}
end
section
variable {X:Cx}{pins:List (Addr×Obj)}{σ:St}{H:Hp}{s:Shared}{a C dx:Addr}{fs:List (Str×V)}{f:Str}{v:V}{A:bI}{E:ak->Shared->Prop}
end
section
variable {X:Cx}{o e value:Expr}{f:Str}{pos pos' tpos:Pos}{ta tv:TE}
end
section
variable {X:Cx}{pins:List (Addr×Obj)}{σ:St}{H:Hp}{s:Shared}{A:bI}{E:ak->Shared->Prop}{Q:ak->Shared->Prop}{c:ak}{b:Bool}
end
end L2
namespace L2
section
variable {X:Cx}{e:Expr}{es:List Expr}{te:TE}{t:TA}{pos:Pos}
end
section
variable {X:Cx}{pins:List (Addr×Obj)}{σ:St}{H:Hp}{s s':Shared}
end
section
variable {X:Cx}{CX:CXT}{k:Nat}{f C:Addr}{fd:FuncData}{ps:List Str}{sp:Sp}{dvs:List V}{ds:List ak}{E:XK}{x m:Str}{p pos apos:Pos}{e o:Expr}{es:List Expr}{ta:TE}{t:TA}
end
section
variable {X:Cx}{CX:CXT}{k:Nat}{f C:Addr}{fd:FuncData}{ps ks:List Str}{sp:Sp}{E:XK}{x m:Str}{p pos apos kpos:Pos}{e o:Expr}{es:List Expr}{kws:List m7}{te ta:TE}{t tk:TA}{nm:Option Str}
variable {g:List ak->List ak->List ak}{gV:List V->List V->List V}
end
end L2
namespace L2
section
variable {X:Cx}{x:Str}{p pos:Pos}{e:Expr}{es:List Expr}{t:TA}{id T:String}{r:List V->Hp->VK->Prop}
end
end L2
namespace L2
section
variable {κ:Type} [DecidableEq κ]
noncomputable def qe (kvs:List (κ×V)) (k:κ):Option V:=(kvs.find? λa=>decide (a.1=k)).map (·.2)
noncomputable def qE (kvs:List (κ×V)) (k:κ) (v:V):List (κ×V) :=
 if (kvs.any λa=>decide (a.1=k))=true then kvs.map (λa=>if a.1=k then (a.1,v) else a) else kvs++[(k,v)]
theorem yH {k:κ}:qe ([]:List (κ×V)) k=none:=rfl
theorem zf {p:κ×V}{r:List (κ×V)}{k:κ}(e:p.1=k):qe (p::r) k=some p.2:=by simp [qe,eS,e]
theorem zq {p:κ×V}{r:List (κ×V)}{k:κ}(e:¬p.1=k):qe (p::r) k=qe r k:=by simp [qe,eS,e]
theorem wx (k:κ):∀kvs:List (κ×V),(kvs.any λj=>decide (j.1=k))=(qe kvs k).isSome
 | []=>rfl
 | p::r=>by
  rw [fC]
  by_cases e:p.1=k
  ·simp only [zf e,decide_eq_true e,Bool.true_or,Option.isSome_some]
  ·rw [zq e,decide_eq_false e,Bool.false_or];exact wx k r
theorem kU (k j:κ) (y:V):∀kvs:List (κ×V),qe kvs k=none->qe (kvs++[(k,y)]) j=if j=k then some y else qe kvs j
 | [],_=>by
  by_cases e:k=j
  ·rw [if_pos e.symm];exact zf (p:=(k,y)) e
  ·rw [if_neg (λz=>e z.symm)];exact zq (p:=(k,y)) e
 | p::r,a=>by
  rw [pI]
  have b:¬p.1=k:=λz=>by rw [zf z] at a;cases a
  rw [zq b] at a
  have c:=kU k j y r a
  by_cases e:p.1=j
  ·rw [zf e,zf e,if_neg (λz=>b (e.trans z))]
  ·rw [zq e,zq e,c]
theorem yF (kvs:List (κ×V)) (k:κ) (v:V):(qE kvs k v).length<=kvs.length+1:=by
 unfold qE
 split
 ·rw [aa];omega
 ·rw [ay,bc,rj];omega
theorem zV {k:κ}(v:V) (h:qe kvs k=none):qE kvs k v=kvs++[(k,v)]:=by
 unfold qE
 rw [wx,h]
 exact if_neg ⋯
theorem yA.isSome_eq (r:yA o u):o.isSome=u.isSome:=by
 cases o with
 | none=>cases u with
  | none=>rfl
  | some _=>exact (show False from r).elim
 | some _=>cases u with
  | none=>exact (show False from r).elim
  | some _=>rfl
theorem yA.getD (r:yA o u) (rd:jy d d'):jy (o.getD d) (u.getD d'):=by
 cases o with
 | none=>cases u with
  | none=>exact rd
  | some _=>exact (show False from r).elim
 | some _=>cases u with
  | none=>exact (show False from r).elim
  | some _=>exact r
theorem KV.val {kvs:List (κ×V)}(r:KV kvs vs) (k:κ):yA (qe kvs k) (nE vs k):=by
 unfold KV at r
 induction r with
 | nil=>exact dm
 | @cons p q ps qs h t c =>
  obtain ⟨h1,h2⟩:=h
  by_cases e:p.1=k
  ·have a:q.1=k:=h1.symm.trans e
   have b:nE (q::qs) k=some q.2:=by simp [nE,eS,a]
   rw [zf e,b];exact h2
  ·have a:¬q.1=k:=λz=>e (h1.trans z)
   have b:nE (q::qs) k=nE qs k:=by simp [nE,eS,a]
   rw [zq e,b];exact c
theorem KV.any {kvs:List (κ×V)}{vs:List (κ×ak)}(r:KV kvs vs) (k:κ):(kvs.any λj=>decide (j.1=k))=vs.any λj=>decide (j.1=k):=by
 unfold KV at r
 induction r with
 | nil=>rfl
 | cons h t a=>rw [fC,fC,a,h.1]
theorem KV.repl {kvs:List (κ×V)}(r:KV kvs vs) (k:κ) (G:jy y u) :
  KV (kvs.map λj=>if j.1=k then (j.1,y) else j) (vs.map λj=>if j.1=k then (j.1,u) else j):=by
 unfold KV at r ⊢
 induction r with
 | nil=>exact .nil
 | @cons p q ps qs h t a =>
  rw [aO,aO]
  refine .cons ?_ a
  obtain ⟨h1,h2⟩:=h
  by_cases e:p.1=k
  ·rw [if_pos e,if_pos (h1.symm.trans e)];exact ⟨h1,G⟩
  ·rw [if_neg e,if_neg (λz=>e (h1.trans z))];exact ⟨h1,h2⟩
theorem KV.put {kvs:List (κ×V)}(r:KV kvs vs) (k:κ) (j:jy y u):KV (qE kvs k y) (t6 vs k u):=by
 unfold qE t6
 rw [r.any k]
 by_cases e:(vs.any λa=>decide (a.1=k))=true
 ·rw [if_pos e,if_pos e];exact r.repl k j
 ·rw [if_neg e,if_neg e];exact cZ r ⟨rfl,j⟩
theorem KV.length {kvs:List (κ×V)}(r:KV kvs vs):kvs.length=vs.length:=aZ r
end
theorem wZ {k:Key}(r:jy (kV k) u):(jC P w).is k u=true:=by
 cases k with
 | inl i=>obtain ⟨t,e⟩:=(show ∃t,u=df i t from r);subst e;exact JD P w i t
 | inr x=>obtain ⟨t,e⟩:=(show ∃t,u=nv x t from r);subst e;exact Qn P w x t
theorem hE :∀{ks:List Key}{us:List ak},ju (ks.map kV) us->ItemsAre (jC P w) ks us
 | [],_,r=>by rw [mh] at r;cases r;exact .nil
 | k::ks,_,r=>by
  rw [aO] at r
  cases r with
  | cons h t=>exact .cons (wZ h) (hE t)
noncomputable abbrev KT (H:Hp):List (List Key×V)->List ↥130->Prop:=cJ λp q=>p.1=q.1/\H q.2.1=some (.tup (p.1.map kV))/\jy p.2 q.2.2
theorem KT.val {kvs:List (List Key×V)}{xs:List ↥130}(r:KT H kvs xs) (k:List Key):yA (qe kvs k) ((pX xs k).map (·.2)):=by
 induction r with
 | nil=>exact dm
 | @cons p q ps qs h t c =>
  obtain ⟨h1,_,h2⟩:=h
  by_cases e:p.1=k
  ·have a:q.1=k:=h1.symm.trans e
   have b:pX (q::qs) k=some q.2:=by simp [pX,eS,a]
   rw [zf e,b];exact h2
  ·have a:¬q.1=k:=λz=>e (h1.trans z)
   have b:pX (q::qs) k=pX qs k:=by simp [pX,eS,a]
   rw [zq e,b];exact c
theorem KT.repl {kvs:List (List Key×V)}{xs:List ↥130}(r:KT H kvs xs) (k:List Key) (G:jy y u) :
  KT H (kvs.map λj=>if j.1=k then (j.1,y) else j) (xs.map (putAt k u)):=by
 induction r with
 | nil=>exact .nil
 | @cons p q ps qs h t a =>
  rw [aO,aO]
  refine .cons ?_ a
  obtain ⟨h1,h2,b⟩:=h
  unfold putAt
  by_cases e:p.1=k
  ·rw [if_pos e,if_pos (h1.symm.trans e)];exact ⟨h1,h2,G⟩
  ·rw [if_neg e,if_neg (λz=>e (h1.trans z))];exact ⟨h1,h2,b⟩
theorem KT.put {kvs:List (List Key×V)}{xs:List ↥130}(r:KT H kvs xs) (k:List Key) {b:Addr}(z:H b=some (.tup (k.map kV))) (j:jy y u) :
  KT H (qE kvs k y) (storedH xs k b u):=by
 have e:(kvs.any λa=>decide (a.1=k))=(pX xs k).isSome:=by
  rw [wx,(r.val k).isSome_eq,oY]
 unfold qE storedH
 rw [e]
 by_cases q:(pX xs k).isSome=true
 ·rw [if_pos q,if_pos q];exact r.repl k j
 ·rw [if_neg q,if_neg q];exact cZ r ⟨rfl,z,j⟩
theorem KT.keeps {H':Hp}{kvs:List (List Key×V)}{xs:List ↥130}(r:KT H kvs xs) (j:∀b ys,H b=some (.tup ys)->H' b=some (.tup ys)):KT H' kvs xs :=
 Paired.mapP r λ_ _ z=>⟨z.1,j _ _ z.2.1,z.2.2⟩
section
variable {P:Program}{w:bA}{H:Hp}{h:Heap}{a:Addr}
theorem VO (ok:HOk P w H h) (e:Rd H a u):qa P w H h a u:=e.ok ok
theorem vR (ok:HOk P w H h) (e:Rd H a (.dK kvs)):kvs.length<=sizeLine/\(a == dX)=false/\∃vs,KV kvs vs/\h.DictOf (jC P w) a vs :=
 show qa P w H h a (.dK kvs) from VO ok e
theorem Y2 (ok:HOk P w H h) (e:H a=some (.dK kvs)):kvs.length<=sizeLine/\(a == dX)=false/\∃vs,KV kvs vs/\h.DictOf (jC P w) a vs:=vR ok (.inl e)
theorem wu {ks:List Key}(ok:HOk P w H h) (e:H a=some (.tup (ks.map kV))):(lN (jC P w)).is h ks a:=by
 obtain ⟨_,b,r,o,h1,h2,n,c⟩:=(show qa P w H h a (.tup (ks.map kV)) from ok a _ e)
 exact ⟨o,b.toArray,n,h1,h2,c,by simpa using hE r⟩
theorem gf (ok:HOk P w H h) (e:Rd H a (.dT kvs)):kvs.length<=sizeLine/\(a == dX)=false /\
  ∃xs,KT H kvs xs/\h.DictOfH (lN (jC P w)) a xs:=by
 obtain ⟨z,y,xs,r,o,es,i,h1,h2,g,f,d⟩:=(show qa P w H h a (.dT kvs) from VO ok e)
 refine ⟨z,y,xs,r,o,es,i,h1,h2,g,f,λx hx=>?_,d⟩
 have all:∀{l:List (List Key×V)} {m:List ↥130},KT H l m->∀x∈m,(lN (jC P w)).is h x.1 x.2.1:=by
  intro l m q
  induction q with
  | nil=>intro x hx;exact nomatch hx
  | @cons p q ps qs b t c =>
   intro x hx
   rcases List.mem_cons.mp hx with e | hx
   ·subst e
    exact wu ok (by rw [<- b.1];exact b.2.1)
   ·exact c x hx
 exact all r x hx
theorem WP (ok:HOk P w H h) (e:H a=some (.dT kvs)):kvs.length<=sizeLine/\(a == dX)=false /\
  ∃xs,KT H kvs xs/\h.DictOfH (lN (jC P w)) a xs:=gf ok (.inl e)
end
noncomputable def qA (H:Hp) (a:Addr) (y:V) (r:Option V):Prop :=
 (∃kvs k,Rd H a (.dK kvs)/\y=kV k/\r=qe kvs k)\/∃kvs k b,Rd H a (.dT kvs)/\y = .ref b/\H b=some (.tup (k.map kV))/\r=qe kvs k
noncomputable def wA (H:Hp) (a:Addr) (y v:V) (H':Hp):Prop :=
 (∃kvs k,H a=some (.dK kvs)/\y=kV k/\kvs.length<sizeLine/\H'=upd H a (.dK (qE kvs k v))) \/
 ∃kvs k b,H a=some (.dT kvs)/\y = .ref b/\H b=some (.tup (k.map kV))/\kvs.length<sizeLine/\H'=upd H a (.dT (qE kvs k v))
theorem qA.k {H:Hp}{kvs:List (Key×V)}{k:Key}(e:H a=some (.dK kvs)):qA H a (kV k) (qe kvs k):=.inl ⟨kvs,k,.inl e,rfl,rfl⟩
theorem wA.k {H:Hp}{kvs:List (Key×V)}{k:Key}(e:H a=some (.dK kvs)) (j:kvs.length<sizeLine):wA H a (kV k) v (upd H a (.dK (qE kvs k v))):=.inl ⟨kvs,k,e,rfl,j,rfl⟩
section
variable {X:Cx}{pins:List (Addr×Obj)}{σ:St}{H:Hp}{s:Shared}{a:Addr}{y v:V}{u r:ak}{o:Option V}{A:bI}{E:ak->Shared->Prop}
theorem Inv.big (I:Inv X pins σ H s):dX<s.heap.objs.size:=by
 have h:mainGlobals<s.heap.objs.size:=(I.mod.glob.keeps I.bk).lt
 exact Nat.lt_trans ⋯ h
theorem ZC {Q:ak->Shared->Prop}(U:A.units+1<cLine) (I:Inv X pins σ H s) (g:qA H a y (some v)) (G:jy y u) (h:∀j s',Inv X pins σ H s'->jy v j->Q j s') :
  aA ↥2 A (lB (.ref a) u) Q E s:=by
 rcases g with ⟨kvs,k,e,i,l⟩ | ⟨kvs,k,b,e,i,x,l⟩
 ·subst i
  obtain ⟨z,t,q,d,m⟩:=vR I.hok e
  obtain ⟨j,f,c⟩:=yA.some_of (v:=v) (o:=nE q k) (by rw [l];exact d.val k)
  exact wpAny_getItem_of (wZ G) m.mapOf f (h j _ (I.tok _) c)
 ·subst i
  cases (show u=aV b from G)
  obtain ⟨z,t,xs,d,m⟩:=gf I.hok e
  obtain ⟨j,f,c⟩:=yA.some_of (v:=v) (o:=(pX xs k).map (·.2)) (by rw [l];exact d.val k)
  obtain ⟨p,r,n⟩:=Option.map_eq_some_iff.mp f
  refine wpAny_getItem_heap (fK U) (wu I.hok x) m r ?_
  rw [n]
  exact h j _ (I.tok _) c
theorem d_in {Q:ak->Shared->Prop}(G:A.units+1<cLine) (I:Inv X pins σ H s) (g:qA H a y o) (j:jy y u) (h:∀s',Inv X pins σ H s'->Q (.bool o.isSome) s') :
  aA ↥2 A (cn .In u (.ref a)) Q E s:=by
 rcases g with ⟨kvs,k,e,f,l⟩ | ⟨kvs,k,b,e,f,m,l⟩
 ·subst f
  obtain ⟨z,d,n,c,i⟩:=vR I.hok e
  refine wpAny_in_of (wZ j) d i.mapOf ?_
  rw [<- (c.val k).isSome_eq,<- l]
  exact h _ (I.tok _)
 ·subst f
  cases (show u=aV b from j)
  obtain ⟨z,d,xs,c,i⟩:=gf I.hok e
  refine wpAny_in_heap (fK G) (wu I.hok m) d i ?_
  have q:=(c.val k).isSome_eq
  rw [oY] at q
  rw [<- q,<- l]
  exact h _ (I.tok _)
theorem gQ {t':Nat}(I:Inv X pins σ H s) (G:Mut (H a)) (U:eM a s.heap h') (Y:∃q,h'.get? a=some q) (new:qa X.prog X.w (upd H a j) h' a j) :
  Inv X pins σ (upd H a j) { s with heap:=h',toks:=t' } :=
 I.write (x:=a) (e:=a) G (.inl rfl) (λb q c z=>(U.2 b c).trans z) Y new
theorem Xo {h':Heap}{kvs:List (Key×V)}(z:kvs.length<=sizeLine) (G:(a == dX)=false) (j:KV kvs vs) (dd:h'.DictOf (jC P w) a vs) :
  qa P w H' h' a (.dK kvs):=⟨z,G,vs,j,dd⟩
theorem ZS {Q:Unit->Shared->Prop}(Y:A.units+1<cLine) (I:Inv X pins σ H s) (g:wA H a y v H') (G:jy y u) (U:jy v r) (h:∀s',Inv X pins σ H' s'->Q () s') :
  aA ↥2 A (sY (.ref a) u r) Q E s:=by
 rcases g with ⟨kvs,k,e,p,l,t⟩ | ⟨kvs,k,b,e,p,C,l,t⟩
 ·subst p t
  obtain ⟨z,o,D,d,x⟩:=Y2 I.hok e
  have j:D.length<=sizeLine:=by rw [<- d.length];exact z
  have n:(qE kvs k v).length<=sizeLine:=by have:=yF kvs k v;omega
  refine wpAny_setItem_pairs (hsz:=j) (wZ G) x λh' f m=>h _ ?_
  have J:∃q,h'.get? a=some q:=let ⟨q,_,_,i,_⟩:=f;⟨q,i⟩
  exact gQ I (by rw [e];exact dm) m J (Xo n o (d.put k U) f)
 ·subst p t
  cases (show u=aV b from G)
  obtain ⟨z,o,xs,d,x⟩:=WP I.hok e
  have j:xs.length<=sizeLine:=by rw [<- aZ d];exact z
  have n:(qE kvs k v).length<=sizeLine:=by have:=yF kvs k v;omega
  refine wpAny_setItem_heap (hsz:=j) (fK Y) (wu I.hok C) x λh' f m=>h _ ?_
  obtain ⟨q,es,N,i,h2,M,L,_,K⟩:=f
  refine gQ I (by rw [e];exact dm) m ⟨q,i⟩ ⟨n,o,_,(d.put k C U).keeps λc ys B=>?_,q,es,N,i,h2,M,L,K⟩
  rw [j7 (jm B e ↥93)]
  exact B
end
section
variable {X:Cx}{pins:List (Addr×Obj)}{σ:St}{H:Hp}{s:Shared}{a:Addr}{kvs:List (Key×V)}{k:Key}{u:ak}{A:bI}{E:ak->Shared->Prop}
end
noncomputable def Wi (i:Expr):Prop:=∀a b,mS i false a b=operate [a,b] (lB a b)
theorem VB {prog:Program}{w:bA}{A:bI}{E:ak->Shared->Prop}{s:Shared}{env:Env}{value j:Expr}{pos:Pos}{T id:String}{Q:ak->Shared->Prop}
  (U:rT (.type T) "__getitem__" = pure (some (.builtin id))) (G:Wi j)
  (h:aA (aF prog w) A (eval value env) (λo z=>aA (aF prog w) A (eval j env) (λi s₂=>s₂.TypeIs o T/\aA (aF prog w) A (lB o i) Q E s₂) E z) E s) :
  aA (aF prog w) A (eval (.Subscript value j pos) env) Q E s:=by
 refine m8 (bb h (λo z f=>bb f (λi s₂ b=>?_) λ_ _ x=>x) λ_ _ x=>x)
 obtain ⟨d,b⟩:=b
 unfold ip
 refine af ?_
 rw [getitemInPython_of_ne d.not_modules]
 refine af (wpAny_specialOf d U ?_)
 have a:aA (aF prog w) A (mS j false o i) (λr c=>aA (aF prog w) A (letTemporaryGo value o r >>= λ_=>pure r) Q E c) E s₂:=by
  rw [G o i]
  exact wpAny_operating (bb b (λr c e=>af (wpAny_letTemporaryGo (wpAny_pure e))) λ_ _ x=>x)
 first
  | exact wpAny_pure (af a)
  | exact af (wpAny_pure (af a))
  | exact af a
theorem JK (I:Inv X pins σ H s) (g:qA H a y o):s.TypeIs (.ref a) "dict":=by
 rcases g with ⟨kvs,k,e,_,_⟩ | ⟨kvs,k,b,e,_,_,_⟩
 ·obtain ⟨_,_,d,_,c⟩:=vR I.hok e
  exact c.typeIs
 ·obtain ⟨_,_,xs,_,c⟩:=gf I.hok e
  exact c.typeIs
inductive tDGetI (Q:VK) (x:V) (y:V) (H2:Hp):Prop
 | mk (a:_) (v:_) (zz1:x = .ref a) (zz2:qA H2 a y (some v)) (zz3:Q v H2)
noncomputable def VU (td ty:TE):TE:=λσ H Q=>td σ H λx H1=>ty σ H1 λy H2=>tDGetI Q x y H2
inductive tDInI (Q:VK) (y:V) (x:V) (H2:Hp):Prop
 | mk (a:_) (o:_) (zz1:x = .ref a) (zz2:qA H2 a y o) (zz3:Q (.bl o.isSome) H2)
noncomputable def tDIn (ty td:TE):TE:=λσ H Q=>ty σ H λy H1=>td σ H1 λx H2=>tDInI Q y x H2
inductive sDPutI (D:Ends) (σ:St) (v:V) (x:V) (y:V) (H3:Hp):Prop
 | mk (a:_) (H4:_) (zz1:x = .ref a) (zz2:wA H3 a y v H4) (zz3:D.nx σ H4)
noncomputable def Wz (td ty tv:TE):TS:=λD σ H=>tv σ H λv H1=>td σ H1 λx H2=>ty σ H2 λy a=>sDPutI D σ v x y a
section
variable {X:Cx}{o i e value:Expr}{pos pos' tpos:Pos}{td ty tv:TE}
theorem jw (z:X.A.units+1<cLine) (U:PE X o td) (hi:PE X i ty) (G:Wi i):PE X (.Subscript o i pos) (VU td ty):=by
 intro pins s σ H Q I h
 refine VB PySem.F.slot_dict_getitem.lookup G (thn (U pins s σ H _ I h) λu s1 ⟨x,H1,l,e,j⟩=>thn (hi pins s1 σ H1 _ l j) λq p ⟨y,H2,c,d,a,v,ex,g,f⟩=>?_)
 subst ex
 obtain rfl:u=aV a:=e
 exact ⟨JK c g,ZC z c g d λm n k b=>⟨v,H2,k,b,f⟩⟩
theorem UT (j:X.A.units+1<cLine) (hi:PE X i ty) (z:PE X o td):PC X .In i o (tDIn ty td):=by
 intro pins s σ H Q I h
 refine thn (hi pins s σ H _ I h) λq s1 ⟨y,H1,m,b,e⟩=>thn (z pins s1 σ H1 _ m e) λu p ⟨x,H2,l,c,a,f,ex,g,d⟩=>?_
 subst ex
 obtain rfl:u=aV a:=c
 exact d_in j l g b λn k=>⟨.bl f.isSome,H2,k,rfl,d⟩
theorem yn (G:X.A.units+1<cLine) (Y:PE X o td) (hi:PE X i ty) (z:PE X value tv) (U:iU value (some (.Subscript o i pos')) pos.line X.env=pure false) :
  PS X (.Assign [.Subscript o i pos'] value pos) (Wz td ty tv):=by
 intro pins s σ H D I h
 refine wpAny_Assign_Subscript (thn ↥103 λr s1 ⟨v,H1,p,e,k⟩=>thn (Y pins s1 σ H1 _ p k) λu b ⟨x,H2,n,d,j⟩=>thn (hi pins b σ H2 _ n j) λB w ⟨y,C,m,c,a,q,ex,g,f⟩=>?_) U
 subst ex
 obtain rfl:u=aV a:=d
 exact ZS G m g c e λt l=>⟨σ,q,l,f⟩
end
theorem JC (h:Heap) (j:dX<h.objs.size):qa P w H (h.push { cls:=.type "dict",data:=.dict #[] }) h.objs.size (.dK []) :=
 ⟨aT _,beq_eq_false_iff_ne.mpr (cC (aC j)),[],.nil,rm h⟩
noncomputable def Ud:TE:=λ_ H Q=>∀p,H p=none->Q (.ref p) (upd H p (.dK []))
section
variable {X:Cx}{pos:Pos}
theorem y3:PE X (.Dict [] [] pos) Ud:=λpins s σ H Q I h =>
 wpAny_Dict_empty ⟨.ref s.heap.objs.size,_,I.laid (a:=s.heap.objs.size) (o:=.dK []) (t':=s.toks) (λ_ _ q=>ah _ q) (ar _) (JC s.heap I.big),rfl,h _ (I.hok.fresh (ar _))⟩
end
noncomputable def QD:List (TE×TE)->St->Hp->(List (V×V)->Hp->Prop)->Prop
 | [],_,H,Q=>Q [] H
 | (tk,tv)::r,σ,H,Q=>tk σ H λx H1=>tv σ H1 λy H2=>QD r σ H2 λps a=>Q ((x,y)::ps) a
noncomputable abbrev VV:List (V×V)->List (ak×ak)->Prop:=cJ λp q=>jy p.1 q.1/\jy p.2 q.2
noncomputable def PPs (X:Cx) (pos:Pos) (keys:List (Option Expr)) (j:List Expr) (z:List (TE×TE)):Prop :=
 ∀(pins:List (Addr×Obj)) (s:Shared) (σ:St) (H:Hp) (Q:List (V×V)->Hp->Prop),Inv X pins σ H s->QD z σ H Q ->
  aA ↥2 X.A (evalPairs (pairTrees keys j X.env pos)) (λa s'=>∃ps H',Inv X pins σ H' s'/\VV ps a/\Q ps H') X.xe s
theorem VH :PPs X pos [] [] []:=λpins s σ H Q I h=>pairTrees_nil_walk ⟨[],H,I,.nil,h⟩
theorem wE {k:Expr}(U:PE X k tk) (z:PE X v tv) (G:PPs X pos ks vs j) :
  PPs X pos (some k::ks) (v::vs) ((tk,tv)::j):=λpins s σ H Q I h =>
 pairTrees_cons_walk (thn (U pins s σ H _ I h) λu s1 ⟨x,H1,m,d,g⟩=>thn (z pins s1 σ H1 _ m g) λo b ⟨y,H2,l,c,f⟩ =>
  thn (G pins b σ H2 _ l f) λws p ⟨ps,n,i,a,e⟩=>⟨(x,y)::ps,n,i,.cons ⟨d,c⟩ a,e⟩)
noncomputable def qW (kvs j:List (Key×V)):List (Key×V):=j.foldl (λacc a=>qE acc a.1 a.2) kvs
theorem KV.merge:∀{j:List (Key×V)}{rs:List (Key×ak)}{kvs:List (Key×V)}{vs:List (Key×ak)},KV j rs->KV kvs vs->KV (qW kvs j) (merged vs rs):=by
 intro j rs kvs vs r
 unfold KV at r
 induction r generalizing kvs vs with
 | nil=>intro q;exact q
 | @cons p q ps qs h t b =>
  intro a
  have e:KV (qE kvs p.1 p.2) (t6 vs q.1 q.2):=by
   have:=a.put p.1 h.2
   rw [<- h.1];exact this
  exact b e
theorem zL:∀(j kvs:List (Key×V)),(qW kvs j).length<=kvs.length+j.length
 | [],kvs=>by show kvs.length<=kvs.length+0;omega
 | p::r,kvs=>by
  have h1:=zL r (qE kvs p.1 p.2)
  have h2:=yF kvs p.1 p.2
  show (qW (qE kvs p.1 p.2) r).length<=_
  rw [bc];omega
theorem wY :∀{kvs:List (Key×V)}{ws:List (ak×ak)},VV (kvs.map λj=>(kV j.1,j.2)) ws->∃rs,Carries (jC P w) ws rs/\KV kvs rs
 | [],_,r=>by rw [mh] at r;cases r;exact ⟨[],dm,.nil⟩
 | p::kvs,_,r=>by
  rw [aO] at r
  cases r with
  | @cons a b f bs h t =>
   obtain ⟨rs,c,q⟩:=wY (P:=P) (w:=w) t
   obtain ⟨e,d⟩:=b
   exact ⟨(p.1,d)::rs,⟨wZ h.1,rfl,c⟩,.cons ⟨rfl,h.2⟩ q⟩
noncomputable def WV (j:List (TE×TE)):TE:=λσ H Q=>∀p,H p=none->QD j σ (upd H p (.dK [])) λps H2=>H2 p=some (.dK [])/\∃kvs:List (Key×V),ps=kvs.map (λa=>(kV a.1,a.2))/\kvs.length<=15/\Q (.ref p) (upd H2 p (.dK (qW [] kvs)))
theorem Vb {keys:List (Option Expr)}(h:PPs X pos keys j U) (G:keys.all (·.isSome)=true) (hl:keys.length=j.length) (h0:keys≠[])
  (Y:keys.length<=15):PE X (.Dict keys j pos) (WV U):=by
 intro pins s σ H Q I q
 have p:=I.hok.fresh (ar s.heap.objs.size)
 have x:=I.laid (a:=s.heap.objs.size) (o:=.dK []) (h':=s.heap.push { cls:=.type "dict",data:=.dict #[] }) (t':=s.toks) (λ_ _ q=>ah _ q) (ar _) (JC s.heap I.big)
 refine wpAny_Dict_walk (knd:=jC X.prog X.w) G hl h0 Y (thn (h pins _ σ _ _ x (q _ p)) λws A ⟨ps,H2,f,d,e,kvs,u,B,k⟩=>?_)
 subst u
 obtain ⟨rs,c,g⟩:=wY (P:=X.prog) (w:=X.w) d
 obtain ⟨z,t,y,i,v⟩:=Y2 f.hok e
 cases i
 refine ⟨rs,c,v,λh' b m=>⟨.ref s.heap.objs.size,_,?_,rfl,k⟩⟩
 have l:(qW [] kvs).length<=sizeLine:=by
  have h1:=zL kvs []
  rw [rj] at h1
  rw [bQ];omega
 have r:∃q,h'.get? s.heap.objs.size=some q:=let ⟨q,_,_,n,_⟩:=b;⟨q,n⟩
 exact gQ f (by rw [e];exact dm) m r (Xo l t (g.merge .nil) b)
structure M2 (X:Cx) (o:Expr) (m:Str) (apos:Pos) (e f:Expr) (cpos:Pos):Prop where
 base:dY o m X.env (eval o X.env)=eval o X.env
 few:((ck cpos (aN [e,f] X.env)).all (λx=>!x.1) && (fV cpos (dS [] X.env)).all (λx=>x.1.isSome)
  && decide (([e,f]:List Expr).length+([]:List m7).length+(if ([]:List m7).isEmpty then 0 else 1)<30))=true
 line: ↥131=true
 trees:ck cpos (aN [e,f] X.env)=[↥31,(false,eval f X.env)]
noncomputable def IsD (H:Hp) (a:Addr):Prop:=(∃kvs,Rd H a (.dK kvs))\/∃kvs,Rd H a (.dT kvs)
theorem UJ (I:Inv X pins σ H s) (d:IsD H a) :
  s.TypeIs (.ref a) "dict" /\ (∀b,aV a = .ref b->∃j,s.heap.get? b=some j/\j.dict=none)/\(a == dX)=false:=by
 rcases d with ⟨kvs,e⟩ | ⟨kvs,e⟩
 ·obtain ⟨_,f,g,_,c⟩:=vR I.hok e
  refine ⟨c.typeIs,λb q=>?_,f⟩
  cases q
  obtain ⟨j,_,_,h1,h2,_⟩:=c
  exact ⟨j,h1,h2.2.1⟩
 ·obtain ⟨_,f,xs,_,c⟩:=gf I.hok e
  refine ⟨c.typeIs,λb q=>?_,f⟩
  cases q
  obtain ⟨j,_,_,h1,h2,_⟩:=c
  exact ⟨j,h1,h2.2.1⟩
section
variable {X:Cx}{pins:List (Addr×Obj)}{σ:St}{H:Hp}{s:Shared}{a:Addr}{y d:V}{u r:ak}{o:Option V}{A:bI}{E:ak->Shared->Prop}
theorem U1 {Q:ak->Shared->Prop}(Y:A.units+1<cLine) (I:Inv X pins σ H s) (g:qA H a y o) (U:jy y u) (rd:jy d r) (h:∀G s',Inv X pins σ H s'->jy (o.getD d) G->Q G s') :
  aA ↥2 A (call (.builtin "dict.get") [.ref a,u,r]) Q E s:=by
 rcases g with ⟨kvs,k,e,j,l⟩ | ⟨kvs,k,b,e,j,m,l⟩
 ·subst j
  obtain ⟨z,i,n,c,f⟩:=vR I.hok e
  refine call_meetsIn ic f.typeIs mr (lT _ _ _) (meets_dict_get_default (jC X.prog X.w) a (wZ U) i r) ⟨_,f.mapOf,h _ _ (I.tok _) ?_⟩
  rw [l]
  exact (c.val k).getD rd
 ·subst j
  cases (show u=aV b from U)
  obtain ⟨z,i,xs,c,f⟩:=gf I.hok e
  refine call_meetsIn ic f.typeIs mr (lT _ _ _) (meetsH_dict_get_default (lN (jC X.prog X.w)) a b i r) ⟨fK Y,k,xs,wu I.hok m,f,h _ _ (I.tok _) ?_⟩
  rw [l]
  exact (c.val k).getD rd
end
noncomputable def U3 (td ty tx:TE):TE:=λσ H Q=>td σ H λx H1=>∃a,x = .ref a/\IsD H1 a/\ty σ H1 λy H2=>tx σ H2 λz b=>∃o,qA b a y o/\Q (o.getD z) b
section
variable {X:Cx}{o e f:Expr}{apos cpos:Pos}{td ty tx:TE}
theorem wd (G:X.A.units+1<cLine) (U:PE X o td) (he:PE X e ty) (Y:PE X f tx) (m:M2 X o "get" apos e f cpos):PE X (.Call (.Attribute o "get" apos) [e,f] [] cpos) (U3 td ty tx):=by
 intro pins s σ H Q I h
 refine wpAny_Call_method m.base m.few m.line PySem.F.plainAttrs_dict ic PySem.F.type_dict_get (thn (U pins s σ H _ I h) λu s1 ⟨x,H1,c,p,a,ex,d,t⟩=>?_)
 subst ex
 obtain rfl:u=aV a:=p
 obtain ⟨j,i,_⟩:=UJ c d
 refine ⟨j,i,?_⟩
 rw [m.trees]
 refine fY rfl (iA (iY (thn (he pins s1 σ H1 _ c t) λL k ⟨y,H2,B,n,r⟩ =>
  iY (thn (Y pins k σ H2 _ B r) λM J ⟨z,C,w,l,K,g,q⟩=>oM ?_))))
 exact U1 G w g n l λD E v b=>⟨_,C,v,b,q⟩
end
section
variable {X:Cx}{pins:List (Addr×Obj)}{σ:St}{H:Hp}{s:Shared}{a:Addr}{kvs:List (Key×V)}{A:bI}{E:ak->Shared->Prop}
end
section
variable {X:Cx}{pins:List (Addr×Obj)}{σ:St}{H:Hp}{s:Shared}{a:Addr}{y:V}{u:ak}{A:bI}{E:ak->Shared->Prop}
end
end L2
namespace Att
open PySem PySem.W PySem.Calls PyProof.Rows
section
variable {prog:Program}{w:bA}{A:bI}{E:ak->Shared->Prop}{s:Shared}{K:Frag}
end
end Att
namespace L2
end L2
namespace L2
end L2
namespace L2
section
variable {P:Program}{w:bA}{K:ag}{mg:Str->Option ak}{base:Heap}
end
section
variable {X:Cx}
end
section
variable {κ:Type} [DecidableEq κ]
theorem uV:∀{l:List κ}{k:κ},l.Nodup->¬k∈l->(l++[k]).Nodup
 | [],k,_,_=>by simp
 | a::r,k,h,b=>by
  obtain ⟨h1,h2⟩:=List.nodup_cons.mp h
  show (a::(r++[k])).Nodup
  refine List.nodup_cons.mpr ⟨λm=>?_,uV h2 λm=>b (List.mem_cons.mpr (fI m))⟩
  rcases List.mem_append.mp m with q | q
  ·exact h1 q
  ·exact b (List.mem_cons.mpr (aU (List.mem_singleton.mp q).symm))
end
end L2
end
section
namespace L2
open PySem.W
section
variable {prog:Program}{w:bA}{A:bI}{E:ak->Shared->Prop}{s:Shared}
theorem JI {its:List ak}{κ:se}{lt:Nat->Nat->Bool}{G:List Nat->Prop}{Q:ak->Shared->Prop}(ab:its.length<64)
  (hk:2<=its.length->∀h',↥19->∀Y:se->Shared->Prop,Y κ { s with heap:=h' }->aA (aF prog w) A.in1.in1 (keyKind' its.toArray) Y (λ_ _=>False) { s with heap:=h' })
  (hc:∀h',↥19->∀i j,i<its.length->j<its.length->∀Y:Bool->Shared->Prop,Y (lt i j) { s with heap:=h' } ->
   aA (aF prog w) A.in1.in1 (keyLt' κ (its.getD i b8) (its.getD j b8)) Y (λ_ _=>False) { s with heap:=h' })
  (hs:2<=its.length->qT lt its.length (tD its.length) λp=>qi its.length p/\G p.toList) (h1:its.length<2->G (aG its.length))
  (h:∀(U:List Nat) (h':Heap) (n:Nat),U.Perm (aG its.length)->G U->↥19 ->
   h'.get? (s.heap.objs.size)=some (bx "list" (U.map λi=>its.getD i b8).toArray n)->Q (.ref (s.heap.objs.size)) { s with heap:=h' }) :
  aA (aF prog w) A.in1 (rH its >>= λl=>dG [l] (call (.builtin "list.sort") [l] []) >>= λ_=>ret l) (λz s'=>∃v,z = .done (.ret v)/\Q v s') E s:=by
 refine af (fE ?_ (by rw [bQ];omega))
 have f:(s.heap.push ↥23).get? (s.heap.objs.size)=some ↥23:=az _ rfl
 have keep:∀b o,s.heap.get? b=some o->(s.heap.push ↥23).get? b=some o:=λb o q=>by
  exact ah _ q
 show aA _ _ _ _ _ { s with heap:=s.heap.push ↥23 }
 refine af (c5 (dz mW ⟨_,f,rfl⟩ mD ?body (si _)))
 case body =>
  generalize ac:s.heap.push ↥23=k at f keep
  generalize T:s.heap.objs.size=a at f h
  have t:∀b o,s.heap.get? b=some o->b≠a:=λb o q=>by have:=ax q;rw [<- T];exact aC this
  show aA (aF prog w) A.in1.in1 (fG.«list.sort» ⟨[.ref a],[]⟩) _ _ { s with heap:=k }
  rw [rf]
  have y:a<k.objs.size:=ax f
  refine af (mn f rfl ?_)
  refine af (d8 f rfl ?_ (by rw [av,bQ];omega) (aT _))
  obtain ⟨K,u⟩:∃K,(k.update a ↥41).get? a=some (bx "list" #[] K):=⟨_,eR f (λ_=>#[])⟩
  refine af (fh u rfl ?_)
  refine af (l9 ?_ (by show its.length<=_;rw [bQ];omega))
  refine af (fE ?_ (aT _))
  refine c5 ?_
  have d:((↥10).push ↥111).get? a=some (bx "list" #[] K):=by
   rw [cT _ _ _ (by rw [om,eF];exact aC (bK y)),cT _ _ _ (by rw [eF];exact aC y)]
   exact u
  have c:∀b o,s.heap.get? b=some o->((↥10).push ↥111).get? b=some o:=λb o q =>
   ah _ (ah _ ((cf _ _ _ _ (t b o q)).trans (keep b o q)))
  show aA (aF prog w) A.in1.in1 _ _ _ { s with heap:=(↥10).push ↥111 }
  generalize (↥10).push ↥111=g at d c
  dsimp only
  have z:∀(U:List Nat),U.Perm (aG its.length)->G U->∀r:Array ak,r=(U.map λi=>its.getD i b8).toArray ->
    ∃v,sj (Flow.ret b8) = .done (.ret v)/\aA (aF prog w) A.in1 (do let _ <- pure v;ret (aV a)) (λz s'=>∃v,z = .done (.ret v)/\Q v s') E { s with heap:=g.update a (b7 λ_=>r) }:=λU D R r L=>by
   refine ⟨_,rfl,af (wpAny_pure (wpAny_pure ⟨_,rfl,?_⟩))⟩
   subst L
   exact h U _ _ D R (λb o q=>(cf _ _ _ _ (t b o q)).trans (c b o q)) (eR d λ_=>_)
  by_cases h2:its.toArray.size<2
  ·rw [if_pos h2,if_pos h2]
   refine af ↥54
   rw [mE]
   refine af ↥54
   dsimp only
   refine af (fh d rfl ?_)
   rw [vV]
   refine af (d8 d rfl ?_ (aT _) (by rw [av,bQ];omega))
   simp only [bne_self_eq_false,cv,if_false]
   rw [av] at h2
   exact wpAny_pure (z _ (mX _) (h1 h2) _ (by rw [vn]))
  ·rw [if_neg h2,if_neg h2]
   rw [av] at h2
   refine af (bb (hk ∅ g c (λB s'=>B=κ/\s'={ s with heap:=g }) ⟨rfl,rfl⟩) (λB s' q=>?_) λ_ _ x=>x.elim)
   obtain ⟨rfl,rfl⟩:=q
   refine af (bb (kat_run (ks:=its) (vs:=its) (κ:=B) (G:=λp s'=>(qi its.length p/\G p.toList)/\s'={ s with heap:=g }) (Q:=λm s'=>∃p:Array Nat,arrOf m=p.map (tE (its.toArray.zip its.toArray))/\sr m=none/\(qi its.length p/\G p.toList)/\s'={ s with heap:=g })
    rfl ∅ ab (λp m s' a1 a2 a3 Z=>⟨p,a2,a3,Z⟩) (qT.wp (I:=λs'=>s'={ s with heap:=g }) (λi j C s' hi P J X=>?_) (λp s' D J=>⟨D,J⟩) (hs ∅) rfl)) ?_ λ_ _ e=>e)
   ·subst J
    exact hc g c i j hi P C (X _ rfl)
   ·rintro ⟨⟨⟩,m⟩ s' ⟨p,M,S,⟨N,V⟩,rfl⟩
    dsimp only
    have H:=tF (ks:=its) (vs:=its) rfl M
    have O:(oR (p.toList.map λi=>its.getD i b8)).size=its.length:=by rw [av,aa,bR,N.size]
    rw [H]
    refine af (fh d rfl ?_)
    refine af (d8 d rfl ?_ (aT _) (by rw [O,bQ];omega))
    rw [S]
    simp only [bne_self_eq_false,cv,if_false]
    exact wpAny_pure (z p.toList (by have:=Array.perm_iff_toList_perm.mp N;simpa using this) V _ rfl)
theorem Xs {v:ak}{Q:ak->Shared->Prop}(j:aA (aF prog w) A.in1 (collect v) (λits s1=>aA (aF prog w) A.in1 (rH its >>= λl=>dG [l] (call (.builtin "list.sort") [l] []) >>= λ_=>ret l) (λz s'=>∃v,z = .done (.ret v)/\Q v s') E s1) E s) :
  aA (aF prog w) A (call (.builtin "sorted") [v]) Q E s:=by
 refine lx pV oP oQ (args_sorted1 _) ?_
 unfold fG.«sorted»
 refine af (m:=sf "sorted" 1 1 _) ↥54
 exact af j
end
section
variable {X:Cx}
theorem Inv.laidN {h':Heap}{a:Addr}{t':Nat}(I:Inv X pins σ H s) (k:∀b u,s.heap.get? b=some u->h'.get? b=some u) (j:s.heap.get? a=none) (new:H a=none->qa X.prog X.w (upd H a o) h' a o):H a=none/\Inv X pins σ (upd H a o) { s with heap:=h',toks:=t' }:=by
 have d:H a=none:=by
  cases q:H a with
  | none=>rfl
  | some u =>
   obtain ⟨g,e⟩:=ko (I.hok a u q)
   rw [j] at e
   cases e
 have ne:∀{b u},s.heap.get? b=some u->b≠a:=λe z=>by rw [z,j] at e;cases e
 refine ⟨d,I.un ⟨λb u q _ _ _=>k b u q,λb u q _ _ _=>⟨u.slots,k b u q⟩,λb u q n _=>by rw [j7 (ne q)];exact n,λb u q _=>⟨u,k b u q⟩,λb xs q=>by rw [j7 (j1 q d)];exact q,λb u xs q=>by rw [j7 (j1 q d)];exact q,λb ps q=>⟨#[],by rw [j7 (j1 q d),q];simp⟩⟩ λb u e=>?_⟩
 by_cases f:b=a
 ·subst f;rw [j4] at e;cases e;exact new d
 ·rw [j7 f] at e
  exact (I.hok b u e).stay (λc v _ q=>k c v q) (λc q=>by rw [j7 (j1 q d)];exact q) λc xs q=>by rw [j7 (j1 q d)];exact q
theorem vG (K:ag) (an:X.calm=true) (hK:X.K=K:=by rfl):qz X (.builtin "sorted") (λxs H Q=>∃(p:Addr) (kvs:List (Key×V)) (ns:List Int),xs=[.ref p]/\H p=some (.dK kvs)/\kvs.map (·.1)=ns.map eA/\ns.length<64 /\
  ∀(l:Addr) H' (U:List Int),H l=none->H' l=some (.lst (U.map V.int))->jf H H'->U.Perm ns->U.Pairwise (· <= ·)->Q (.ref l) H'):=by
 subst hK
 intro pins s σ H xs us Q I r h
 obtain ⟨p,kvs,ns,rfl,ac,D,as,k⟩:=h
 obtain ⟨u,rfl,ru⟩:=xB r
 cases ru
 obtain ⟨hz,lo,A,P,dd⟩:=Y2 I.hok ac
 obtain ⟨ep,ap⟩:=dd.dictAt
 have Z:A.length=ns.length:=by
  have f:kvs.length=A.length:=aZ P
  have g:=congrArg mP D
  rw [aa,aa] at g
  omega
 refine Xs (kdu_collect (kdl_dict (knd:=jC X.prog X.w) (kvs:=A) (ep:=ep) lo) (I.ok.hd an) ap (c3 (jb ∅)) λh1 tk acc E y=>?_)
 have O:acc.toList.length=ns.length:=by rw [bR,y.1,Z]
 have item:∀i,i<acc.toList.length->∃t,acc.toList.getD i b8 = .int (ns.getD i 0) t:=λi hi=>by
  have N:i<acc.size:=by rw [bR] at hi;exact hi
  obtain ⟨key,x,hx,am⟩:=y.2 i acc[i] (dJ N)
  have M:i<kvs.length:=by
   have f:kvs.length=A.length:=aZ P
   omega
  obtain ⟨q,hq,f,_⟩:=Paired.get P (ae M)
  rw [hx] at hq
  cases hq
  have g:(kvs.map (·.1))[i]? = some key:=by rw [aw,ae M];exact congrArg some f
  have L:i<ns.length:=∅
  rw [D,aw,ae L] at g
  cases g
  obtain ⟨t,et⟩:=fQ am
  refine ⟨t,?_⟩
  rw [aj,ib,dJ N,et,aj,ae L]
  rfl
 generalize acc.toList=c at O item
 refine JI (s:={ s with heap:=h1,toks:=tk }) (κ:=oneType') (lt:=ltK V3 λi=>ns.getD i 0) (G:=λd=>(d.map λi=>ns.getD i 0).Pairwise V3.kle) ∅ (λh2 h' m Q' q=>?_) (λh' m i j hi Y Q' q=>?_) (λh2=>?_) (λh1=>?_) λd h' n B hg m hn=>?_
 ·refine kas_kind (T:=.type "int") h2 (λv S=>?_) rfl rfl q
  obtain ⟨i,hi,rfl⟩:=List.mem_iff_getElem.mp S
  obtain ⟨t,f⟩:=item i hi
  have e3:c[i] = .int (ns.getD i 0) t:=by rw [<- f];simp [hi]
  rw [e3]
  exact sQ rfl
 ·obtain ⟨t,f⟩:=item i hi
  obtain ⟨u,g⟩:=item j Y
  rw [f,g]
  exact kat_lt_int q
 ·exact wQ ∅ λp' hP hS=>⟨hP,hS.pairwise hP.size⟩
 ·have C:c.length=0\/c.length=1:=∅
  rcases C with z | z
  ·rw [z];exact fZ
  ·rw [z];exact fO _ _
 ·have al:s.heap.get? h1.objs.size=none:=by
   cases q:s.heap.get? h1.objs.size with
   | none=>rfl
   | some u=>exact absurd (ax (E _ _ q)) (cw _)
  have S:ju ↥125 (d.map λi=>c.getD i b8):=by
   have hb:∀i∈d,i<c.length:=λi hi=>by have:=B.mem_iff.mp hi;simpa using this
   clear B hg hn
   induction d with
   | nil=>exact .nil
   | cons i d ih =>
    obtain ⟨t,e⟩:=item i (hb i aK)
    exact .cons ⟨t,e⟩ (ih λj Y=>hb j (aD _ Y))
  have ai:((aG c.length).map λi=>ns.getD i 0)=ns:=by
   apply lS
   ·simp [O]
   ·intro i h1 h2
    simp [h2]
  have ab: (↥125).length<=sizeLine:=by
   rw [aa,aa,B.length_eq,bg]
   exact aI (by omega:c.length<=1000) ⋯
  obtain ⟨hf,J⟩:=Inv.laidN (o:=.lst ↥125) (t':=tk) I (λb o e=>m b o (E b o e)) al λ_=>⟨ab,_,n,S,hn⟩
  refine ⟨.ref _,upd H h1.objs.size (.lst ↥125),J,rfl,k _ _ _ hf j4 (jf.new hf) ?_ ?_⟩
  ·have:=B.map λi=>ns.getD i 0
   rw [ai] at this
   exact this
  ·exact List.Pairwise.imp (R:=V3.kle) (λ{a b} z=>Yp z) hg
end
end L2
end
section
namespace L2
open PySem.W
theorem Inv.freeze {X:Cx}{kvs:List (Key×V)}(I:Inv X pins σ H s) (e:H a=some (.dK kvs)) (j:s.heap.get? a=some o):Inv X pins σ (upd H a ↥87) s:=by
 refine I.un (t':=s.toks) ⟨λb u q _ _ _=>q,λb u q _ _ _=>⟨u.slots,q⟩,λb u q n _=>?_,λb u q _=>⟨u,q⟩,λb xs q=>?_,λb u xs q=>?_,λb ps q=>⟨#[],?_⟩⟩ λb u q=>?_
 ·rw [j7 (λz=>by rw [z,e] at n;cases n)];exact n
 ·rw [j7 (jm q e ↥36)];exact q
 ·rw [j7 (jm q e ↥36)];exact q
 ·rw [j7 (jm q e ↥36),q];simp
 ·by_cases d:b=a
  ·subst d
   rw [j4] at q
   cases q
   exact ⟨j,I.hok _ _ e⟩
  ·rw [j7 d] at q
   exact (I.hok b u q).stay (λc v _ q=>q) (λc q=>by rw [j7 (jm q e ↥36)];exact q) λc xs q=>by rw [j7 (jm q e ↥36)];exact q
noncomputable def Itd (a:Addr) (o:Obj) (kvs:List (Key×V)):It :=
 ⟨λi H=>H a=some ↥87/\i<kvs.length,λi H x H'=>H'=H/\∃q,kvs[i]? = some q/\x=kV q.1,λi H=>H a=some ↥87/\kvs.length<=i⟩
theorem relK {k:Key}(h:(jC P w).is k v=true):jy (kV k) v:=by
 cases k with
 | inl i=>exact fQ h
 | inr x=>exact nI h
theorem ZK {K:ag}{a it:Addr}{vs:List (Key×ak)}{ep:Nat}(kv:KV kvs vs) (HD:∀h:Heap,h.get? a=some o->h.DictAt (jC P w) a vs ep):Turn P w K tg (Itd a o kvs) [it] it (λi h=>h.IsKeyIter it a i vs.length ep) where
 mem:=by simp
 obj:=λi h st b hb=>by
  have e:b=it:=by simpa using hb
  subst e
  obtain ⟨o,e,c,d⟩:=st
  exact ⟨o,e,λv z=>by rw [d] at z;cases z⟩
 keep:=λi h h' st k=>st.at λo e=>k it (by simp) o e
 item:=by
  intro X hP hw hK hc i pins s σ H E I hf st hg
  subst hP hw hK
  obtain ⟨hq,hi⟩:=hg
  have hat:=HD s.heap (I.hok _ _ hq).1
  have hl:kvs.length=vs.length:=aZ kv
  obtain ⟨f0,f1,f2,f3,f4,f5⟩:=hf it (by simp)
  obtain ⟨⟨k,x⟩,hx,ek,_⟩:=Paired.get kv (ae hi)
  refine wpAny_pyNext_dict_item st hat hx λkey h' hkey st' sb=>?_
  have I1:Inv X pins σ H { s with heap:=h' }:=I.turned (t':=s.toks) (λb o hb e=>(sb.2 b hb).trans e) f0 f1 f3 f4 f5
  obtain ⟨ob,e,c,d⟩:=id st'
  exact ⟨key,rfl,Qb (s:={ s with heap:=h' }) e c d ⋯ ⟨kV k,H,I1,relK hkey,⟨rfl,_,ae hi,by rw [show (kvs[i]'hi).1=k from ek]⟩,st',λb hb=>(hf b hb).1⟩⟩
 done:=by
  intro X hP hw hK hc i pins s σ H E I hf st hg
  subst hP hw hK
  obtain ⟨hq,hi⟩:=hg
  have hat:=HD s.heap (I.hok _ _ hq).1
  have hl:kvs.length=vs.length:=aZ kv
  obtain ⟨f0,f1,f2,f3,f4,f5⟩:=hf it (by simp)
  exact wpAny_pyNext_dict_end (I.ok.hd hc) st hat ↥84 λh' eb=>⟨rfl,I.turned (t':=s.toks) ↥118 f0 f1 f3 f4 f5⟩
 self:=λ_ _ _ _ _ st h=>wpAny_pyIter_keyiter st h
noncomputable def iDic (td:TE):TI:=λσ H R=>td σ H λx H1=>∃a kvs,x = .ref a/\((H1 a=some (.dK kvs)/\∀o,R (Itd a o kvs) (upd H1 a ↥87))\/∃o,H1 a=some ↥87/\R (Itd a o kvs) H1)
theorem w5 (G:PE X l td):PI X tg l (iDic td):=by
 intro pins s σ H R I h
 refine thn (G pins s σ H _ I h) λv s1 ⟨x,H1,k,y,a,kvs,e,q⟩=>?_
 subst e
 cases y
 have d:∀{H2:Hp} {o:Obj},Inv X pins σ H2 s1->H2 a=some ↥87->R (Itd a o kvs) H2->aA ↥2 X.A (mO (.ref a)) (PIE X pins σ tg R) X.xe s1:=λ{H2 o} f t z=>by
  have r:=(f.hok _ _ t).1
  obtain ⟨B,lo,m,p,j⟩:=vR f.hok (.inr ⟨o,t⟩)
  obtain ⟨ep,n,es,h1,c⟩:=j.dictAt
  rw [r] at h1
  cases h1
  have u:∀h:Heap,h.get? a=some o->h.DictAt (jC X.prog X.w) a m ep:=λh e=>⟨o,es,e,c⟩
  refine wpAny_pyIter_dict lo (u _ r) ?_
  refine ⟨s1.heap.objs.size,[s1.heap.objs.size],_,_,H2,rfl,f.kept (t':=s1.toks) λb o e=>ah _ e,ZK p u,⟨_,az _ rfl,rfl,rfl⟩,λb C=>?_,z⟩
  have e:b=s1.heap.objs.size:=by simpa using C
  subst e
  exact f.fpOk (ar _) (f.hok.fresh (ar _))
 rcases q with ⟨g,i⟩ | ⟨o,g,i⟩
 ·obtain ⟨B,lo,m,p,j⟩:=vR k.hok (.inl g)
  obtain ⟨ep,n,es,h1,c⟩:=j.dictAt
  exact d (k.freeze g h1) j4 (i n)
 ·exact d k g i
theorem JA {kvs:List (Key×V)}{g:TG}{tb:TS}{D:Ends}{σ:St}{H:Hp}(Pv:Nat->St->Hp->Prop) (h0:Pv 0 σ H) (hl:∀i σ H,i<=kvs.length->Pv i σ H->H a=some ↥87)
  (Y:∀i q σ H,kvs[i]? = some q->Pv i σ H->g (kV q.1) σ H λj H2=>tb { D with nx:=Pv (i+1),ct:=Pv (i+1),bk:=D.nx } j H2) (hd:∀σ H,Pv kvs.length σ H->D.nx σ H) :
  ∃W:Nat->Nat->St->Hp->Prop,↥72/\∀i m σ H,W i m σ H ->
   ((Itd a o kvs).stop i H/\D.nx σ H)\/((Itd a o kvs).go i H/\∃N:St->Hp->Prop,(∀G H',N G H'->∃U,U<m/\W (i+1) U G H')/\∀x H',(Itd a o kvs).yld i H x H'->g x σ H' λj H2=>tb { D with nx:=N,ct:=N,bk:=D.nx } j H2):=by
 refine ⟨λi m σ H=>m=kvs.length-i/\i<=kvs.length/\Pv i σ H,⟨kvs.length,by simp,aT _,h0⟩,?_⟩
 rintro i m σ H ⟨rfl,hi,p⟩
 have q:=hl i σ H hi p
 by_cases b:i<kvs.length
 ·refine .inr ⟨⟨q,b⟩,Pv (i+1),λG H' c=>⟨kvs.length-(i+1),∅,rfl,b,c⟩,λx H' y=>?_⟩
  obtain ⟨e,z,d,ex⟩:=y
  subst e ex
  exact Y i z σ _ d p
 ·obtain rfl:i=kvs.length:=∅
  exact .inl ⟨⟨q,ar _⟩,hd σ H p⟩
theorem kZ {kvs:List (Key×V)}{g:TG}{ti:TT}{te:TE}{R:Hp->Prop}{σ:St}{H:Hp}(Pv:Nat->St->Hp->Prop) (h0:Pv 0 σ H) (hl:∀i σ H,i<=kvs.length->Pv i σ H->H a=some ↥87)
  (hs:∀i q σ H,kvs[i]? = some q->Pv i σ H->g (kV q.1) σ H λj H3=>ti j H3 λok U=>if ok=true then te j U λv G=>∃ys,G acc=some (.lst ys)/\ys.length<sizeLine/\Pv (i+1) j (upd G acc (.lst (ys++[v]))) else Pv (i+1) j U)
  (hd:∀σ H,Pv kvs.length σ H->R H) :
  ∃W:Nat->Nat->St->Hp->Prop,↥72/\∀i m Y H',W i m Y H' ->
   ((Itd a o kvs).stop i H'/\R H')\/((Itd a o kvs).go i H'/\∃NX:St->Hp->Prop,↥76 /\
    ∀x H2,(Itd a o kvs).yld i H' x H2->g x Y H2 λj H3=>ti j H3 λok U=>if ok=true then te j U λv G=>∃ys,G acc=some (.lst ys)/\ys.length<sizeLine/\NX j (upd G acc (.lst (ys++[v]))) else NX j U):=by
 refine ⟨λi m σ H=>m=kvs.length-i/\i<=kvs.length/\Pv i σ H,⟨kvs.length,by simp,aT _,h0⟩,?_⟩
 rintro i m σ H ⟨rfl,hi,p⟩
 have q:=hl i σ H hi p
 by_cases b:i<kvs.length
 ·refine .inr ⟨⟨q,b⟩,Pv (i+1),λY H' c=>⟨kvs.length-(i+1),∅,rfl,b,c⟩,λx H' y=>?_⟩
  obtain ⟨e,z,d,ex⟩:=y
  subst e ex
  exact hs i z σ _ d p
 ·obtain rfl:i=kvs.length:=∅
  exact .inl ⟨⟨q,ar _⟩,hd σ H p⟩
end L2
end
section
namespace L2
open PySem.W
theorem Z9 {K:ag}(it:Addr) (lo:Int) (n:Nat):Turn P w K tg (Itr lo n) [it] it (λi h=>IsLongIter h it (lo+(i:Nat)*1) ((n:Int)-(i:Nat)) 1) where
 mem:=by simp
 obj:=λi h st b hb=>by
  have e:b=it:=by simpa using hb
  subst e
  exact ⟨_,st,λv z=>by
   have z':dR _=lP v:=z
   cases z'⟩
 keep:=λi h h' st k=>k it (by simp) _ st
 item:=by
  intro X hP hw hK hc i pins s σ H E I hf st hg
  subst hP hw hK
  obtain ⟨f0,f1,f2,f3,f4,f5⟩:=hf it (by simp)
  have W:=Walks.longrange (prog:=X.prog) (w:=X.w) (I.ok.hd hc) it lo 1 n
  refine W.item i s _ _ hg st λv h' tk hv st' kk=>?_
  obtain ⟨t,rfl⟩:=hv
  have I1:Inv X pins σ H { s with heap:=h',toks:=tk }:=I.turned (λb o hb e=>kk b o (by simpa using hb) e) f0 f1 f3 f4 f5
  refine ⟨_,rfl,Qb (s:={ s with heap:=h',toks:=tk }) (n:="longrange_iterator") st' rfl rfl ⋯ ⟨.int (lo+i),H,I1,⟨t,?_⟩,⟨rfl,rfl⟩,st',λb hb=>(hf b hb).1⟩⟩
  rw [Int.mul_one]
 done:=by
  intro X hP hw hK hc i pins s σ H E I hf st hg
  subst hP hw hK
  obtain ⟨f0,f1,f2,f3,f4,f5⟩:=hf it (by simp)
  exact wpAny_pyNext_long_end (I.ok.hd hc) st (by have:n<=i:=hg;omega) λh' eb=>⟨rfl,I.turned (t':=s.toks) ↥118 f0 f1 f3 f4 f5⟩
 self:=λ_ _ _ _ _ st h=>wpAny_pyIter_longiter st h
section
variable {X:Cx}{tg:Expr}
theorem Z2 {R:It->Hp->Prop}{lo hi:Int}{tk:Nat}(I:Inv X pins σ H s)
  (q:R (Itr lo (hi-lo).toNat) H):aA ↥2 X.A (mO ↥16) (PIE X pins σ tg R) E { s with heap:=s.heap.push { cls:=.type "range",data:=.fields #[.int lo t,.int hi u,.int 1 v] },toks:=tk }:=by
 have a:Inv X pins σ H { s with heap:=s.heap.push { cls:=.type "range",data:=.fields #[.int lo t,.int hi u,.int 1 v] },toks:=tk }:=I.kept λb o e=>ah _ e
 have f:lo+((0:Nat):Int)*1=lo:=by simp
 have d:(((hi-lo).toNat:Nat):Int)-((0:Nat):Int)=lQ lo hi 1:=by rw [sL];split <;> omega
 have fp:∀b∈[(↥8).objs.size],_:=λb g=>by
  have e:b=(↥8).objs.size:=by simpa using g
  subst e
  exact a.fpOk (ar _) (a.hok.fresh (ar _))
 by_cases c:Builtin.Range.small lo hi 1=true
 ·refine nZ (pS ..) c ?_
  refine ⟨(↥8).objs.size,[(↥8).objs.size],_,_,H,rfl,
   a.kept (t':=tk) λb o e=>ah _ e,ku _ lo (hi-lo).toNat,?_,fp,q⟩
  show pR _ _ (lo+((0:Nat):Int)*1) ((((hi-lo).toNat:Nat):Int)-((0:Nat):Int)) 1
  rw [f,d]
  exact az _ rfl
 ·refine wpAny_pyIter_longrange (pS ..) (by simpa using c) ?_
  refine ⟨(↥8).objs.size,[(↥8).objs.size],_,_,H,rfl,
   a.kept (t':=tk) λb o e=>ah _ e,Z9 _ lo (hi-lo).toNat,?_,fp,q⟩
  show IsLongIter _ _ (lo+((0:Nat):Int)*1) ((((hi-lo).toNat:Nat):Int)-((0:Nat):Int)) 1
  rw [f,d]
  exact az _ rfl
inductive iRngLI (R:It->Hp->Prop) (vs:List V) (H1:Hp):Prop
 | mk (i j:Int) (zz1:vs=[.int i,.int j]) (zz2:R (Itr i (j-i).toNat) H1)
noncomputable def WE (ta:TA):TI:=λσ H R=>ta σ H λa H1=>iRngLI R a H1
theorem Ze {a b:Expr}{p:Pos}(Y:Gl X "range") (U:X.mg "range" = none) (ha:PA X [a,b] ta) (G:aN [a,b] X.env=[(false,eval a X.env),(false,eval b X.env)]:=by rfl) (z:aN [b] X.env=[(false,eval b X.env)]:=by rfl) :
  PI X tg (.Call (.Name "range" p) [a,b] [] pos) (WE ta):=by
 intro pins s σ H R I h
 refine tK (zh I Y U rP (cj (thn ↥50 λm s1 ⟨l,H1,k,d,g⟩=>?_) (by rw [G,z]) (by rw [z];rfl)))
 obtain ⟨i,j,e,q⟩:=g
 subst e
 cases d with
 | cons r c =>
  cases c with
  | cons f c =>
   cases c
   obtain ⟨t,rfl⟩:=r
   obtain ⟨n,rfl⟩:=f
   exact call_range_2 (Z2 k q)
end
end L2
end
section
namespace L2
open PySem.W
noncomputable def Fz (a:Addr) (kvs:List (Key×V)) (o:Obj) (H j:Hp):Prop:=j a=some ↥87/\(j=H\/(H a=some (.dK kvs)/\j=upd H a ↥87))
theorem Fz.at {kvs:List (Key×V)}(f:Fz a kvs o H j) (h:H c=some u) (n:c≠a):j c=some u:=by
 rcases f.2 with rfl | ⟨_,rfl⟩
 ·exact h
 ·rw [j7 n];exact h
theorem gA {g:TG}{tb:TS}{D:Ends}{σ:St}{H:Hp}(h:Rd H a (.dK kvs)) (Pv:Obj->Nat->St->Hp->Prop) (h0:∀o H4,Fz a kvs o H H4->Pv o 0 σ H4) (hl:∀o i σ H,i<=kvs.length->Pv o i σ H->H a=some ↥87)
  (hs:∀o i q σ H,kvs[i]? = some q->Pv o i σ H->g (kV q.1) σ H λG H2=>tb { D with nx:=Pv o (i+1),ct:=Pv o (i+1),bk:=D.nx } G H2) (hd:∀o σ H,Pv o kvs.length σ H->D.nx σ H) :
  ∃z j,V.ref a = .ref z/\((H z=some (.dK j)/\∀o,∃W:Nat->Nat->St->Hp->Prop,(∃m,W 0 m σ (upd H z (.frz o (.dK j))))/\∀i m σ H,W i m σ H ->
   ((Itd z o j).stop i H/\D.nx σ H)\/((Itd z o j).go i H/\∃N:St->Hp->Prop,(∀U H',N U H'->∃Y,Y<m/\W (i+1) Y U H')/\∀x H',(Itd z o j).yld i H x H'->g x σ H' λG H2=>tb { D with nx:=N,ct:=N,bk:=D.nx } G H2)) \/
   ∃o,H z=some (.frz o (.dK j))/\∃W:Nat->Nat->St->Hp->Prop,↥72/\∀i m σ H,W i m σ H ->
   ((Itd z o j).stop i H/\D.nx σ H)\/((Itd z o j).go i H/\∃N:St->Hp->Prop,(∀U H',N U H'->∃Y,Y<m/\W (i+1) Y U H')/\∀x H',(Itd z o j).yld i H x H'->g x σ H' λG H2=>tb { D with nx:=N,ct:=N,bk:=D.nx } G H2)):=by
 rcases h with h | ⟨o,h⟩
 ·exact ⟨a,kvs,rfl,.inl ⟨h,λo=>JA (a:=a) (o:=o) (kvs:=kvs) (Pv o) (h0 o _ ⟨j4,.inr ⟨h,rfl⟩⟩) (hl o) (hs o) (hd o)⟩⟩
 ·exact ⟨a,kvs,rfl,.inr ⟨o,h,JA (a:=a) (o:=o) (kvs:=kvs) (Pv o) (h0 o _ ⟨h,.inl rfl⟩) (hl o) (hs o) (hd o)⟩⟩
end L2
end
section
namespace L2
open PySem.W
section
variable {prog:Program}{w:bA}{A:bI}{E:ak->Shared->Prop}{s:Shared}
theorem V7:rT (.type "list") "keys" = pure none:=by rw [typeLookup_type,builtinLookup_eq_fast];kernel_rfl
theorem ZA {a:Addr}{o:Obj}{k:Nat}{Q:Option ak->Shared->Prop}(z:s.heap.get? a=some o) (U:o.cls = .type "list") (j:o.data = .seq xs k) (G:o.dict=none) (Y:A.handled=none)
  (h:∀h' tk,↥19->Q none { s with heap:=h',toks:=tk }):aA (aF prog w) A (getAttr? (.ref a) "keys") Q E s:=by
 obtain ⟨c,p,q,m⟩:=o
 simp only at U j G
 subst U j G
 obtain ⟨n,g,d,tk,os⟩:=s
 have l:∀f,(⟨n,g,d,f,os⟩:Shared).TypeIs (.ref a) "list":=λ_=>⟨_,z,rfl⟩
 have B:=sub_AttributeError
 have y:=F.slot_list_getattribute.lookup
 have x:=F.slot_list_getattribute.bind (.ref a)
 have v:=am_list_getattr_none
 unfold getAttr? getAttrBy? getAttrBy
 repeat (any_goals (first | assumption | exact l _ | ((with_reducible show aA _ _ (call (Value.builtin "list.__getattribute__") _ _) _ _ _);refine ig F.slot_list_getattribute (l _) am_entry_list_getattribute (F.args_list_getattribute_2 _ _) (meets_getattribute_miss_list a xs k m "keys" _ V7 (by decide +kernel) ⋯) ⟨z,Y,λh' f e i=>?_⟩) | wp_step))
 obtain ⟨t,r,u⟩:=i.there
 show aA _ _ (ou _ _ _ _ _ _ _) _ _ _
 unfold ou
 repeat (any_goals (first | assumption | wp_step))
 exact h h' f i.of.keeps
end
theorem uN:entryFor table "dict.update.loop" = some fG.«dict.update.loop»:=entryFor_of_tree (by kernel_rfl)
theorem zC:plainId "dict.update.loop" = true:=by decide +kernel
section
variable {prog:Program}{w:bA}{A:bI}{R:o8->Shared->Prop}{d it l:Addr}{items:Array ak}{qs:List (Key×ak×ak)}
noncomputable def gR (d it:Addr) (items:Array ak) (qs:List (Key×ak×ak)) (h:Heap):Prop:=∀(i:Nat) (q:Key×ak×ak),qs[i]? = some q->∃b:Addr,items[i]? = some (.ref b)/\b≠d/\b≠it/\h.IsTuple b #[q.2.1,q.2.2]
theorem gR.keep {h':Heap}(x:gR d it items qs h) (k:∀b o,b≠d->b≠it->h.get? b=some o->h'.get? b=some o):gR d it items qs h':=λi q c=>by
 obtain ⟨b,h1,h2,a,o,e,r⟩:=x i q c
 exact ⟨b,h1,h2,a,o,k b o h2 a e,r⟩
theorem ZQ (hh:A.handled=none) (Y:l≠d) (U:l≠it) (G:d≠it) (hsz:qs.length<=sizeLine) (hk:∀q∈qs,(jC prog w).is q.1 q.2.1=true) (nd:(qs.map (·.1)).Nodup) (hn:items.size=qs.length) :
  ∀(n i:Nat) (s:Shared),qs.length-i=n->i<=qs.length->s.heap.IsListIter it l i->s.heap.IsList l items->gR d it items qs s.heap->s.heap.DictOf (jC prog w) d ((qs.take i).map λq=>(q.1,q.2.2)) ->
   (∀h' tk,(∀b o,b≠d->b≠it->s.heap.get? b=some o->h'.get? b=some o)->h'.DictOf (jC prog w) d (qs.map λq=>(q.1,q.2.2))->R (.ok (.ret .none)) { s with heap:=h',toks:=tk }) ->
   d7 (aF prog w) A (.builtin "dict.update.loop" ⟨[.ref d,.ref it,cg i,.none],[]⟩) R s:=by
 have L:A.in1.handled=none:=by simp [hh]
 intro n
 induction n with
 | zero =>
  intro i s e hi st p E t I
  obtain rfl:i=qs.length:=∅
  refine eQ uN ?_
  rw [de zC _]
  show aA _ A.in1 (fS (.ref it) >>= _) _ _ s
  refine af (mJ L st p ↥84 λh' V=>?_)
  show aA _ A.in1 (Builtin.Dict.addKeywords d [] >>= _) _ _ _
  rw [aX] at t
  exact af (wpAny_pure (wpAny_pure (I h' s.toks (λb o _ h2 h=>V b o h2 h) (t.extBut V G))))
 | succ n ih =>
  intro i s e hi st p E t I
  have B:i<qs.length:=∅
  obtain ⟨⟨k,D,v⟩,m⟩:∃q,qs[i]? = some q:=⟨_,ae B⟩
  obtain ⟨b,hb,bd,bi,Q⟩:=E i _ m
  refine eQ uN ?_
  rw [de zC _]
  show aA _ A.in1 (fS (.ref it) >>= _) _ _ s
  refine af (lZ st p hb λh1 J C=>?_)
  have H:h1.IsTuple b #[D,v]:=by
   obtain ⟨o,a,r⟩:=Q
   exact ⟨o,(C.2 b bi).trans a,r⟩
  show aA _ A.in1 (dG [aV b] _ >>= _) _ _ _
  obtain ⟨X,y,P,nb,M⟩:=H
  refine af (c5 (af (lp ?_)))
  unfold Builtin.Dict.pairItems
  refine af (oS (T:="tuple") ⟨X,y,P⟩ ?_)
  rw [if_pos ⋯]
  refine af (cH y M ↥54)
  show aA _ A.in1 (dG [D,v] (dictSet d D v)) _ _ _
  have O:h1.DictOf (jC prog w) d ((qs.take i).map λq=>(q.1,q.2.2)):=t.sameBut C G
  refine c5 (wpAny_dictSet_pairs (s:={ s with heap:=h1 }) (hk _ (aB m)) O (λh2 N K=>?_) (by rw [aa,aE];omega))
  refine wpAny_pure ⟨dw zC _,?_⟩
  have keep:∀c o,c≠d->c≠it->s.heap.get? c=some o->h2.get? c=some o:=λc o g f h=>(K.2 c g).trans ((C.2 c f).trans h)
  refine ih (i+1) { s with heap:=h2,toks:=s.toks+1 } ∅ ∅ ?_ ?_ (E.keep keep) ?_ λh3 tk Z d3=>?_
  ·obtain ⟨o,a,r⟩:=J
   exact ⟨o,(K.2 it G.symm).trans a,r⟩
  ·obtain ⟨o,a,r⟩:=p
   exact ⟨o,keep l o Y U a,r⟩
  ·have e:t6 ((qs.take i).map λq=>(q.1,q.2.2)) k v=(qs.take (i+1)).map λq=>(q.1,q.2.2):=by
    rw [t6,if_neg,ba,m]
    ·simp
    ·intro z
     obtain ⟨x,hx,ex⟩:=List.any_eq_true.mp z
     obtain ⟨u,hu,rfl⟩:=List.mem_map.mp hx
     have ex:u.1=k:=of_decide_eq_true ex
     obtain ⟨j,hj,S⟩:=List.mem_iff_getElem.mp hu
     rw [aE] at hj
     rw [oZ] at S
     obtain ⟨_,eq⟩:=List.getElem?_eq_some_iff.mp m
     have h1:(qs.map (·.1))[j]'(by rw [aa];omega)=(qs.map (·.1))[i]'(by rw [aa];exact B):=by rw [eI,eI,S,eq,ex]
     exact absurd h1 (List.pairwise_iff_getElem.mp nd j i _ _ ∅)
   rw [<- e]
   exact N
  ·exact I h3 tk (λc o g f h=>Z c o g f (keep c o g f h)) d3
end
section
variable {prog:Program}{w:bA}{A:bI}{E:ak->Shared->Prop}{s:Shared}{l:Addr}{ol:Obj}{nl:Nat}{items:Array ak}{qs:List (Key×ak×ak)}
theorem QX {Q:ak->Shared->Prop}(U:A.handled=none) (j:s.heap.get? l=some ol) (G:ol.cls = .type "list") (z:ol.data = .seq items nl) (Y:ol.dict=none) (hsz:qs.length<=sizeLine) (hk:∀q∈qs,(jC prog w).is q.1 q.2.1=true) (nd:(qs.map (·.1)).Nodup) (hn:items.size=qs.length)
  (ht:∀(i:Nat) (q:Key×ak×ak),qs[i]? = some q->∃b:Addr,items[i]? = some (.ref b)/\s.heap.IsTuple b #[q.2.1,q.2.2])
  (h:∀h' tk,↥19->h'.DictOf (jC prog w) s.heap.objs.size (qs.map λq=>(q.1,q.2.2))->Q ↥16 { s with heap:=h',toks:=tk }) :
  aA (aF prog w) A (call (.type "dict") [.ref l]) Q E s:=by
 refine callType_codes (Q₁:=λobj n=>obj = .ref s.heap.objs.size/\n={ s with heap:=s.heap.push { cls:=.type "dict",data:=.dict #[] } }) F.kt_called_dict (F.kt_typeCall_dict_1 _) F.entry_dict_init (kt_code_dict_new _ ⟨rfl,rfl⟩) ?_
 rintro obj n ⟨rfl,rfl⟩
 have a:(s.heap.push { cls:=.type "dict",data:=.dict #[] }).DictOf (jC prog w) s.heap.objs.size []:=rm s.heap
 have kp:∀b o,s.heap.get? b=some o->(s.heap.push { cls:=.type "dict",data:=.dict #[] }).get? b=some o:=λb o q=>ah _ q
 refine ⟨a.typeIs,F.args_dict_init_2 _ _,?_⟩
 have lt:∀b o,s.heap.get? b=some o->b≠s.heap.objs.size:=λb o q=>aC (ax q)
 unfold fG.«dict.__init__»
 refine af ?_
 unfold Builtin.Dict.selfAndRest
 refine af (wpAny_notOrdered_dict a.typeIs ?_)
 show aA _ _ (pure (s.heap.objs.size,[aV l])) _ _ _
 refine wpAny_pure ?_
 show aA _ _ (lU "dict.__init__" s.heap.objs.size (.ref l) [] .none) _ _ _
 unfold lU
 refine af (oS (T:="list") ⟨_,kp _ _ j,G⟩ ?_)
 rw [if_pos ⋯]
 generalize H:s.heap.push { cls:=.type "dict",data:=.dict #[] }=y at *
 refine af (ZA (s:={ s with heap:=y }) (kp _ _ j) G z Y (by simp [U]) λh1 tk c=>?_)
 rw [if_pos (show (none:Option ak).isNone=true from rfl)]
 have k:h1.IsList l items:=⟨ol,c _ _ (kp _ _ j),G,nl,z⟩
 refine af (fJ ?_)
 refine af (cP (s:={ s with heap:=h1,toks:=tk }) k (wpAny_pure ⟨dw zC _,?_⟩))
 obtain ⟨D,_,_,p,_⟩:=id a
 have e:∀b o,h1.get? b=some o->b≠h1.objs.size:=λb o q=>aC (ax q)
 have g:∀b o,s.heap.get? b=some o->(h1.push { cls:=.type "list_iterator",data:=.fields #[.ref l,.int 0 0] }).get? b=some o:=λb o q=>ah _ (c _ _ (kp _ _ q))
 refine ZQ (d:=s.heap.objs.size) (it:=h1.objs.size) (l:=l) (items:=items) (qs:=qs) (by simp [U]) (lt _ _ j) (e _ _ (c _ _ (kp _ _ j))) (e _ _ (c _ _ p)) hsz hk nd hn qs.length 0 _ ∅ (aT _) ⟨_,az _ rfl,rfl,rfl⟩ (k.push _) (λi q v=>?_) ?_ λh' m u C=>?_
 ·obtain ⟨b,x,o,f,r⟩:=ht i q v
  exact ⟨b,x,lt _ _ f,e _ _ (c _ _ (kp _ _ f)),o,g _ _ f,r⟩
 ·obtain ⟨o,es,B,t,r⟩:=a
  exact ⟨o,es,B,ah _ (c _ _ t),r⟩
 ·exact ⟨rfl,h h' m (λb o q=>u b o (lt _ _ q) (e _ _ (c _ _ (kp _ _ q))) (g _ _ q)) C⟩
end
theorem uO {α β:Type}(P:Nat->α->β->Prop):∀(l:List α) (n:Nat),(∀(i:Nat) a,l[i]? = some a->∃b,P (n+i) a b)->∃bs:List β,bs.length=l.length/\∀(i:Nat) a b,l[i]? = some a->bs[i]? = some b->P (n+i) a b
 | [],n,_=>⟨[],rfl,λi a b h=>by simp at h⟩
 | x::r,n,h=>by
  obtain ⟨b,e⟩:=h 0 x rfl
  obtain ⟨bs,d,c⟩:=uO P r (n+1) λi a hi=>by
   have:=h (i+1) a (by simpa using hi)
   rwa [show n+1+i=n+(i+1) by omega]
  refine ⟨b::bs,by simp [d],λi a f h1 h2=>?_⟩
  cases i with
  | zero =>
   simp at h1 h2
   subst h1 h2
   exact e
  | succ i =>
   have:=c i a f (by simpa using h1) (by simpa using h2)
   rwa [show n+(i+1)=n+1+i by omega]
theorem gy {α β:Type}{F:α->β->Prop}:∀{l₁:List α}{j:List β},l₁.length=j.length->(∀(i:Nat) a b,l₁[i]? = some a->j[i]? = some b->F a b)->cJ F l₁ j
 | [],[],_,_=>.nil
 | [],_::_,h,_=>by simp at h
 | _::_,[],h,_=>by simp at h
 | x::r,y::t,h,k=>.cons (k 0 x y rfl rfl) (gy (by simpa using h) λi a b h1 h2=>k (i+1) a b (by simpa using h1) (by simpa using h2))
theorem Xm {X:Cx}(K:ag) (U:X.calm=true) (hK:X.K=K:=by rfl):qz X (.type "dict") (λxs H Q=>∃(p:Addr) (z:List V) (j:List (Int×Int)),xs=[.ref p]/\SqL K H p z/\cJ (λv (m:Int×Int)=>∃b,v=V.ref b/\H b=some (.tup [.int m.1,.int m.2])) z j/\(j.map (·.1)).Nodup/\j.length<=1000 /\
  ∀(d:Addr) H',H d=none->H' d=some (.dK (j.map λm=>(.inl m.1,.int m.2)))->jf H H'->Q (.ref d) H'):=by
 subst hK
 intro pins s σ H xs us Q I r h
 obtain ⟨p,z,j,rfl,hq,M,nd,l,k⟩:=h
 obtain ⟨u,rfl,A⟩:=xB r
 cases A
 obtain ⟨t,G,⟨ol,nl,ho,hc,P,O⟩,hz⟩:=I.list hq
 have D:z.length=j.length:=aZ M
 have ac:z.length=t.length:=G.length
 obtain ⟨qs,x,L⟩:=uO (λi (m:Int×Int) (q:Key×ak×ak)=>∃(b:Addr) (f c:Tok),q=(.inl m.1,.int m.1 f,.int m.2 c)/\t[i]? = some (.ref b)/\s.heap.IsTuple b #[.int m.1 f,.int m.2 c]) j 0 λi m hi=>by
  rw [mq]
  have B:i<z.length:=by rw [D];exact (List.getElem?_eq_some_iff.mp hi).1
  obtain ⟨m',g,b,eb,hb⟩:=Paired.get M (ae B)
  rw [hi] at g
  cases g
  obtain ⟨u,hu,A⟩:=G.get (ae B)
  rw [eb] at A
  cases (show u=aV b from A)
  obtain ⟨_,ab,S,o,h1,h2,n,E⟩:=(show qa X.prog X.w H s.heap b (.tup [.int m.1,.int m.2]) from I.hok b _ hb)
  cases S with
  | cons Z Y =>
   cases Y with
   | cons p2 T =>
    cases T
    obtain ⟨f,rfl⟩:=Z
    obtain ⟨c,rfl⟩:=p2
    exact ⟨_,b,f,c,rfl,hu,o,h1,h2,n,E⟩
 have get:∀(i:Nat) (q:Key×ak×ak),qs[i]? = some q->∃(m:Int×Int) (b:Addr) (f c:Tok),j[i]? = some m/\q=(.inl m.1,.int m.1 f,.int m.2 c)/\t[i]? = some (.ref b)/\s.heap.IsTuple b #[.int m.1 f,.int m.2 c]:=λi q hi=>by
  have C:i<j.length:=by rw [<- x];exact (List.getElem?_eq_some_iff.mp hi).1
  obtain ⟨b,f,c,e,h1,h2⟩:=L i _ q (ae C) hi
  rw [mq] at h1
  exact ⟨_,b,f,c,ae C,e,h1,h2⟩
 have keys:qs.map (·.1)=j.map λm=>(eA m.1:Key):=by
  refine fe λi=>?_
  rw [aw,aw]
  cases e:qs[i]? with
  | none =>
   rw [List.getElem?_eq_none_iff] at e
   rw [List.getElem?_eq_none_iff.mpr ∅]
   rfl
  | some q =>
   obtain ⟨m,b,f,c,h1,h2,_⟩:=get i q e
   rw [h1,h2]
   rfl
 have J:(qs.map (·.1)).Nodup:=by
  rw [keys,show (j.map λm=>(eA m.1:Key))=(j.map (·.1)).map eA by rw [bM];rfl]
  exact List.Pairwise.map _ (λa b h e=>h (ff e)) nd
 have R:KV (j.map λm=>((.inl m.1,.int m.2):Key×V)) (qs.map λq=>(q.1,q.2.2)):=by
  refine gy (by rw [aa,aa,x]) λi a b h1 h2=>?_
  rw [aw] at h1 h2
  obtain ⟨q,y,rfl⟩:=Option.map_eq_some_iff.mp h2
  obtain ⟨m,_,f,c,g,e,_⟩:=get i q y
  rw [g] at h1
  cases h1
  subst e
  exact ⟨rfl,c,rfl⟩
 refine QX (qs:=qs) (I.ok.hd U) ho hc O P (by rw [x];exact aI l ⋯) (λq y=>?_) J ↥84 (λi q hi=>?_) λh' tk keep dd=>?_
 ·obtain ⟨i,hi,e⟩:=List.mem_iff_getElem.mp y
  obtain ⟨m,b,f,c,h1,h2,_⟩:=get i q (by rw [ae hi,e])
  subst h2
  exact wZ (k:=.inl m.1) ⟨f,rfl⟩
 ·obtain ⟨m,b,f,c,h1,h2,E,h4⟩:=get i q hi
  subst h2
  exact ⟨b,by simpa using E,h4⟩
 ·have N:=I.hok.fresh (ar s.heap.objs.size)
  exact ⟨.ref _,upd H s.heap.objs.size (.dK (j.map λm=>((.inl m.1,.int m.2):Key×V))),I.laid (t':=tk) keep (ar _) (Xo (by rw [aa];exact aI l ⋯) (beq_eq_false_iff_ne.mpr (cC (aC I.big))) R dd),rfl,k _ _ N j4 (jf.new N)⟩
end L2
end
section
namespace L2
open PySem.W
theorem wX:∀(ns:List Int) (its:List ak),its.length=ns.length->(∀i,i<its.length->∃t,its[i]? = some (.int (ns.getD i 0) t))->ju ↥62 its
 | [],[],_,_=>.nil
 | n::ns,v::its,a,h=>by
  obtain ⟨t,e⟩:=h 0 (by simp)
  have e:v = .int n t:=by simpa using e
  refine .cons ⟨t,e⟩ (wX ns its (by simpa using a) λi hi=>?_)
  obtain ⟨t,e⟩:=h (i+1) (by simpa using hi)
  exact ⟨t,by simpa using e⟩
section
variable {X:Cx}
inductive cI_call_listD (xs:List V) (H:Hp) (Q:VK):Prop
 | mk (p:Addr) (kvs:List (Key×V)) (ns:List Int) (zz1:xs=[.ref p]) (zz2:Rd H p (.dK kvs)) (zz3:kvs.map (·.1)=ns.map eA) (zz4:ns.length<=1000) (zz5:New H (.lst ↥62) Q)
theorem km (K:ag) (G:X.calm=true) (U:X.K=K:=by rfl):qz X (.type "list") cI_call_listD:=by
 subst U
 intro pins s σ H xs S Q I r h
 obtain ⟨p,kvs,ns,rfl,v,d,J,k⟩:=h
 obtain ⟨u,rfl,D⟩:=xB r
 cases D
 obtain ⟨T,lo,b,j,O⟩:=vR I.hok v
 obtain ⟨ep,A⟩:=O.dictAt
 have m:b.length=ns.length:=by
  have l:kvs.length=b.length:=aZ j
  have c:=congrArg mP d
  rw [aa,aa] at c
  omega
 refine kdl_call (kdl_dict (knd:=jC X.prog X.w) (kvs:=b) (ep:=ep) lo) (I.ok.hd G) A (c3 (jb ∅)) λh' tk acc P L M a=>?_
 have B:acc.toList.length=ns.length:=by rw [bR,a.1,m]
 have item:∀i,i<acc.toList.length->∃t,acc.toList[i]? = some (.int (ns.getD i 0) t):=λi hi=>by
  have g:i<acc.size:=by rw [bR] at hi;exact hi
  obtain ⟨key,x,E,z⟩:=a.2 i acc[i] (dJ g)
  have f:i<kvs.length:=by
   have l:kvs.length=b.length:=aZ j
   omega
  obtain ⟨q,n,l,_⟩:=Paired.get j (ae f)
  rw [E] at n
  cases n
  have c:(kvs.map (·.1))[i]? = some key:=by rw [aw,ae f];exact congrArg some l
  have e:i<ns.length:=∅
  rw [d,aw,ae e] at c
  cases c
  obtain ⟨t,N⟩:=fQ z
  refine ⟨t,?_⟩
  rw [ib,dJ g,N,aj,ae e]
  rfl
 have y:s.heap.get? s.heap.objs.size=none:=by
  cases q:s.heap.get? s.heap.objs.size with
  | none=>rfl
  | some u=>exact absurd (ax q) (cw _)
 obtain ⟨C,R⟩:=I.laidN (o:=.lst ↥62) (t':=tk) L y λ_=>⟨by rw [aa];exact c3 (jb J),acc.toList,P,wX ns _ B item,by simpa using M⟩
 exact ⟨.ref s.heap.objs.size,_,R,rfl,k _ _ C j4 (jf.new C)⟩
inductive cI_call_maxL (K:ag) (xs:List V) (H:Hp) (Q:VK):Prop
 | mk (p:Addr) (ns:List Int) (zz1:xs=[.ref p]) (zz2:SqL K H p ↥62) (zz3:0<ns.length) (zz4:∀M,M∈ns->(∀a∈ns,a<=M)->Q (.int M) H)
theorem Z8 (K:ag) (z:X.calm=true) (G:X.K=K:=by rfl):qz X (.builtin "max") (cI_call_maxL K):=by
 subst G
 intro pins s σ H xs A Q I r h
 obtain ⟨p,ns,rfl,o,d,q⟩:=h
 obtain ⟨u,rfl,l⟩:=xB r
 cases l
 obtain ⟨y,k,m,B⟩:=I.list o
 have hi:=qm k
 have f:=m.isList
 obtain ⟨xs,e⟩:=hi.allInts.items
 have b:ns=xs.toList.map (·.1):=by
  rw [<- hi.numsOf,<- nums_intItems,<- e]
 have c:0<xs.size:=by
  have i:=d;rw [b,aa,bR] at i;exact i
 rw [e] at f
 refine max_intList (I.ok.hd z) f c λv h' tk n w=>?_
 obtain ⟨t,rfl⟩:=intItems_at n
 obtain ⟨h1,h2⟩:=sD (numAt xs) (xs.size-1)
 refine ⟨.int _,H,I.kept w,⟨t,rfl⟩,q _ ?_ λa g=>?_⟩
 ·rw [b,numAt_eq];exact getD_mem (by rw [aa,bR];omega)
 ·rw [b] at g
  obtain ⟨j,x,rfl⟩:=mem_getD g
  rw [aa,bR] at x
  rw [<- numAt_eq];exact h2 j ∅
end
end L2
end
section
namespace L2
open PySem.W
section
variable {prog:Program}{w:bA}{A:bI}{R:o8->Shared->Prop}{I:Addr}{fp wr:List Addr}{n:Nat}{P:Nat->ak->Prop}{St:Nat->Heap->Prop}{kw:List (Str×ak)}
theorem vS:(toString "max" ++ toString ".loop" : String) = "max.loop":=⋯
theorem Jl (W:Walks prog w A.in1 I fp wr n P St) (U:CmpOf prog w A.in1 .Gt P bt) {S:Addr}(ns:S∉fp) {d:ak}:∀(k j:Nat) (s:Shared) (G:ak) (c:Nat),n-(j+1)=k->j+1<=n->St (j+1) s.heap->P (nH bt j) G->s.heap.get? S=some { cls:=.type "list",dict:=none,data:=.seq #[G,G] c,slots:=#[] } ->
  (∀v h' tk,P (nH bt (n-1)) v->↥100->R (.ok (.ret v)) { s with heap:=h',toks:=tk })->d7 (aF prog w) A (.builtin "max.loop" ⟨[.ref I,.none,.ref S],[("default",d)]⟩) R s
 | k,j,s,G,c,E,H,q,x,t,u=>by
  have y:S∉wr:=λh=>ns (W.sub _ h)
  refine eQ pJ (de dA _ ▸ ?_)
  show aA _ A.in1 (pC (.ref S) >>= _) _ _ s
  refine af (cH t rfl (show aA _ A.in1 (tG (fS (.ref I)) _ >>= _) _ _ s from af (lp ?_)))
  by_cases e:j+1=n
  ·refine W.done s _ _ (e ▸ q) λh' tk a=>?_
   show aA _ A.in1 (updateSeq S (λ_=>#[]) >>= _) _ _ _
   refine af (mG (a S _ y t) rfl (af (fi (wpAny_pure (u G _ tk (by rw [<- e];exact x) λb o h1 h2 z=>?_)))))
   exact (bF _ _ (cC h2)).trans (a b o h1 z)
  ·have lt:j+1<n:=∅
   refine W.item (j+1) s _ _ lt q λv h' tk B i a=>?_
   have m:=a S _ y t
   show aA _ A.in1 (tG (dG [v,v] (richCompare .Gt v G >>= _)) _ >>= _) _ _ _
   refine af (lp (c5 (af (U (j+1) (nH bt j) v G _ _ _ B x (af (c5 (bT (af (fi ↥54)))))))))
   cases C:bt (j+1) (nH bt j) with
   | true =>
    simp only [if_true]
    refine af (mG m rfl (af (fi (vS ▸ wpAny_pure ⟨dw dA _,?_⟩))))
    refine Jl W U ns (n-(j+1+1)) (j+1) _ v _ rfl lt (W.frame _ _ _ i λb D o z=>?_) (by simp only [nH,C,if_true];exact B) (d4 _ m rfl) λr h2 f g l=>?_
    ·exact (bF _ _ (λh:S=b=>ns (by rw [h];exact D))).trans z
    ·exact u r h2 f g λb o h1 p z=>l b o h1 p ((bF _ _ (cC p)).trans (a b o h1 z))
   | false =>
    simp only [cv,if_false]
    refine af (fi (vS ▸ wpAny_pure ⟨dw dA _,?_⟩))
    exact Jl W U ns (n-(j+1+1)) (j+1) _ G c rfl lt i (by simp only [nH,C,cv,if_false];exact x) m λr h2 f g l=>u r h2 f g λb o h1 p z=>l b o h1 p (a b o h1 z)
termination_by k=>k
decreasing_by all_goals omega
theorem Q9 (W:Walks prog w A.in1 I fp wr n P St) (U:CmpOf prog w A.in1 .Gt P bt) {S:Addr}(ns:S∉fp) {s:Shared}{c:Nat}(j:St 0 s.heap) (G:s.heap.get? S=some { cls:=.type "list",dict:=none,data:=.seq #[] c,slots:=#[] })
  (h0:n=0->∀h' tk,↥100->R (.ok (.ret d)) { s with heap:=h',toks:=tk })
  (Y:0<n->∀v h' tk,P (nH bt (n-1)) v->↥100->R (.ok (.ret v)) { s with heap:=h',toks:=tk }):d7 (aF prog w) A (.builtin "max.loop" ⟨[.ref I,.none,.ref S],[("default",d)]⟩) R s:=by
 have q:S∉wr:=λh=>ns (W.sub _ h)
 refine eQ pJ (de dA _ ▸ ?_)
 show aA _ A.in1 (pC (.ref S) >>= _) _ _ s
 refine af (cH G rfl (show aA _ A.in1 (tG (fS (.ref I)) _ >>= _) _ _ s from af (lp ?_)))
 rcases Nat.eq_zero_or_pos n with e | e
 ·refine W.done s _ _ (e ▸ j) λh' tk a=>?_
  exact af (fJ (wpAny_pure (h0 e h' tk λb o h1 _ z=>a b o h1 z)))
 ·refine W.item 0 s _ _ e j λv h' tk r g a=>?_
  have f:=a S _ q G
  show aA _ A.in1 (updateSeq S (λ_=>#[v,v]) >>= _) _ _ _
  refine af (mG f rfl (vS ▸ wpAny_pure ⟨dw dA _,?_⟩))
  refine Jl W U ns _ 0 _ v _ rfl e (W.frame _ _ _ g λb t o z=>?_) r (d4 _ f rfl) λp h2 i k l=>?_
  ·exact (bF _ _ (λh:S=b=>ns (by rw [h];exact t))).trans z
  ·exact Y e p h2 i k λb o h1 m z=>l b o h1 m ((bF _ _ (cC m)).trans (a b o h1 z))
end
theorem XO (v:ak):Builtin.Builtins.bindParams "max" ["key","default"] 0 ⟨[],[(ao "default",v)]⟩=pure [none,some v]:=by rfl
theorem XC (a v:ak):argsOk "max" ⟨[a],[(ao "default",v)]⟩:=by unfold argsOk;kernel_rfl
section
variable {X:Cx}
inductive rMaxDI (K:ag) (Q:VK) (xs:List V) (y:V) (H1:Hp):Prop
 | mk (p:Addr) (ns:List Int) (d:Int) (zz1:xs=[.ref p]) (zz2:y = .int d) (zz3:SqL K H1 p ↥62) (zz4:(ns=[]->Q (.int d) H1)) (zz5:∀M,M∈ns->(∀a∈ns,a<=M)->Q (.int M) H1)
noncomputable def WC (K:ag) (ta:TA) (tx:TE):TE:=λσ H Q=>ta σ H λxs H0=>tx σ H0 λy H1=>rMaxDI K Q xs y H1
theorem VM {e:Expr}{p kpos:Pos}(K:ag) (hc:X.calm=true) (hg:Gl X "max") (hm:X.mg "max" = none) (ha:PA X [e] ta) (U:PE X x tx) (hK:X.K=K:=by rfl)
  (he:ck pos (aN [e] X.env)=↥31::ck pos (aN [] X.env):=by rfl) (G:(ck pos (aN [e] X.env)).any (·.1)=false:=by rfl) :
  PE X (.Call (.Name "max" p) [e] [⟨some (ao "default"),x,kpos⟩] pos) (WC K ta tx):=by
 subst hK
 intro pins s σ H Q I h
 refine cK (zh I hg hm nh ?_ ⋯ ⋯)
 refine pW (thn ↥50 λus s1 ⟨vs,H1,I1,r,q⟩=>?_) he G
 show aA _ _ (evalAll ((do let v <- eval x X.env;dQ pos;pure v)::[])) _ _ s1
 refine lh (af (thn (U pins s1 σ H1 _ I1 q) λv f ⟨y,H2,B,P,a,ns,d,e1,ey,Z,V,T⟩=>af (cN (wpAny_pure (lF ?_)))))
 subst e1 ey
 obtain ⟨u0,rfl,S⟩:=xB r
 cases S
 obtain ⟨t,rfl⟩:=P
 show aA _ _ (call (.builtin "max") [.ref a] [(ao "default",.int d t)]) _ _ f
 obtain ⟨c,R,E,hz⟩:=B.list Z
 have N:=qm R
 have l:=N.length
 have D:a<f.heap.objs.size:=by
  obtain ⟨o,n,e,_⟩:=id E
  exact ax e
 have item:∀(i:Nat) (v:ak),c.toArray[i]? = some v->∃t,v=df (ns.getD i 0) t:=λi v hP=>by
  have u:c[i]? = some v:=by simpa using hP
  have hi:i<c.length:=(List.getElem?_eq_some_iff.mp u).1
  obtain ⟨t',e⟩:=yS N hi
  rw [e] at u
  refine ⟨t',?_⟩
  rw [aj,ae ∅]
  exact (aJ u).symm
 have C:∀(h':Heap),(∀b o,b∉[f.heap.objs.size]->b≠ (↥95).objs.size->((↥95).push { cls:=cO "list",data:=sy #[] }).get? b=some o->h'.get? b=some o)->∀b o,f.heap.get? b=some o->h'.get? b=some o:=λh' m b o g=>by
  have L:=ax g
  refine m b o (λz=>absurd (List.mem_singleton.mp z) (aC L)) ?_ (ah _ (ah _ g))
  rw [bX]
  exact aC (bK L)
 have J:=mj (prog:=X.prog) (w:=X.w) (show (X.A.in1).handled=none from B.ok.hd hc) f.heap.objs.size a (aC D) c.toArray
 refine kmb_tree F.kind_max F.plain_max F.entry_max (XC (.ref a) (.int d t)) ?_
 refine af (n6 (XO (.int d t)) (af (wpAny_pure (af (cP E.isList (af (c6 ?_)))))))
 rw [vS]
 refine wpAny_pure ⟨dw dA _,Q9 J (bt:=λi j=>decide (ns.getD i 0 > ns.getD j 0)) (sS (λi=>ns.getD i 0) ?_) ?_ (J.frame _ _ _ ⟨⟨_,az _ rfl,rfl,rfl⟩,E.isList.at λo e=>ah _ e⟩ λb _ o e=>ah _ e) (az _ rfl) (λO h' tk m=>?_) λO v h' tk Y m=>?_⟩
 all_goals try clear J
 ·exact item
 ·intro z
  rw [show (↥95).objs.size=f.heap.objs.size+1 from bX _ _] at z
  rcases List.mem_cons.mp z with z | z
  ·exact absurd z (cz (d5 _))
  ·exact absurd (List.mem_singleton.mp z) (cz (bK D))
 ·exact ⟨.int d,_,B.kept (t':=tk) (λb o g=>C h' m b o g),⟨t,rfl⟩,V (iD (by rw [<- l];simpa using O))⟩
 ·obtain ⟨t',rfl⟩:=item _ _ Y
  obtain ⟨b1,b2⟩:=sD (λi=>ns.getD i 0) (c.toArray.size-1)
  have ab:c.toArray.size=ns.length:=by rw [<- l];simp
  refine ⟨.int _,_,B.kept (t':=tk) (λb o g=>C h' m b o g),⟨t',rfl⟩,T _ ?_ λx U=>?_⟩
  ·rw [aj,ae ∅]
   exact bL _
  ·obtain ⟨k,M,rfl⟩:=List.mem_iff_getElem.mp U
   have:=b2 k ∅
   rw [aj,ae M] at this
   exact this
end
end L2
end
section
namespace L2
open PySem.W
theorem wK:∀(ns:List Int),(∀n∈ns,-(2 ^ 20)<=n/\n<=2 ^ 20) -> -(2 ^ 20)*(ns.length:Int)<=ns.sum/\ns.sum<=2 ^ 20*(ns.length:Int)
 | [],_=>by simp
 | n::ns,h=>by
  have a:=h n (aK ..)
  have b:=wK ns λz c=>h z (aD _ c)
  rw [ir,bc]
  omega
section
variable {X:Cx}
inductive cI_call_sumZ (K:ag) (xs:List V) (H:Hp) (Q:VK):Prop
 | mk (p:Addr) (ns:List Int) (zz1:xs=[.ref p]) (zz2:SqL K H p ↥62) (zz3:ns.length<=1000) (zz4:(∀n∈ns,-(2 ^ 20)<=n/\n<=2 ^ 20)) (zz5:Q (.int ns.sum) H)
theorem yY (K:ag) (G:X.calm=true) (U:X.K=K:=by rfl):qz X (.builtin "sum") (cI_call_sumZ K):=by
 subst U
 intro pins s σ H xs M Q I r h
 obtain ⟨p,ns,rfl,B,O,l,q⟩:=h
 obtain ⟨u,rfl,y⟩:=xB r
 cases y
 obtain ⟨a,x,d,N⟩:=I.list B
 have m:=qm x
 have D:=m.length
 have k:p≠s.heap.objs.size:=by
  obtain ⟨o,n,e,_⟩:=id d
  exact aC (ax e)
 refine sR (cP d.isList ?_)
 refine ⟨s.heap.objs.size,_,_,_,_,_,λi=>ns.getD i 0,rfl,mj (show (X.A.in1).handled=none from I.ok.hd G) s.heap.objs.size p k a.toArray,⟨⟨_,az _ rfl,rfl,rfl⟩,d.isList.at λo e=>ah _ e⟩,?_,?_,?_,?_⟩
 ·intro b hb'
  have g:p<s.heap.objs.size:=by
   obtain ⟨o,n,e,_⟩:=id d
   exact ax e
  show b<(s.heap.push _).objs.size
  rw [bX]
  rcases List.mem_cons.mp hb' with rfl | hb'
  ·exact d5 _
  ·have e:b=p:=by simpa using hb'
   subst e
   exact bK g
 ·intro i v J
  have c:a[i]? = some v:=by simpa using J
  have hi:i<a.length:=(List.getElem?_eq_some_iff.mp c).1
  obtain ⟨t,e⟩:=yS m hi
  rw [e] at c
  refine ⟨t,?_⟩
  show v=df (ns.getD i 0) t
  rw [aj,ae ∅]
  exact (aJ c).symm
 ·intro j P
  have f:j<ns.length:=by
   have:a.toArray.size=a.length:=by simp
   omega
  constructor
  ·show InLong (ns.getD j 0)
   rw [aj,ae f]
   have:=l _ (bL f)
   show -(2 ^ 63)<=ns[j]/\ns[j]<2 ^ 63
   omega
  ·rw [mZ]
   have:=wK (ns.take (j+1)) λn C=>l n (iB C)
   have L:(ns.take (j+1)).length<=1000:=by rw [aE];omega
   show -(2 ^ 63)<=_/\_<2 ^ 63
   omega
 ·intro h' tk t' E
  rw [mZ,bw ↥84]
  refine ⟨.int ns.sum,H,I.kept (t':=tk) λb o w=>E b o (by
   intro z
   have:=List.mem_singleton.mp z
   subst this
   exact absurd (ax w) (cw _)) (ah _ w),⟨t',rfl⟩,q⟩
end
end L2
end
section
namespace L2
open PySem.W
section
variable {X:Cx}
theorem YG (K:ag) (G:X.K=K:=by rfl):Wt X (rIxL K):=by
 subst G
 intro pins s σ H x y v u Q I l k h
 obtain ⟨p,xs,i,z,rfl,rfl,m,o,q⟩:=h
 cases l
 obtain ⟨t,rfl⟩:=k
 obtain ⟨e,r,d,C⟩:=I.list m
 obtain ⟨j,h1,h2,E,B,A⟩:=Ji o
 obtain ⟨w,g,c⟩:=r.get h2
 have n:=r.length
 have D:=uE
 have a:EP X pins σ Q w s:=⟨z,H,I,c,q⟩
 by_cases f:0<=i
 ·have b:i.toNat=j:=by
   rw [mQ f A] at h1
   exact aJ h1
  exact wpAny_getItem_list d.isList f ∅ (by rw [b];simpa using g) a
 ·have b:(i+(e.toArray.size:Int)).toNat=j:=by
   rw [m9 ∅ B] at h1
   rw [av,<- n]
   exact aJ h1
  exact md d.isList ∅ (by rw [av] <;> omega) ∅ (by rw [b];simpa using g) a
end
end L2
end
section
namespace L2
theorem rdA {α:Type}{f Q:α->Prop}(v:α) (h:f v) (k:Q v):∃x,f x/\Q x:=⟨v,h,k⟩
theorem rdB {α β:Type}{f g Q:α->β->Prop}(v:α) (u:β) (h:f v u) (h':g v u) (k:Q v u):∃x y,f x y/\g x y/\Q x y:=⟨v,u,h,h',k⟩
end L2
end
section
namespace L2
open PySem.W
noncomputable abbrev Cx.noX (X:Cx):Cx:={ X with xe:=λ_ _=>False }
section
variable {X:Cx}{pins:List (Addr×Obj)}{σ:St}{H:Hp}{s:Shared}
theorem Inv.toNoX (I:Inv X pins σ H s):Inv X.noX pins σ H s:=⟨okP I.ok _ rfl,I.os,I.bare,I.base,I.loc,I.cell,I.free,I.freeC,I.pin,I.hok,I.len⟩
theorem Inv.ofNoX (I:Inv X.noX pins σ H s):Inv X pins σ H s:=⟨okP I.ok _ rfl,I.os,I.bare,I.base,I.loc,I.cell,I.free,I.freeC,I.pin,I.hok,I.len⟩
theorem Yk {st:Stmt}(h:PS X.noX st t):PS X st t:=λpins s σ H D I q=>thn (wpAny_noRaise (h pins s σ H D I.toNoX q)) λ_ _ z=>UW (λI=>I.ofNoX) z
end
end L2
end
section
namespace L2
open PySem.W
section
variable {X:Cx}
inductive rMaxNI (K:ag) (Q:VK) (xs:List V) (y:V) (H1:Hp):Prop
 | mk (p:Addr) (ns:List Int) (zz1:xs=[.ref p]) (zz2:SqL K H1 p ↥62) (zz3:(ns=[]->Q y H1)) (zz4:∀M,M∈ns->(∀a∈ns,a<=M)->Q (.int M) H1)
noncomputable def Wm (K:ag) (ta:TA) (tx:TE):TE:=λσ H Q=>ta σ H λxs H0=>tx σ H0 λy H1=>rMaxNI K Q xs y H1
theorem Vp {e:Expr}{p kpos:Pos}(K:ag) (hc:X.calm=true) (hg:Gl X "max") (hm:X.mg "max" = none) (ha:PA X [e] ta) (U:PE X x tx) (hK:X.K=K:=by rfl)
  (he:ck pos (aN [e] X.env)=↥31::ck pos (aN [] X.env):=by rfl) (G:(ck pos (aN [e] X.env)).any (·.1)=false:=by rfl) :
  PE X (.Call (.Name "max" p) [e] [⟨some (ao "default"),x,kpos⟩] pos) (Wm K ta tx):=by
 subst hK
 intro pins s σ H Q I h
 refine cK (zh I hg hm nh ?_ ⋯ ⋯)
 refine pW (thn ↥50 λus s1 ⟨vs,H1,I1,r,q⟩=>?_) he G
 show aA _ _ (evalAll ((do let v <- eval x X.env;dQ pos;pure v)::[])) _ _ s1
 refine lh (af (thn (U pins s1 σ H1 _ I1 q) λv d ⟨y,H2,u,O,a,ns,e1,Y,T,S⟩=>af (cN (wpAny_pure (lF ?_)))))
 subst e1
 obtain ⟨u0,rfl,R⟩:=xB r
 cases R
 show aA _ _ (call (.builtin "max") [.ref a] [(ao "default",v)]) _ _ d
 obtain ⟨c,P,D,hz⟩:=u.list Y
 have M:=qm P
 have g:=M.length
 have C:a<d.heap.objs.size:=by
  obtain ⟨o,n,e,_⟩:=id D
  exact ax e
 have item:∀(i:Nat) (v:ak),c.toArray[i]? = some v->∃t,v=df (ns.getD i 0) t:=λi v Z=>by
  have m:c[i]? = some v:=by simpa using Z
  have hi:i<c.length:=(List.getElem?_eq_some_iff.mp m).1
  obtain ⟨t',e⟩:=yS M hi
  rw [e] at m
  refine ⟨t',?_⟩
  rw [aj,ae ∅]
  exact (aJ m).symm
 have B:∀(h':Heap),(∀b o,b∉[d.heap.objs.size]->b≠ (↥96).objs.size->((↥96).push { cls:=cO "list",data:=sy #[] }).get? b=some o->h'.get? b=some o)->∀b o,d.heap.get? b=some o->h'.get? b=some o:=λh' l b o f=>by
  have J:=ax f
  refine l b o (λz=>absurd (List.mem_singleton.mp z) (aC J)) ?_ (ah _ (ah _ f))
  rw [bX]
  exact aC (bK J)
 have E:=mj (prog:=X.prog) (w:=X.w) (show (X.A.in1).handled=none from u.ok.hd hc) d.heap.objs.size a (aC C) c.toArray
 refine kmb_tree F.kind_max F.plain_max F.entry_max (XC (.ref a) v) ?_
 refine af (n6 (XO v) (af (wpAny_pure (af (cP D.isList (af (c6 ?_)))))))
 rw [vS]
 refine wpAny_pure ⟨dw dA _,Q9 E (bt:=λi j=>decide (ns.getD i 0 > ns.getD j 0)) (sS (λi=>ns.getD i 0) ?_) ?_ (E.frame _ _ _ ⟨⟨_,az _ rfl,rfl,rfl⟩,D.isList.at λo e=>ah _ e⟩ λb _ o e=>ah _ e) (az _ rfl) (λN h' tk l=>?_) λN v h' tk V l=>?_⟩
 all_goals try clear E
 ·exact item
 ·intro z
  rw [show (↥96).objs.size=d.heap.objs.size+1 from bX _ _] at z
  rcases List.mem_cons.mp z with z | z
  ·exact absurd z (cz (d5 _))
  ·exact absurd (List.mem_singleton.mp z) (cz (bK C))
 ·exact ⟨y,_,u.kept (t':=tk) (λb o f=>B h' l b o f),O,T (iD (by rw [<- g];simpa using N))⟩
 ·obtain ⟨t',rfl⟩:=item _ _ V
  obtain ⟨b1,b2⟩:=sD (λi=>ns.getD i 0) (c.toArray.size-1)
  have ab:c.toArray.size=ns.length:=by rw [<- g];simp
  refine ⟨.int _,_,u.kept (t':=tk) (λb o f=>B h' l b o f),⟨t',rfl⟩,S _ ?_ λx U=>?_⟩
  ·rw [aj,ae ∅]
   exact bL _
  ·obtain ⟨k,L,rfl⟩:=List.mem_iff_getElem.mp U
   have:=b2 k ∅
   rw [aj,ae L] at this
   exact this
end
end L2
end
section
namespace K30
open L2
local macro_rules | `(tactic| walk_at "hp")=>`(tactic| first | assumption | exact j4 | (rw [j7 (by first | assumption | (apply cC;assumption))];first | assumption | exact j4))
local macro_rules | `(tactic| walk_at "num")=>`(tactic| first | decide | omega)
local macro_rules | `(tactic| walk_at "rd1")=>`(tactic| first | refine rdA _ rfl ?_ | refine rdB _ _ rfl rfl ?_ | refine ⟨_,rfl,?_⟩ | refine ⟨_,_,rfl,rfl,?_⟩ | refine fP (show Yh _ _ from fI ⟨by walk_at "num",by walk_at "num"⟩) ?_ | refine fP (show Yh _ _ from aU ⟨by walk_at "num",by walk_at "num"⟩) ?_ | refine fP (show VT _ _ from ⟨by walk_at "num",by walk_at "num"⟩) ?_ | refine fP (show Wu _ _ from ⟨by walk_at "num",by walk_at "num",by walk_at "num"⟩) ?_ | refine fP (show (0:Int)<_ by walk_at "num") ?_ | refine ⟨_,_,_,_,rfl,rfl,SqL.of (by walk_at "hp"),(by rfl),?_⟩ | refine ⟨_,_,_,_,rfl,rfl,SqT.of (by walk_at "hp"),(by rfl),?_⟩ | refine ⟨_,_,_,_,rfl,rfl,(by assumption),(by rfl),?_⟩ | refine ⟨_,_,_,_,rfl,rfl,(by walk_at "hp"),(by rfl),?_⟩ | refine ⟨rfl,?_⟩)
local macro_rules | `(tactic| walk_at "r")=>`(tactic| repeat walk_at "rd1")
local macro_rules | `(tactic| walk_at "s")=>`(tactic| exact ⟨rfl,rfl,rfl,by decide +kernel,rfl,by decide +kernel,by decide +kernel⟩)
local macro_rules | `(tactic| walk_at "k")=>`(tactic| decide +kernel)
local macro_rules | `(())=>`(by first | lia | omega)
local macro_rules | `(tactic| right)=>`(tactic| first | lia | omega)
local macro_rules | `(∅)=>`(by decide +kernel)
local macro_rules | `(tactic| walk_at "w")=>`(tactic| (intro _ z;cases z))
local macro_rules | `(tactic| walk_at "z")=>`(tactic| (intro z;cases z))
local macro_rules | `(tactic| left)=>`(tactic| walk_at "r")
noncomputable def top (i:Nat):Stmt:=PySem.Challenge.pw_firnfall_k30_whole_snouts_come_round.main.body.getD i (.Pass ⟨0,0,0,0⟩)
noncomputable abbrev zH:Stmt:=top 16
noncomputable abbrev yq:Stmt:=top 17
noncomputable abbrev vA:Stmt:=top 18
noncomputable abbrev gL:Stmt:=top 19
noncomputable abbrev qQ:Stmt:=top 20
noncomputable abbrev vw:Stmt:=top 21
noncomputable abbrev wU:Stmt:=top 22
noncomputable abbrev xo:Stmt:=top 23
noncomputable abbrev yW:Stmt:=top 24
noncomputable abbrev y9:Stmt:=top 29
noncomputable abbrev yp:Stmt:=top 30
noncomputable abbrev wH:Stmt:=top 31
noncomputable abbrev yo:Stmt:=top 36
noncomputable abbrev zO:Stmt:=top 38
noncomputable abbrev qG:Stmt:=(xb (top 39) 0)
noncomputable abbrev wt:Stmt:=(xb (top 39) 1)
noncomputable abbrev yG:Stmt:=(xb (top 39) 2)
noncomputable abbrev xz:Stmt:=(xb (top 39) 4)
noncomputable abbrev xg:Stmt:=(xb (top 39) 5)
noncomputable abbrev zP:Stmt:=(xb (top 39) 6)
noncomputable abbrev zQ:Stmt:=(xb (top 39) 7)
noncomputable abbrev yC:Stmt:=(xb (top 39) 8)
noncomputable abbrev yw:Stmt:=(xb (top 39) 10)
noncomputable abbrev zx:Stmt:=(xb (top 39) 13)
noncomputable abbrev xH:Stmt:=(xb (top 39) 14)
noncomputable abbrev vm:Stmt:=(xb (top 39) 16)
noncomputable abbrev zX:Stmt:=top 41
noncomputable abbrev xA:Stmt:=top 42
noncomputable abbrev xT:Stmt:=top 44
noncomputable abbrev vI:Stmt:=top 45
noncomputable abbrev vg:Stmt:=top 46
noncomputable abbrev uC:Stmt:=top 48
noncomputable abbrev yP:Stmt:=top 49
noncomputable abbrev vh:Stmt:=top 50
noncomputable abbrev yQ:Stmt:=top 51
noncomputable abbrev zN:Stmt:=top 52
noncomputable abbrev zF:Stmt:=top 53
noncomputable abbrev qh:Stmt:=top 54
noncomputable abbrev qY:Stmt:=top 55
noncomputable abbrev xL:Stmt:=top 56
noncomputable abbrev yk:Stmt:=top 57
noncomputable abbrev vv:Stmt:=top 58
noncomputable abbrev xP:Stmt:=top 59
noncomputable abbrev vB:Stmt:=top 60
noncomputable abbrev uw:Stmt:=top 61
noncomputable abbrev vC:Stmt:=top 62
noncomputable abbrev yr:Stmt:=top 63
noncomputable abbrev zJ:Stmt:=top 64
noncomputable abbrev vq:Stmt:=top 65
noncomputable abbrev xp:Stmt:=top 66
noncomputable abbrev xU:Stmt:=top 67
noncomputable abbrev xc:Stmt:=top 68
noncomputable abbrev zd:Stmt:=top 69
noncomputable abbrev vf:Stmt:=top 70
section
variable {P:Program}{w:bA}{K:ag}{mg:Str->Option ak}{base:Heap}
noncomputable abbrev Ul:Pos:=⟨47,28,47,49⟩
noncomputable abbrev qx (H:Hp) (Pt:Addr):Prop:=Tab H Pt Ul (("lanes" : Str) ++ ".<locals>." ++ "<lambda>")
inductive spLeads  (vs:List V) (H:Hp) (Q:VK) (z_3:XK):Prop
 | mk (i:Nat) (t:Int) (_:vs=[.int i,.int t]) (_:Q (.bl (xC i t)) H)
theorem Qj:FnScope ["number","to"] ["number","to"] (j8 vA):=by walk_at "s"
theorem Ql (F:Fun K "leads_on" "leads_on" vA f fd):FnOk P w K mg base CX0 1 f fd ["number","to"] spLeads:=by
 refine F.ok Qj (λd H Q E h=>?_) (λg A outer s H d Q E j h=>?_)
 ·obtain ⟨i,t,rfl,_⟩:=h
  rfl
 ·obtain ⟨i,t,rfl,k⟩:=h
  refine ⟨_,(j6 (qc (jv vZ (pv 0) j5 (jK _)) (j9 (jj (ym vZ (pv 1) (zi xh j5) (jK _)))) jA)
   (j9 (jj (y4 qJ vP j5 (pv 1) (pv 0))))),?_⟩
  have c:∀b:Bool,b=xC i t->Q (.bl b) H:=λb e=>by rw [e];exact k
  left
  refine qH (λh1=>?_) (λh1=>?_)
  ·left
   have a:i=0:=by have:=V.int.inj h1;right
   refine c _ ?_
   unfold xC
   rw [if_pos a]
   exact decide_eq_decide.mpr ⟨λz=>V.int.inj z,λz=>by rw [z]⟩
  ·have a:i≠0:=λz=>h1 (by rw [z];rfl)
   left
   refine qH (λh2=>?_) (λh2=>?_)
   ·left
    refine c _ ?_
    unfold xC
    rw [if_neg a]
    exact decide_eq_decide.mpr ⟨λz=>⟨h2,z⟩,λz=>z.2⟩
   ·refine c _ ?_
    unfold xC
    rw [if_neg a,decide_eq_false (λz=>h2 z.1)]
inductive spReach  (vs:List V) (H:Hp) (Q:VK) (z_3:XK):Prop
 | mk (i:Nat) (v:V) (r:Rch) (_:vs=[.int i,v]) (_:Jr H v r) (_:r.2.length<=100) (_:∀H',jf H H'->Q (.bl (okR i r)) H')
theorem yO:FnScope ["number","reach","to","slope"] ["number","reach"] (j8 yq):=by walk_at "s"
theorem JF (nb:Nb2 mg) (U:mg "MOST_HEIGHTS" = some (.int 12 u0)) (G:mg "GREATEST_HEIGHT" = some (.int 99 u1)) (Y:Cal P w K mg base 1 "leads_on" ["number","to"] spLeads) (F:Fun K "is_reach" "is_reach" yq f fd):FnOk P w K mg base CX0 2 f fd ["number","reach"] spReach:=by
 refine F.ok yO (λR H Q E h=>?_) (λab A outer s H R Q E T h=>?_)
 ·obtain ⟨i,v,r,rfl,_⟩:=h
  rfl
 ·obtain ⟨i,v,⟨t,d⟩,rfl,⟨p,g,rfl,X,D⟩,J,k⟩:=h
  have O:d.length<=100:=J
  have l:∀(b:Bool) (H':Hp),jf H H'->b=okR i (t,d)->Q (.bl b) H':=λb H' S e=>by rw [e];exact k H' S
  refine ⟨_,(j6 (yL (pv 1) (qt (n:=2) K rfl (jn (jc (i:=2) yO.nd rfl (aU rfl)) (jn (jc (i:=3) yO.nd rfl (aU rfl)) qu))))
   (j6 (qc (PW.pt (JJ (qL (zp (jg Y (T.mono ⋯) rfl (j0 (pv 0) ↥91)))) (J6 (qL (zo qJ qJ j5 (jd (ja K) rfl nb.b_len aH (j0 (pv 3) j2)) (xu (v:=V.int 12) rfl U ⟨_,rfl⟩)))))) (j9 (jj yy)) jA)
   (j9 (jj (jd (zT K rfl) rfl nb.b_all p0 (j0 (jE (osc:=(j8 yq)) (ON:=["number","reach","to","slope"]) (N:=["height"]) (own:=1) (caps:=[]) ⟨rfl,∅,∅,∅,rfl,∅⟩ rfl rfl rfl (yb K (pv 3)) (λ_ _ _ _ _=>(jc (i:=0) (show aS (["height"]:List Str) by decide +kernel) rfl (aU rfl))) ↥14 (λ_ _ _ _ _=>(y4 qJ qJ j5 (pv 0) (xu (v:=V.int 99) rfl G ⟨_,rfl⟩)))) j2)))))),?_⟩
  left
  refine ⟨p,_,rfl,SqT.of X,rfl,?_⟩
  refine ⟨_,_,rfl,_,_,rfl,rfl,?_⟩
  left
  refine ⟨i,t,rfl,?_⟩
  left
  cases C:xC i t with
  | false =>
   refine kB ?_
   left
   exact l _ H (jf.refl H) (by unfold okR;rw [C];rfl)
  | true =>
   refine Uo ?_
   left
   refine ⟨_,_,rfl,.inr (SqT.of D),?_⟩
   left
   rw [aa]
   refine qH (λh1=>?_) (λh1=>?_)
   ·left
    refine zS (λh2=>?_) (λh2=>?_)
    ·left
     exact l _ H (jf.refl H) (by unfold okR;rw [C,decide_eq_false (λz=>h2 z.2)];rfl)
    ·left
     refine ⟨⟨_,SqT.of D⟩,λacc q=>?_⟩
     refine JO (K:=K) (a:=g) (xs:=d.map V.int) (acc:=acc) (λj σ H2=>∃x:Option V,σ=[x]/\H2 acc=some (.lst (((d.take j).map λx=>decide (0<=x/\x<=99)).map V.bl))/\Ext acc H H2) ?_ ?_ ?_ ?_
     ·exact ⟨none,rfl,j4,Ext.put⟩
     ·rintro j σ H2 Z ⟨x,rfl,u,B⟩
      exact SqT.of (B _ _ D (j1 D q))
     ·rintro j v σ H2 m ⟨x,rfl,u,B⟩
      obtain ⟨z,rfl⟩:=yB m
      have L:d[j]? = some z:=by
       rw [aw] at m
       cases e:d[j]? with
       | none=>rw [e] at m;cases m
       | some y=>rw [e] at m;cases m;rfl
      have Z:j<d.length:=(List.getElem?_eq_some_iff.mp L).1
      have done:∀b:Bool,b=decide (0<=z/\z<=99)->∃ys,H2 acc=some (.lst ys)/\ys.length<sizeLine/\∃x:Option V,[some (V.int z)]=[x]/\upd H2 acc (.lst (ys++[V.bl b])) acc=some (.lst (((d.take (j+1)).map λx=>decide (0<=x/\x<=99)).map V.bl))/\Ext acc H (upd H2 acc (.lst (ys++[V.bl b]))):=λb e=>by
       refine ⟨_,u,by rw [aa,aa,aE];exact jb (),_,rfl,?_,B.trans Ext.put⟩
       rw [j4,qv (λx=>decide (0<=x/\x<=99)) d j z L,aq,e]
       rfl
      left
      refine qH (λI=>?_) (λI=>?_)
      ·left
       exact done _ (decide_eq_decide.mpr ⟨λy=>⟨I,y⟩,λy=>y.2⟩)
      ·exact done _ (decide_eq_false λy=>I y.1).symm
     ·rintro σ H2 ⟨x,rfl,u,B⟩
      rw [aa,aX] at u
      refine ⟨acc,_,rfl,SqL.of u,?_⟩
      refine l _ H2 (λc o M=>B c o M (j1 M q)) ?_
      unfold okR
      rw [C,decide_eq_true (show (1<=(d.length:Int)/\(d.length:Int)<=12) from ⟨h1,h2⟩),i4]
      rfl
   ·refine ⟨_,rfl,kB ?_⟩
    left
    exact l _ H (jf.refl H) (by unfold okR;rw [C,decide_eq_false (λz=>h1 z.1)];rfl)
inductive spWayDown (K:ag) (vs:List V) (H:Hp) (Q:VK) (z_3:XK):Prop
 | mk (p:Addr) (xs:List V) (rs:List Rch) (h:Nat) (_:vs=[.ref p,.int h]) (_:H p=some (.lst xs)) (_:jV H xs rs) (_:xn rs) (_:h<rs.length) (_:rs.length<=100) (_:∀t H',H t=none->H' t=some (.tup ((qr rs h).map V.int))->jf H H'->Q (.ref t) H')
theorem zE:FnScope ["reaches","head","way","reach"] ["reaches","head"] (j8 vw):=by walk_at "s"
theorem Q7 (Y:Nb2 mg) (F:Fun K "way_down" "way_down" vw f fd):FnOk P w K mg base CX0 1 f fd ["reaches","head"] (spWayDown K):=by
 refine F.ok zE (λU H Q E h=>?_) (λai A outer s H U Q E hr h=>?_)
 ·obtain ⟨p,xs,rs,h,rfl,_⟩:=h
  rfl
 ·obtain ⟨p,xs,rs,h,rfl,I,y,L,hh,ac,k⟩:=h
  refine ⟨_,(j6 (jz 2 zE.nd (jS j2))
   (j6 (jz 3 zE.nd (pv 1))
   (j6 (wn bj (jv YW (pv 3) j5 (jK _)) (j6 (jU (zM K bC bG bH qk (pv 2) (j0 (pv 3) j2)))
   (j9 (jz 3 zE.nd (ji (jG K) (ji (je K) (pv 0) (pv 3) (λ_ _=>rfl)) j5 (λ_ _=>rfl))))))
   (j9 (jj (qd (zm K) rfl Y.b_tuple eJ ↥91)))))),?_⟩
  left
  refine ⟨aT _,λwy H1 n m s1=>?_⟩
  left
  have ab:=y.length
  refine Q8 (λσ H2=>∃(a:List Int) (r:Int),σ=[some (.ref p),some (.int h),some (.ref wy),some (.int r)]/\H2 wy=some (.lst (a.map V.int))/\Ext wy H1 H2 /\ -1<=r/\r<rs.length/\a.length+(r+1).toNat<=100/\a++(if r<0 then [] else qr rs r.toNat)=qr rs h) (λσ H2=>match σ with | [_,_,_,some (.int r)]=>(r+1).toNat | _=>0) ?_ ?_ ?_
  ·refine ⟨[],h,rfl,m,Ext.refl,(),(),by simp;right,?_⟩
   rw [if_neg ()]
   rfl
  ·rintro σ H2 ⟨a,r,rfl,b,d,r0,r1,rl,u⟩
   left
   refine qH (λB=>?_) (λB=>?_)
   ·have R:H2 p=some (.lst xs):=d _ _ (s1 _ _ I) (j1 I n)
    have D:jV H2 xs rs:=y.keep ((jo.same s1).trans (jo.lst d m))
    have hi:r.toNat<rs.length:=()
    obtain ⟨v,hv,q,g,rfl,G,hg⟩:=D.at (ae hi)
    have l:=L.lt hi
    have x:=(wg (L _ hi)).2.1
    have J:=Jp (ae hi)
    rw [J] at l x
    generalize (rs[r.toNat]'hi).1=C at l x J G
    left
    refine ⟨.inl ⟨rfl,_,SqL.of b⟩,?_⟩
    left
    refine ⟨wy,_,_,rfl,rfl,b,by rw [aa];exact jb (),?_⟩
    have S:q≠wy:=jm G b ↥4
    have O:upd H2 wy (.lst (a.map V.int++[.int r])) p=some (.lst xs):=by rw [j7 (j1 I n)];exact R
    have N:upd H2 wy (.lst (a.map V.int++[.int r])) q=some (.tup [.int C,.ref g]):=by rw [j7 S];exact G
    left
    refine ⟨_,_,_,_,rfl,rfl,SqL.of O,qO B hv,?_⟩
    refine ⟨_,_,_,_,rfl,rfl,SqT.of N,rfl,?_⟩
    refine ⟨⟨a++[r],C,rfl,?_,d.trans Ext.put,(),(),?_,?_⟩,?_⟩
    ·rw [j4,aq];rfl
    ·rw [ay,bp];right
    ·rw [<- u,if_neg (show ¬r<0 by right),zI L hi,J,fc]
     congr 1
     show r::_=_
     congr 1
     right
    ·show (C+1).toNat<(r+1).toNat
     right
   ·rw [if_pos (),b0] at u
    subst u
    left
    refine ⟨wy,_,rfl,SqL.of b,λt H3 l M X=>?_⟩
    exact k t H3 (s1.free (d.free l (λz=>by rw [z,b] at l;cases l))) M (λc o T=>X _ _ (d _ _ (s1 _ _ T) (j1 T n)))
  ·intro σ H2 Q1 Q2 hQ h
   obtain ⟨v,e,r⟩:=h
   obtain ⟨i,j,e1,d,Z,e3,r⟩:=r
   exact ⟨v,e,i,j,e1,d,Z,e3,hQ _ _ r⟩
inductive spCount (K:ag) (vs:List V) (H:Hp) (Q:VK) (z_3:XK):Prop
 | mk (p a:Addr) (xs:List V) (rs:List Rch) (way:List Int) (_:vs=[.ref p,.ref a]) (_:H p=some (.lst xs)) (_:jV H xs rs) (_: ↥105) (_:H a=some (.tup (way.map V.int))) (_:(∀r∈way,0<=r/\r<rs.length)) (_:way.length<=100) (_:∀H',jf H H'->Q (.int (jx rs way)) H')
theorem uT:FnScope ["reaches","way"] ["reaches","way"] (j8 xo):=by walk_at "s"
theorem uS (U:Nb2 mg) (F:Fun K "count_places" "count_places" xo f fd):FnOk P w K mg base CX0 1 f fd ["reaches","way"] (spCount K):=by
 refine F.ok uT (λM H Q E h=>?_) (λZ A outer s H M Q E t h=>?_)
 ·obtain ⟨p,a,xs,rs,z,rfl,_⟩:=h
  rfl
 ·obtain ⟨p,a,xs,rs,z,rfl,J,u,G,D,B,Y,k⟩:=h
  have S:=u.length
  refine ⟨_,(j9 (jj (jd (JN K rfl) rfl U.b_sum ni (j0 (jE (osc:=(j8 xo)) (ON:=["reaches","way"]) (N:=["reach","reaches"]) (own:=1) (caps:=[0]) ⟨rfl,∅,∅,∅,rfl,∅⟩ rfl rfl rfl (yb K (pv 1)) (λ_ _ _ _ _=>(jc (i:=0) (show aS (["reach","reaches"]:List Str) by decide +kernel) rfl (aU rfl))) ↥14 (λ_ _ _ _ _=>(jd (ja K) rfl U.b_len aH (j0 (ji (jG K) (ji (je K) (pv 1) (pv 0) (λ_ _=>rfl)) j5 (λ_ _=>rfl)) j2)))) j2)))),?_⟩
  left
  refine ⟨⟨_,SqT.of D⟩,λacc b=>?_⟩
  refine JO (K:=K) (a:=a) (xs:=z.map V.int) (acc:=acc) (λj σ H2=>∃x:Option V,σ=[x,some (.ref p)]/\H2 acc=some (.lst (((z.take j).map λr=>((zK rs r.toNat).length:Int)).map V.int))/\Ext acc H H2) ?_ ?_ ?_ ?_
  ·exact ⟨none,rfl,j4,Ext.put⟩
  ·rintro j σ H2 T ⟨x,rfl,m,d⟩
   exact SqT.of (d _ _ D (j1 D b))
  ·rintro j v σ H2 l ⟨x,rfl,m,d⟩
   obtain ⟨r,rfl⟩:=yB l
   have C:z[j]? = some r:=by
    rw [aw] at l
    cases e:z[j]? with
    | none=>rw [e] at l;cases l
    | some y=>rw [e] at l;cases l;rfl
   have T:j<z.length:=(List.getElem?_eq_some_iff.mp C).1
   have t:=B r (aB C)
   have hi:r.toNat<rs.length:=()
   obtain ⟨v,I,q,g,rfl,O,X⟩:=(u.keep (jo.new d b)).at (ae hi)
   left
   refine ⟨_,_,_,_,rfl,rfl,SqL.of (d _ _ J (j1 J b)),qO t.1 I,?_⟩
   refine ⟨_,_,_,_,rfl,rfl,SqT.of O,rfl,?_⟩
   refine ⟨_,_,rfl,.inr (SqT.of X),?_⟩
   refine ⟨_,m,by rw [aa,aa,aE];exact jb (),_,rfl,?_,d.trans Ext.put⟩
   rw [j4,qv (λr:Int=>((zK rs r.toNat).length:Int)) z j r C,aq,Jj (ae hi),aa]
   rfl
  ·rintro σ H2 ⟨x,rfl,m,d⟩
   rw [aa,aX] at m
   refine ⟨acc,_,rfl,SqL.of m,by rw [aa];right,λn R=>?_,?_⟩
   ·obtain ⟨r,t,rfl⟩:=List.mem_map.mp R
    have hb:=B r t
    have hi:r.toNat<rs.length:=()
    have:=G _ (bL hi)
    rw [Jj (ae hi)]
    right
   ·exact k H2 λc o L=>d c o L (j1 L b)
inductive spLanes (K:ag) (Pt:Addr) (vs:List V) (H:Hp) (Q:VK) (z_3:XK):Prop
 | mk (p:Addr) (xs:List V) (rs:List Rch) (_:vs=[.ref p]) (_:H p=some (.lst xs)) (_:jV H xs rs) (_:xn rs) (_:rs.length<=60) (_:qx H Pt) (_:∀l H' out ws,H l=none->H' l=some (.lst out)->y6 H' out ws->jW rs ws->Ext Pt H H'->qx H' Pt->Q (.ref l) H')
theorem wD:FnScope ["reaches","entered","ways"] ["reaches"] (j8 qQ):=by walk_at "s"
theorem Jz {α:Type}(l:List α) (d:α):((aG l.length).map λi=>l.getD i d)=l:=by
 apply lS
 ·simp
 ·intro i h1 h2
  simp [h2]
theorem kR {vs:List V}{ws:List (List Int)}(h:y6 H vs ws):∀z:List Nat,(∀i∈z,i<vs.length)->y6 H (z.map λi=>vs.getD i V.non) (z.map λi=>ws.getD i [])
 | [],_=>.nil
 | i::z,b=>by
  refine .cons ?_ (kR h z λj c=>b j (aD _ c))
  have hi:=b i aK
  obtain ⟨y,f,a,e,d⟩:=Paired.get h (ae hi)
  refine ⟨a,?_,?_⟩
  ·show vs.getD i V.non=V.ref a
   rw [aj,ae hi];exact e
  ·show H a=some (.tup ((ws.getD i []).map V.int))
   rw [aj,f];exact d
theorem J8 {j:List (List Int)}{vs z:List V}(Y:j=(jq rs).map (qr rs)) (G:y6 H vs j) (k:jo H H') (U:vN uU (λi=>(j.getD i []).reverse) vs z):∃ws,y6 H' z ws/\jW rs ws:=by
 obtain ⟨a,c,e,b⟩:=U
 have d:∀i∈a,i<vs.length:=λi hi=>by have:=c.mem_iff.mp hi;simpa using this
 refine ⟨a.map λi=>j.getD i [],by rw [e];exact (kR G a d).keep k,?_,?_⟩
 ·have:=c.map λi=>j.getD i []
  rw [G.length,Jz] at this
  rw [<- Y]
  exact this
 ·rw [bM]
  exact b
theorem ZY {oc:ak}{od:Option Addr}{a2:Array (Option ak)}{kV pm:ak}(nb:Nb2 mg) (G:Cal P w K mg base 1 "way_down" ["reaches","head"] (spWayDown K)) (CH:PySem.W.CodeHd base c Pt) (bd:Bm mg base)
  (l:K.lookup f=some ⟨oc,od,.func (bS "lanes" "lanes" (jX qQ) (jR qQ) (j8 qQ) .none kV doc pm an (.ref c) ct),a2⟩) (cd:cS K (.ref c) "lanes" = true) :
  FnOk P w K mg base CX0 5 f (bS "lanes" "lanes" (jX qQ) (jR qQ) (j8 qQ) .none kV doc pm an (.ref c) ct) ["reaches"] (spLanes K Pt):=by
 refine Fun.okC l cd wD (λb H Q E h=>?_) (λA outer s H b Q E S h=>?_)
 ·obtain ⟨p,xs,rs,rfl,_⟩:=h
  rfl
 ·obtain ⟨p,xs,rs,rfl,U,R,L,bi,hT,k⟩:=h
  have Y:=R.length
  refine ⟨_,(j6 (zc (i:=1) wD.nd rfl (fI rfl) (jE (osc:=(j8 qQ)) (ON:=["reaches","entered","ways"]) (N:=["to","slope"]) (own:=2) (caps:=[]) ⟨rfl,∅,∅,∅,rfl,∅⟩ rfl rfl rfl (jN K (pv 0)) (λ_ _ _ _ _=>(qt (n:=2) K rfl (jn (jc (i:=0) (show aS (["to","slope"]:List Str) by decide +kernel) rfl (aU rfl)) (jn (jc (i:=1) (show aS (["to","slope"]:List Str) by decide +kernel) rfl (aU rfl)) qu)))) ↥14 ↥106))
   (j6 (zG (j:=2) (osc:=(j8 qQ)) (ON:=["reaches","entered","ways"]) (N:=["head","reaches","entered"]) (own:=1) (caps:=[0,1]) ⟨rfl,∅,∅,∅,rfl,∅⟩ wD.nd rfl (aU rfl) rfl rfl rfl (jY rfl nb.b_range (j0 (jd (ja K) rfl nb.b_len aH ↥33) j2)) (λ_ _ _ _ _=>(jc (i:=0) (show aS (["head","reaches","entered"]:List Str) by decide +kernel) rfl (aU rfl))) (λ_ _ _ _ _=>(zj (jv (xG K) (pv 0) (pv 2) ↥56))) (λ_ _ _ _ _=>(jg G (S.mono ⋯) rfl (j0 (pv 1) ↥33))))
   (j9 (jj (Xe (N:=["way"]) (x:="way") (k:=0) rfl nb.b_sorted ↥91 rfl CH bd (S.mono ⋯) (by walk_at "s") (λ_ _ _ _=>rfl) (λ_ _ _ _=>(VI K (pv 0)))))))),?_⟩
  left
  refine ⟨⟨_,SqL.of U⟩,λO d=>?_⟩
  refine jJ (K:=K) (a:=p) (xs:=xs) (acc:=O) (λj σ H2=>∃x y:Option V,σ=[x,y]/\H2 O=some (.lst (((rs.take j).map (·.1)).map V.int))/\Ext O H H2) ?_ ?_ ?_ ?_
  ·exact ⟨none,none,rfl,j4,Ext.put⟩
  ·rintro j σ H2 hj ⟨x,y,rfl,B,e⟩
   exact SqL.of (e _ _ U (j1 U d))
  ·rintro j v σ H2 hv ⟨x,y,rfl,B,e⟩
   obtain ⟨r,S,q,g,rfl,hq,hg⟩:=(R.keep (jo.new e d)).get hv
   have hj:j<rs.length:=(List.getElem?_eq_some_iff.mp S).1
   left
   refine ⟨q,_,rfl,SqT.of hq,rfl,?_⟩
   refine ⟨_,_,rfl,_,_,rfl,rfl,?_⟩
   left
   refine ⟨_,B,by rw [aa,aa,aE];exact jb (),_,_,rfl,?_,e.trans Ext.put⟩
   rw [j4,qv (λr:Rch=>r.1) rs j r S,aq]
   rfl
  ·rintro σ H2 ⟨x,y,rfl,B,e⟩
   rw [Y,aX] at B
   have T:=e _ _ U (j1 U d)
   have al:jV H2 xs rs:=R.keep (jo.new e d)
   have a9:qx H2 Pt:=hT.extN d e
   left
   refine ⟨_,_,rfl,.inl (SqL.of T),?_⟩
   refine ⟨_,rfl,(),(),λwy u=>?_⟩
   rw [Y]
   refine qq (lo:=0) (n:=((rs.length:Nat):Int).toNat) (acc:=wy) (λj σ I=>∃(x:Option V) (b:List V),σ=[x,some (.ref p),some (.ref O)]/\I wy=some (.lst b)/\y6 I b (((aG j).filter (jQ rs)).map (qr rs))/\Ext wy H2 I/\b.length<=j) ?_ ?_ ?_
   ·exact ⟨none,[],rfl,j4,.nil,Ext.put,ar _⟩
   ·rintro j σ I hj ⟨x,b,rfl,D,C,m,l4⟩
    have a6:j<rs.length:=()
    have as:=m _ _ B (j1 B u)
    have a5:=m _ _ T (j1 T u)
    have ai:jV I xs rs:=al.keep (jo.new m u)
    have er:(aG (j+1)).filter (jQ rs)=(aG j).filter (jQ rs)++(if jQ rs j=true then [j] else []):=by
     rw [bW,bP]
     congr 1
     by_cases z:jQ rs j=true
     ·rw [if_pos z];simp [z]
     ·rw [if_neg z];simp [z]
    left
    refine ⟨O,_,rfl,.inl (SqL.of as),rfl,zZ _,?_⟩
    left
    rw [dW,yI]
    refine zS (λZ=>?_) (λZ=>?_)
    ·have hb:jQ rs j=true:=by unfold jQ;rw [decide_eq_false (show ¬(j:Int)∈tos rs from Z)];rfl
     left
     refine ⟨p,xs,rs,j,rfl,a5,ai,L,a6,(),λt H5 ht a0 s5=>?_⟩
     have nt:t≠wy:=λz=>by rw [z,D] at ht;cases ht
     have h5:=s5 _ _ D
     refine ⟨b,h5,jb (),_,b++[.ref t],rfl,j4,?_,λc o M n=>by rw [j7 n];exact s5 _ _ (m c o M n),by rw [ay,bp];right⟩
     rw [er,if_pos hb,aq]
     exact y6.keep (jo.lst Ext.put h5) (cZ (C.keep (jo.same s5)) ⟨t,rfl,a0⟩)
    ·have hb:¬jQ rs j=true:=by unfold jQ;rw [decide_eq_true (show (j:Int)∈tos rs from Z)];exact au
     refine ⟨_,b,rfl,D,?_,m,()⟩
     rw [er,if_neg hb,b0]
     exact C
   ·rintro σ I ⟨x,b,rfl,D,C,m,l4⟩
    have ac:qx I Pt:=a9.extN u m
    obtain ⟨ps,J⟩:=ac.ne
    rw [aW] at C l4
    have ab:=C.length
    left
    refine ⟨ac,wy,b,λi=>((((jq rs).map (qr rs)).getD i []).reverse),rfl,SqL.of D,(),λi hi z=>?_,λH5 X5 i v hv=>?_,λlo H5 aL X am X5 T5 hs=>?_⟩
    ·have a7:i<(jq rs).length:=by
      rw [aa] at ab
      exact Nat.lt_of_lt_of_eq hi ab
     have z2:((jq rs).map (qr rs)).getD i []=[]:=List.reverse_eq_nil_iff.mp z
     rw [aj,aw,ae a7] at z2
     exact Vl _ z2
    ·obtain ⟨y,e2,a,rfl,ha⟩:=Paired.get C hv
     have a8:=jo.tbl X5 J _ _ ha
     left
     refine ⟨a,_,rfl,SqT.of a8,λq H6 hq a4 s6=>⟨s6,q,rfl,?_⟩⟩
     show H6 q=some (.tup (((((jq rs).map (qr rs)).getD i []).reverse).map V.int))
     rw [a4,aj,show ((jq rs).map (qr rs))[i]? = some y from e2,<- pK]
     rfl
    ·obtain ⟨ws,hw,a3⟩:=J8 (rs:=rs) rfl C (jo.tbl X5 J) hs
     have be:wy≠Pt:=jm D J ↥4
     have bk:O≠Pt:=jm (m _ _ B (j1 B u)) J ↥4
     have ap:H lo=none:=by
      have a1:H2 lo=none:=m.free X (λz=>by rw [z,D] at X;cases X)
      exact e.free a1 (λz=>by rw [z,B] at a1;cases a1)
     exact k lo H5 aL ws ap am hw a3 (λc o M n=>X5 _ _ (m _ _ (e _ _ M (j1 M d)) (j1 (e _ _ M (j1 M d)) u)) n) T5
inductive spFits (K:ag) (vs:List V) (H:Hp) (Q:VK) (z_3:XK):Prop
 | mk (p wl:Addr) (xs out:List V) (rs:List Rch) (ws:List (List Int)) (_:vs=[.ref p,.ref wl]) (_:H p=some (.lst xs)) (_:jV H xs rs) (_: ↥105) (_:H wl=some (.lst out)) (_:y6 H out ws) (_:jW rs ws) (_:xn rs) (_:rs.length<=60) (_:∀H',jf H H'->Q (.bl (decide (↥94<=6) && (jq rs).all λh=>decide (jx rs (qr rs h)<=30))) H')
theorem Vu:FnScope ["reaches","ways"] ["reaches","ways"] (j8 gL):=by walk_at "s"
theorem VL (Y:Nb2 mg) (U:mg "MOST_LANES" = some (.int 6 u0)) (z:mg "LONGEST_LANE" = some (.int 30 u1)) (G:Cal P w K mg base 1 "count_places" ["reaches","way"] (spCount K)) (F:Fun K "fits" "fits" gL f fd):FnOk P w K mg base CX0 2 f fd ["reaches","ways"] (spFits K):=by
 refine F.ok Vu ↥58 (λal A outer s H vs Q E hr h=>?_)
 ·obtain ⟨p,S,xs,y,rs,ws,rfl,_⟩:=h
  rfl
 ·obtain ⟨p,S,xs,y,rs,ws,rfl,Z,X,O,t,B,m,L,ac,k⟩:=h
  have l:=B.length
  have C:=m.length
  have ai:(jq rs).length<=60:=by
   unfold jq
   exact aI (bO _ _) (by rw [bg];exact ac)
  have I:∀(b:Bool) (H':Hp),jf H H'->b=(decide (↥94<=6) && (jq rs).all λh=>decide (jx rs (qr rs h)<=30))->Q (.bl b) H':=λb H' sm e=>by rw [e];exact k H' sm
  refine ⟨_,(j9 (jj (wT (ym qJ (jd (ja K) rfl Y.b_len aH ↥42) (xu (v:=V.int 6) rfl U ⟨_,rfl⟩) (jK _)) (k8 (jd (zT K rfl) rfl Y.b_all p0 (j0 (jE (osc:=(j8 gL)) (ON:=["reaches","ways"]) (N:=["way","reaches"]) (own:=1) (caps:=[0]) ⟨rfl,∅,∅,∅,rfl,∅⟩ rfl rfl rfl (jN K (pv 1)) (λ_ _ _ _ _=>(jc (i:=0) (show aS (["way","reaches"]:List Str) by decide +kernel) rfl (aU rfl))) ↥14 (λ_ _ _ _ _=>(ym qJ (jg G (hr.mono ⋯) rfl (j0 (pv 1) ↥33)) (xu (v:=V.int 30) rfl z ⟨_,rfl⟩) (jK _)))) j2)))))),?_⟩
  left
  refine ⟨_,_,rfl,.inl (SqL.of t),?_⟩
  left
  refine qH (λh1=>?_) (λh1=>?_)
  ·left
   refine ⟨⟨_,SqL.of t⟩,λacc d=>?_⟩
   refine jJ (K:=K) (a:=S) (xs:=y) (acc:=acc) (λj σ H2=>∃x:Option V,σ=[x,some (.ref p)]/\H2 acc=some (.lst (((ws.take j).map λw=>decide (jx rs w<=30)).map V.bl))/\Ext acc H H2) ?_ ?_ ?_ ?_
   ·exact ⟨none,rfl,j4,Ext.put⟩
   ·rintro j σ H2 hj ⟨x,rfl,q,g⟩
    exact SqL.of (g _ _ t (j1 t d))
   ·rintro j v σ H2 hv ⟨x,rfl,q,g⟩
    obtain ⟨M,R,a,rfl,ha⟩:=Paired.get (B.keep (jo.new g d)) hv
    have hj:j<ws.length:=(List.getElem?_eq_some_iff.mp R).1
    obtain ⟨hd,ab,J⟩:=m.mem (aB R)
    have D:=xw ab
    have r:M.length<=100:=by rw [J];have:=ud L hd D;right
    left
    refine ⟨p,a,xs,rs,M,rfl,g _ _ Z (j1 Z d),X.keep (jo.new g d),O,ha,by rw [J];exact xM L hd D,r,λH4 T=>?_⟩
    left
    refine ⟨_,T _ _ q,by rw [aa,aa,aE];exact jb (),_,rfl,?_,λc o u n=>by rw [j7 n];exact T _ _ (g c o u n)⟩
    rw [j4,qv (λw=>decide (jx rs w<=30)) ws j M R,aq]
    rfl
   ·rintro σ H2 ⟨x,rfl,q,g⟩
    rw [l,aX] at q
    refine ⟨acc,_,rfl,SqL.of q,?_⟩
    refine I _ H2 (λc o u=>g c o u (j1 u d)) ?_
    rw [decide_eq_true (show ↥94<=6 by rw [<- C,<- l];exact h1),eV,m.all]
  ·refine I _ H (jf.refl H) ?_
   rw [decide_eq_false (show ¬ ↥94<=6 by rw [<- C,<- l];exact h1)]
   rfl
inductive spValley (K:ag) (Pt:Addr) (vs:List V) (H:Hp) (Q:VK) (z_3:XK):Prop
 | mk (p:Addr) (xs:List V) (rs:List Rch) (_:vs=[.ref p]) (_:H p=some (.lst xs)) (_:jV H xs rs) (_: ↥105) (_:rs.length<=60) (_:qx H Pt) (_:∀H',Ext Pt H H'->qx H' Pt->Q (.bl (zB rs)) H')
theorem Jo:FnScope ["reaches"] ["reaches"] (j8 zH):=by walk_at "s"
theorem J4 (nb:Nb2 mg) (G:mg "MOST_REACHES" = some (.int 8 u0)) (U:Cal P w K mg base 2 "is_reach" ["number","reach"] spReach) (Y:Cal P w K mg base 5 "lanes" ["reaches"] (spLanes K Pt)) (ab:Cal P w K mg base 2 "fits" ["reaches","ways"] (spFits K)) (F:Fun K "is_valley" "is_valley" zH f fd):FnOk P w K mg base CX0 6 f fd ["reaches"] (spValley K Pt):=by
 refine F.ok Jo ↥58 (λaL A outer s H vs Q E g h=>?_)
 ·obtain ⟨p,xs,rs,rfl,_⟩:=h
  rfl
 ·obtain ⟨p,xs,rs,rfl,m,C,O,Z,T,k⟩:=h
  have q:=C.length
  have R:∀(b:Bool) (H':Hp),Ext Pt H H'->qx H' Pt->b=zB rs->Q (.bl b) H':=λb H' x t e=>by rw [e];exact k H' x t
  refine ⟨_,(j6 (qc (qL (zo qJ qJ j5 (jd (ja K) rfl nb.b_len aH ↥33) (xu (v:=V.int 8) rfl G ⟨_,rfl⟩))) (j9 (jj yy)) jA)
   (j6 (qc (qL (zp (jd (zT K rfl) rfl nb.b_all p0 (j0 (jE (osc:=(j8 zH)) (ON:=["reaches"]) (N:=["number","reach"]) (own:=2) (caps:=[]) ⟨rfl,∅,∅,∅,rfl,∅⟩ rfl rfl rfl (ua K rfl nb.b_enumerate ↥33) (λ_ _ _ _ _=>(qt (n:=2) K rfl (jn (jc (i:=0) (show aS (["number","reach"]:List Str) by decide +kernel) rfl (aU rfl)) (jn (jc (i:=1) (show aS (["number","reach"]:List Str) by decide +kernel) rfl (aU rfl)) qu)))) ↥14 (λ_ _ _ _ _=>(jg U (g.mono ⋯) rfl (j0 (pv 0) ↥42)))) j2)))) (j9 (jj yy)) jA)
   (j9 (jj (jg ab (g.mono ⋯) rfl (j0 (pv 0) (j0 (jg Y (g.mono ⋯) rfl ↥33) j2))))))),?_⟩
  left
  refine ⟨_,_,rfl,.inl (SqL.of m),?_⟩
  left
  have no:¬(1<=(xs.length:Int)/\(xs.length:Int)<=8)->Q (.bl false) H:=λz=>R _ H Ext.refl T (by unfold zB;rw [decide_eq_false (by rw [<- q];exact z)];rfl)
  refine qH (λh1=>?_) (λh1=>?_)
  ·left
   refine zS (λh2=>?_) (λh2=>?_)
   ·left
    exact no λz=>h2 z.2
   ·have ac:decide (1<=(rs.length:Int)/\(rs.length:Int)<=8)=true:=decide_eq_true (by rw [<- q];exact ⟨h1,h2⟩)
    left
    refine ⟨⟨_,SqL.of m⟩,λacc u=>?_⟩
    refine hX (K:=K) (a:=p) (xs:=xs) (acc:=acc) (λj σ H2=>∃x y:Option V,σ=[x,y]/\H2 acc=some (.lst ((((aG j)).map λi=>okR i (rs.getD i (-1,[]))).map V.bl))/\Ext acc H H2) ?_ ?_ ?_ ?_
    ·exact ⟨none,none,rfl,j4,Ext.put⟩
    ·rintro j σ H2 hj ⟨x,y,rfl,B,D⟩
     exact SqL.of (D _ _ m (j1 m u))
    ·rintro j v σ H2 t hv ⟨x,y,rfl,B,D⟩ J
     have as:acc≠t:=λz=>by rw [z] at B;rw [B] at J;cases J
     obtain ⟨r,g,ai⟩:=(C.keep (jo.new D u)).get hv
     have hj:j<rs.length:=(List.getElem?_eq_some_iff.mp g).1
     left
     refine ⟨t,_,rfl,SqT.of j4,rfl,?_⟩
     refine ⟨_,_,rfl,_,_,rfl,rfl,?_⟩
     left
     refine ⟨j,v,r,rfl,ai.keep (jo.same (jf.new J)),O r (aB g),λH4 I=>?_⟩
     refine ⟨_,I _ _ ((jf.new J) _ _ B),by rw [aa,aa,bg];exact jb (),_,_,rfl,?_,λc o S n=>by rw [j7 n];exact I _ _ ((jf.new J) _ _ (D c o S n))⟩
     rw [j4,bW,aq,aq]
     simp only [aO,mh]
     rw [aj,g]
     rfl
    ·rintro σ H2 ⟨x,y,rfl,B,D⟩
     rw [q] at B
     have d:jf H H2:=λc o S=>D c o S (j1 S u)
     refine ⟨acc,_,rfl,SqL.of B,?_⟩
     left
     have ap:(((aG rs.length).map λi=>okR i (rs.getD i (-1,[]))).all λb=>b)=ul rs:=by rw [i4];rfl
     rw [ap]
     cases M:ul rs with
     | false =>
      refine kB ?_
      left
      exact R _ H2 (Ext.of_same d) (T.same d) (by unfold zB;rw [M,ac];rfl)
     | true =>
      refine Uo ?_
      have L:=jZ M
      left
      refine ⟨p,xs,rs,rfl,d _ _ m,C.keep (jo.same d),L,Z,T.same d,λl H3 al ws hl an w3 r3 X3 T3=>?_⟩
      obtain ⟨ps,X⟩:=(T.same d).ne
      have am:=X3 _ _ (d _ _ m) (jm (d _ _ m) X ↥4)
      refine ⟨p,l,xs,al,rs,ws,rfl,am,C.keep ((jo.same d).trans (jo.tbl X3 X)),O,an,w3,r3,L,Z,λH4 I=>?_⟩
      exact R _ H4 (((Ext.of_same d).trans X3).trans (Ext.of_same I)) (T3.same I) (by unfold zB;rw [M,ac];rfl)
  ·refine ⟨_,rfl,kB ?_⟩
   left
   exact no λz=>h1 z.1
theorem ub:FnScope ["_law_number","_law_turn","_law_one"] ["_law_number","_law_turn"] (j8 yP):=by walk_at "s"
theorem Y3 (F:Fun K "_law_mixed" "_law_mixed" yP f fd):FnOk P w K mg base CX0 1 f fd ["_law_number","_law_turn"] spMixed:=by
 refine F.ok ub (λc H Q E h=>?_) (λd A outer s H c Q E e h=>?_)
 ·obtain ⟨a,b,rfl,_⟩:=h
  rfl
 ·obtain ⟨a,b,rfl,k⟩:=h
  refine ⟨_,(j6 (jz 2 ub.nd (jk xi (jk jO (jk jO (jk vt (pv 0) j5) (jk vt (pv 1) j5)) j5) j5))
   (j9 (jj (jk zY (jk xi (jk jO (jk jO (jk vt (pv 2) (jk jO (jk xi (pv 2) j5) j5)) (jk vt (pv 1) j5)) (jk xi (jk zY (pv 0) j5) j5)) j5) j5)))),?_⟩
  left
  exact k _
theorem yN:FnScope ["_law_box_here","_law_size","_law_left","_law_cell"] ["_law_box_here","_law_size"] (j8 vh):=by walk_at "s"
theorem Vs (G:Nb mg) (j:Cal P w K mg base 1 "_law_mixed" ["_law_number","_law_turn"] spMixed) (F:Fun K "_law_take" "_law_take" vh f fd):FnOk P w K mg base CX0 2 f fd ["_law_box_here","_law_size"] spTakeL:=by
 refine F.ok yN (λq H Q E h=>?_) (λy A outer s H q Q E p h=>?_)
 ·obtain ⟨L,b,n,rfl,_⟩:=h
  rfl
 ·obtain ⟨L,b,n,rfl,B,⟨i,x⟩,k⟩:=h
  obtain ⟨ns,a,r,c,d,C,e,g,m⟩:=B
  refine ⟨_,(j6 (yL (jk jO ↥20 j5) (Jd (pv 0) j5 yE))
   (j6 (qc (jv uL ↥20 j5 (jK _)) (j6 (jz 2 yN.nd ↥20)
   (j6 (yL (jk zY (pv 2) (pv 1)) (Jd (pv 0) j5 yE))
   (j9 (jj (jk xi (pv 2) (pv 1)))))) jA)
   (j6 (qc (jv YW ↥20 (jd (ja K) rfl G.b_len aH (j0 ↥20 j2)) (jK _)) (j9 (jj (jk xi (jg j (p.mono ⋯) rfl (j0 ↥20 (j0 ↥20 j2))) (pv 1)))) jA)
   (j6 (jz 3 yN.nd (ji (je K) ↥20 ↥20 (λ_ _=>rfl)))
   (j6 (yL (jk jO ↥20 j5) (Jd (pv 0) j5 yE))
   (j6 (qc (jv vP (pv 3) (jk Uz j5 j5) (jK _)) (j9 (jj (jk xi (jg j (p.mono ⋯) rfl (j0 (pv 3) (j0 ↥20 j2))) (pv 1)))) jA)
   (j6 (yL (jk zY (pv 3) (pv 1)) (Jd (pv 0) j5 yE))
   (j9 (jj (jk xi (pv 3) (pv 1))))))))))),?_⟩
  left
  refine qH (λh1=>?_) (λh1=>?_)
  ·left
   exact k _ _ (dP _ ()) (d6 _ i) ⟨ns,_,_,_,_,j4,e,↥129 _ _ g e,m⟩ ↥129
  ·have l:∀o,SqL K (upd H b o) L ↥62:=λo=>SqL.of (Ext.put _ _ g e)
   left
   refine ⟨_,_,rfl,.inl (l _),?_⟩
   left
   refine qH (λh2=>?_) (λh2=>?_)
   ·left
    refine ⟨_,_,rfl,λz=>?_⟩
    left
    exact k _ _ (dP _ ()) (d6 _ i) ⟨ns,_,_,_,_,j4,e,Ext.put _ _ g e,m⟩ Ext.put
   ·have v:a<ns.length:=by
     rw [aa] at h2
     right
    obtain ⟨z,t⟩:=xj m v
    left
    refine ⟨_,_,_,_,rfl,rfl,l _,t,?_⟩
    left
    refine qH (λu=>?_) (λu=>?_)
    ·left
     refine ⟨_,_,rfl,λz=>?_⟩
     left
     exact k _ _ (dP _ ()) (d6 _ i) ⟨ns,_,_,_,_,j4,e,↥129 _ _ g e,()⟩ ↥129
    ·left
     exact k _ _ (dP _ ()) (d6 _ i) ⟨ns,_,_,_,_,j4,e,((↥129).trans Ext.put) _ _ g e,()⟩ ((↥129).trans Ext.put)
theorem yj:FnScope ["_law_script","_law_seed","_law_cell"] ["_law_script"] (j8 uC):=by walk_at "s"
theorem Uw (G:Nb mg) (F:Fun K "_law_box" "_law_box" uC f fd):FnOk P w K mg base CX0 1 f fd ["_law_script"] (spBoxL K):=by
 refine F.ok yj (λo H Q E h=>?_) (λp A outer s H o Q E q h=>?_)
 ·obtain ⟨a,ns,rfl,_⟩:=h
  rfl
 ·obtain ⟨a,ns,rfl,g,k⟩:=h
  refine ⟨_,(j6 (jz 1 yj.nd j5)
   (j6 (qK bj rfl (jN K (pv 0)) (jc (i:=2) yj.nd rfl (aU rfl)) (j9 (jz 1 yj.nd (jk xi (jk jO (jk jO (jk vt (pv 1) j5) (jk xi (pv 2) j5)) j5) j5))))
   (j9 (jj (jS (j0 (qd (qw K) rfl G.b_list bY ↥33) (j0 j5 (j0 j5 (j0 j5 ↥42))))))))),?_⟩
  left
  refine ⟨⟨_,g⟩,Qh (K:=K) (a:=a) (xs:=ns.map V.int) (λi σ H2=>∃(c:Int) (v:Option V),σ=[some (.ref a),some (.int c),v]/\H2=H) ⟨_,_,rfl,rfl⟩ (λi σ H2 _ ⟨_,_,_,e⟩=>by rw [e];exact g) ?_ ?_⟩
  ·rintro i y σ H2 hi ⟨c,v,rfl,rfl⟩
   obtain ⟨z,rfl⟩:=yB hi
   left
   exact ⟨_,_,rfl,rfl⟩
  ·rintro σ H2 ⟨c,v,rfl,rfl⟩
   left
   refine ⟨a,_,rfl,.inl g,λL u r d l=>?_⟩
   left
   refine ⟨by show 5<=sizeLine;decide,λb t n m j=>?_⟩
   exact k L b _ (l.free n) ⟨ns,_,_,_,_,m,j1 d n,j _ _ d,pY _⟩ (l.trans j)
noncomputable def good (t:T3):Bool:=decide (0<=t.1/\t.1<=100/\0<=t.2.1/\t.2.1<=9/\0<=t.2.2/\t.2.2<=9)
noncomputable def gr (ts:List T3):Bool:=decide (1<=↥68/\ ↥68<=12) && ts.all good
theorem VQ {ts:List T3}(h:¬(1<=↥68/\ ↥68<=12)):gr ts=false:=by unfold gr;rw [decide_eq_false h];rfl
theorem UG {ts:List T3}(h:1<=↥68/\ ↥68<=12):gr ts=(ts.map good).all λb=>b:=by
 unfold gr
 rw [decide_eq_true h,eV,i4]
 rfl
inductive spGood  (vs:List V) (H:Hp) (Q:VK) (z_3:XK):Prop
 | mk (p:Addr) (t:T3) (_:vs=[.ref p]) (_:H p=some (yc t)) (_:Q (.bl (good t)) H)
local macro_rules | `(tactic| walk_at "forks")=>`(tactic| (walk_at "r";first | (refine qH (fun _=>?_) (fun _=>?_) <;> walk_at "forks") | skip))
theorem xJ:FnScope ["row","line","snow","sun"] ["row"] (j8 y9):=by walk_at "s"
theorem kO (G:mg "HIGHEST_LINE" = some (.int 100 u0)) (j:mg "MOST_HANDS" = some (.int 9 U)) (F:Fun K "is_weather" "is_weather" y9 f fd):FnOk P w K mg base CX0 1 f fd ["row"] spGood:=by
 refine F.ok xJ (λa H Q E h=>?_) (λc A outer s H a Q E e h=>?_)
 ·obtain ⟨p,t,rfl,_⟩:=h
  rfl
 ·obtain ⟨p,⟨l,d,u⟩,rfl,b,k⟩:=h
  refine ⟨_,(j6 (yL (pv 0) (qt (n:=3) K rfl (jn (jc (i:=1) xJ.nd rfl (aU rfl)) (jn (jc (i:=2) xJ.nd rfl (aU rfl)) (jn (jc (i:=3) xJ.nd rfl (aU rfl)) qu)))))
   (j9 (jj (wT (y4 qJ qJ j5 (pv 1) (xu (v:=V.int 100) rfl G ⟨_,rfl⟩)) (wT (y4 qJ qJ j5 (pv 2) (xu (v:=V.int 9) rfl j ⟨_,rfl⟩)) (k8 (y4 qJ qJ j5 (pv 3) (xu (v:=V.int 9) rfl j ⟨_,rfl⟩)))))))),?_⟩
  left
  refine ⟨p,_,rfl,SqT.of b,rfl,?_⟩
  refine ⟨_,_,rfl,_,_,rfl,_,_,rfl,rfl,?_⟩
  walk_at "forks"
  all_goals
   refine Eq.mp (congrArg (λz=>Q (V.bl z) H) ?_) k
   unfold good
   dsimp only at *
   first | (apply decide_eq_false;right) | (apply decide_eq_decide.mpr;right)
theorem JQ:FnScope ["rows"] ["rows"] (j8 yp):=by walk_at "s"
inductive spRound (K:ag) (vs:List V) (H:Hp) (Q:VK) (z_3:XK):Prop
 | mk (p:Addr) (xs:List V) (ts:List T3) (_:vs=[.ref p]) (_:H p=some (.lst xs)) (_:qM H xs ts) (_:ts.length<=1000) (_:∀H',jf H H'->Q (.bl (gr ts)) H')
theorem Qk (U:Nb mg) (G:mg "MOST_ROWS" = some (.int 12 u0)) (j:Cal P w K mg base 1 "is_weather" ["row"] spGood) (F:Fun K "is_round" "is_round" yp f fd):FnOk P w K mg base CX0 2 f fd ["rows"] (spRound K):=by
 refine F.ok JQ (λC H Q E h=>?_) (λJ A outer s H C Q E I h=>?_)
 ·obtain ⟨p,xs,ts,rfl,_⟩:=h
  rfl
 ·obtain ⟨p,xs,ts,rfl,m,n,B,k⟩:=h
  have b:=n.length
  refine ⟨_,(j9 (jj (wT (y4 qJ qJ j5 (jd (ja K) rfl U.b_len aH ↥33) (xu (v:=V.int 12) rfl G ⟨_,rfl⟩)) (k8 (jd (zT K rfl) rfl U.b_all p0 (j0 (jE (osc:=(j8 yp)) (ON:=["rows"]) (N:=["row"]) (own:=1) (caps:=[]) ⟨rfl,∅,∅,∅,rfl,∅⟩ rfl rfl rfl (jN K (pv 0)) (λ_ _ _ _ _=>(jc (i:=0) (show aS (["row"]:List Str) by decide +kernel) rfl (aU rfl))) ↥14 (λ_ _ _ _ _=>(jg j (I.mono ⋯) rfl ↥33))) j2)))))),?_⟩
  left
  refine ⟨_,_,rfl,.inl (SqL.of m),?_⟩
  left
  refine qH (λh1=>?_) (λh1=>?_)
  ·left
   refine qH (λh2=>?_) (λh2=>?_)
   ·left
    refine ⟨⟨_,SqL.of m⟩,λacc e=>?_⟩
    refine jJ (K:=K) (a:=p) (xs:=xs) (acc:=acc) (λi σ H2=>∃x:Option V,σ=[x]/\H2 acc=some (.lst (((ts.take i).map good).map V.bl))/\Ext acc H H2) ?_ ?_ ?_ ?_
    ·exact ⟨none,rfl,j4,Ext.put⟩
    ·rintro i σ H2 hi ⟨x,rfl,l,g⟩
     exact SqL.of (g _ _ m (j1 m e))
    ·rintro i v σ H2 D ⟨x,rfl,l,g⟩
     obtain ⟨t,r,q,rfl,u⟩:=n.get D
     have hi:i<ts.length:=(List.getElem?_eq_some_iff.mp r).1
     left
     refine ⟨q,t,rfl,g _ _ u (j1 u e),?_⟩
     refine ⟨_,l,by rw [aa,aa,aE];exact jb (),_,rfl,?_,g.trans Ext.put⟩
     rw [j4,qv good ts i t r,aq]
     rfl
    ·rintro σ H2 ⟨x,rfl,l,g⟩
     rw [b,aX] at l
     refine ⟨acc,ts.map good,rfl,SqL.of l,?_⟩
     have d:=k H2 λc o y=>g c o y (j1 y e)
     rw [UG (by rw [b] at h1 h2;exact ⟨h1,h2⟩)] at d
     exact d
   ·left
    have d:=k H (jf.refl H)
    rw [VQ (by rw [b] at h2;intro z;exact h2 z.2)] at d
    exact d
  ·left
   have d:=k H (jf.refl H)
   rw [VQ (by rw [b] at h1;intro z;exact h1 z.1)] at d
   exact d
inductive spWeather  (vs:List V) (H:Hp) (Q:VK) (z_3:XK):Prop
 | mk (L b:Addr) (_:vs=[.ref b]) (_:qg L H b) (_:∀(p:Addr) (H':Hp) (t:T3),qg L H' b->Ext b H H'->H' p=some (yc t)->good t=true->Q (.ref p) H')
theorem yJ:FnScope ["_law_box_here","_law_line"] ["_law_box_here"] (j8 zN):=by walk_at "s"
theorem five {j G z:Int}(a:0<=j) (b:j<5) (c:0<=G) (d:G<20) (e:0<=z) (g:z<101):∃U,atI [V.int (40+G),V.int z,V.int 0,V.int 100,V.int 50] j=some (V.int U)/\0<=U/\U<=100:=by
 have h:j=0\/j=1\/j=2\/j=3\/j=4:=()
 rcases h with rfl | rfl | rfl | rfl | rfl
 ·exact ⟨40+G,rfl,(),()⟩
 ·exact ⟨z,rfl,(),()⟩
 ·exact ⟨0,rfl,(),()⟩
 ·exact ⟨100,rfl,(),()⟩
 ·exact ⟨50,rfl,(),()⟩
theorem Xp (j:Cal P w K mg base 2 "_law_take" ["_law_box_here","_law_size"] spTakeL) (F:Fun K "_law_weather" "_law_weather" zN f fd):FnOk P w K mg base CX0 3 f fd ["_law_box_here"] spWeather:=by
 refine F.ok yJ (λr H Q E h=>?_) (λU A outer s H r Q E a h=>?_)
 ·obtain ⟨L,b,rfl,_⟩:=h
  rfl
 ·obtain ⟨L,b,rfl,B,k⟩:=h
  refine ⟨_,(j6 (jz 1 yJ.nd (ji (je K) (jS (j0 (jk jO j5 ↥121) (j0 ↥121 (j0 j5 ↥132)))) ↥121 (λ_ _=>rfl)))
   (j9 (jj (xV (j0 (pv 1) (j0 ↥121 (j0 ↥121 j2))))))),?_⟩
  left
  refine ⟨L,b,_,rfl,B,⟨⋯,⋯⟩,λY H1 y v T N=>?_⟩
  left
  refine ⟨L,b,_,rfl,T,⟨⋯,⋯⟩,λX H2 p2 u o M=>?_⟩
  refine ⟨by show 5<=sizeLine;decide,λq Hq G g e=>?_⟩
  left
  refine ⟨L,b,_,rfl,o.same e,⟨⋯,⋯⟩,λV H3 p3 t S n=>?_⟩
  have i:=n _ _ g (o.ne G)
  obtain ⟨z,m,D,C⟩:=five p3 t y v p2 u
  refine ⟨_,_,_,_,rfl,rfl,SqL.of i,m,?_⟩
  left
  refine ⟨L,b,_,rfl,S,⟨⋯,⋯⟩,λd H4 p4 q4 R J=>?_⟩
  left
  refine ⟨L,b,_,rfl,R,⟨⋯,⋯⟩,λc H5 x Z O I=>?_⟩
  refine ⟨by show 3<=sizeLine;decide,λp Hp hp l sp=>?_⟩
  exact k p _ (z,d,c) (O.same sp) ((((((N.trans M).trans (Ext.of_same e)).trans n).trans J).trans I).trans (Ext.of_same sp)) l (decide_eq_true ⟨D,C,p4,(show d<=9 by right),x,(show c<=9 by right)⟩)
inductive spRoundMade  (vs:List V) (H:Hp) (Q:VK) (z_3:XK):Prop
 | mk (L b:Addr) (_:vs=[.ref b]) (_:qg L H b) (_:∀(p:Addr) (H':Hp) (xs:List V) (ts:List T3),qg L H' b->Ext b H H'->H p=none->H' p=some (.lst xs)->qM H' xs ts->(1<=ts.length/\ts.length<=12)->ts.all good=true->Q (.ref p) H')
theorem Jf:FnScope ["_law_box_here"] ["_law_box_here"] (j8 zF):=by walk_at "s"
theorem Wq {v:Int}(a:0<=v) (b:v<3):∃n,atI [V.int 1,V.int 3,V.int 12] v=some (V.int n)/\0<n/\n<=12:=by
 have h:v=0\/v=1\/v=2:=()
 rcases h with rfl | rfl | rfl
 ·exact ⟨1,rfl,(),()⟩
 ·exact ⟨3,rfl,(),()⟩
 ·exact ⟨12,rfl,(),()⟩
theorem YI (U:Nb mg) (j:Cal P w K mg base 2 "_law_take" ["_law_box_here","_law_size"] spTakeL) (G:Cal P w K mg base 3 "_law_weather" ["_law_box_here"] spWeather) (F:Fun K "_law_round" "_law_round" zF f fd):FnOk P w K mg base CX0 4 f fd ["_law_box_here"] spRoundMade:=by
 refine F.ok Jf ↥58 (λac A outer s H vs Q E D h=>?_)
 ·obtain ⟨L,b,rfl,_⟩:=h
  rfl
 ·obtain ⟨L,b,rfl,B,k⟩:=h
  refine ⟨_,(j9 (jj (jE (osc:=(j8 zF)) (ON:=["_law_box_here"]) (N:=["_law_turn","_law_box_here"]) (own:=1) (caps:=[0]) ⟨rfl,∅,∅,∅,rfl,∅⟩ rfl rfl rfl (jY rfl U.b_range (j0 (jk jO j5 (jg j (D.mono ⋯) rfl (j0 (pv 0) (j0 (ji (je K) (jS (j0 j5 ↥132)) (jg j (D.mono ⋯) rfl ↥17) (λ_ _=>rfl)) j2)))) j2)) (λ_ _ _ _ _=>(jc (i:=0) (show aS (["_law_turn","_law_box_here"]:List Str) by decide +kernel) rfl (aU rfl))) ↥14 (λ_ _ _ _ _=>(jg G (D.mono ⋯) rfl ↥42))))),?_⟩
  left
  refine ⟨by show 3<=sizeLine;decide,λq Hq hq X y=>?_⟩
  left
  refine ⟨L,b,_,rfl,B.same y,⟨⋯,⋯⟩,λv1 H1 p1 q1 B1 O=>?_⟩
  obtain ⟨n,hn,n0,n1⟩:=Wq p1 q1
  refine ⟨_,_,_,_,rfl,rfl,SqL.of (O _ _ X (B.ne hq)),hn,?_⟩
  refine ⟨L,b,_,rfl,B1,⟨n0,()⟩,λS H2 p2 q2 R X2=>?_⟩
  refine ⟨_,_,rfl,rfl,?_⟩
  refine ⟨1+S,rfl,(),(),λacc d=>?_⟩
  have m:=R.ne d
  have v:=R.neL d
  have r:∀a,H2 a=none->a≠b->H a=none:=λa n U=>jf.free y (O.free (X2.free n U) U)
  refine qq (lo:=0) (n:=(1+S).toNat) (acc:=acc) (λi σ l=>∃(x:Option V) (xs:List V) (ts:List T3),σ=[x,some (.ref b)]/\qg L l b/\(∀c o,H2 c=some o->c≠b->l c=some o)/\l acc=some (.lst xs)/\qM l xs ts/\ts.length=i/\ts.all good=true) ?_ ?_ ?_
  ·exact ⟨none,[],[],rfl,R.put m v,λc o g n=>Ext.put _ _ g (j1 g d),j4,.nil,rfl,rfl⟩
  ·rintro i σ l hi ⟨x,xs,ts,rfl,u,ks,J,C,Y,I⟩
   left
   refine ⟨L,b,rfl,u,λp H4 t B4 M hp ht=>?_⟩
   have Z:=M _ _ J m
   have T:qM H4 xs ts:=C.imp λp t e=>M _ _ e (u.ne_tup e)
   have ab:=T.length
   refine ⟨xs,Z,jb (),_,xs++[.ref p],ts++[t],rfl,B4.put m v,λc o g n=>Ext.put _ _ (M _ _ (ks c o g n) n) (j1 g d),j4,?_,by rw [ay,Y];rfl,by rw [List.all_append,I];simp [ht]⟩
   exact qM.imp (T.snoc ⟨p,rfl,hp⟩) λq t e=>Ext.put _ _ e (jm e Z ↥4)
  ·rintro σ l ⟨x,xs,ts,rfl,u,ks,J,C,Y,I⟩
   exact k acc l xs ts u (λc o g n=>ks c o (X2 _ _ (O _ _ (y _ _ g) n) n) n) (r acc d m) J C () I
theorem J0:FnScope ["_law_found"] ["_law_found"] (j8 yQ):=by walk_at "s"
theorem Ym (j:Nb2 mg) (F:Fun K "_law_whole" "_law_whole" yQ f fd):FnOk P w K mg base CX0 1 f fd ["_law_found"] spWhole:=by
 refine F.ok J0 (λa H Q E h=>?_) (λb A outer s H a Q E c h=>?_)
 ·obtain ⟨i,rfl,_⟩:=h
  rfl
 ·obtain ⟨i,rfl,k⟩:=h
  refine ⟨_,(j9 (jj (wT (jd (xW K) rfl j.b_isinstance iL (j0 (pv 0) (j0 (uZ (v:=V.ty "int") rfl j.b_int mK rfl) j2))) (k8 (Ub (jd (xW K) rfl j.b_isinstance iL (j0 (pv 0) (j0 (uZ (v:=V.ty "bool") rfl j.b_bool PyProof.Rows.boot_bool rfl) j2)))))))),?_⟩
  left
  refine ⟨_,_,_,_,rfl,.int _,QE K,_,rfl,kB ?_⟩
  left
  refine ⟨_,_,_,_,rfl,.int _,Q0 K,_,rfl,?_⟩
  exact k
inductive spGroundDrawn  (vs:List V) (H:Hp) (Q:VK) (z_3:XK):Prop
 | mk (L b:Addr) (tp sz:Int) (_:vs=[.ref b,.int tp,.int sz]) (_:qg L H b) (_:tp<=99) (_:0<=sz) (_:sz<=100) (_:∀p H' (hs:List Int),qg L H' b->Ext b H H'->H p=none->H' p=some (.lst (hs.map V.int))->(hs.length:Int)=sz->(∀x∈hs,0<=x/\x<=99)->Q (.ref p) H')
theorem qV:FnScope ["_law_box_here","_law_top","_law_size","_law_pick","_law_step"] ["_law_box_here","_law_top","_law_size"] (j8 qh):=by walk_at "s"
theorem uR (G:Nb2 mg) (j:Cal P w K mg base 2 "_law_take" ["_law_box_here","_law_size"] spTakeL) (F:Fun K "_law_ground_drawn" "_law_ground_drawn" qh f fd):FnOk P w K mg base CX0 3 f fd ["_law_box_here","_law_top","_law_size"] spGroundDrawn:=by
 refine F.ok qV (λS H Q E h=>?_) (λU A outer s H S Q E I h=>?_)
 ·obtain ⟨L,b,tp,sz,rfl,_⟩:=h
  rfl
 ·obtain ⟨L,b,tp,sz,rfl,B,T,h0,h1,k⟩:=h
  refine ⟨_,(j6 (jz 3 qV.nd (jg j (I.mono ⋯) rfl ↥17))
   (j6 (qc (jv vZ (pv 3) j5 (jK _)) (j9 (jj (jE (osc:=(j8 qh)) (ON:=["_law_box_here","_law_top","_law_size","_law_pick","_law_step"]) (N:=["_law_turn","_law_box_here"]) (own:=1) (caps:=[0]) ⟨rfl,∅,∅,∅,rfl,∅⟩ rfl rfl rfl (jY rfl G.b_range ↥91) (λ_ _ _ _ _=>(jc (i:=0) (show aS (["_law_turn","_law_box_here"]:List Str) by decide +kernel) rfl (aU rfl))) ↥14 (λ_ _ _ _ _=>(jg j (I.mono ⋯) rfl (j0 (pv 1) (j0 j5 j2))))))) jA)
   (j6 (zc (i:=4) qV.nd rfl (fI rfl) (jk jO j5 (jg j (I.mono ⋯) rfl ↥17)))
   (j9 (jj (jE (osc:=(j8 qh)) (ON:=["_law_box_here","_law_top","_law_size","_law_pick","_law_step"]) (N:=["_law_place","_law_top","_law_step"]) (own:=1) (caps:=[1,4]) ⟨rfl,∅,∅,∅,rfl,∅⟩ rfl rfl rfl (jY rfl G.b_range ↥91) (λ_ _ _ _ _=>(jc (i:=0) (show aS (["_law_place","_law_top","_law_step"]:List Str) by decide +kernel) rfl (aU rfl))) ↥14 (λ_ _ _ _ _=>(jd (ux rfl) rfl G.b_max nh (j0 j5 (j0 (jk xE (pv 1) (jk vt (pv 2) (pv 0))) j2)))))))))),?_⟩
  left
  refine ⟨L,b,_,rfl,B,⟨⋯,⋯⟩,λX H1 p1 q1 D C=>?_⟩
  left
  refine qH (λ_=>?_) (λ_=>?_)
  ·left
   refine ⟨(),(),λacc a=>?_⟩
   have e:=D.ne a
   have g:=D.neL a
   refine qq (lo:=0) (n:=sz.toNat) (acc:=acc) (λi σ H2=>∃(x:Option V) (d:List Int),σ=[x,some (.ref b)]/\qg L H2 b/\H2 acc=some (.lst (d.map V.int))/\d.length=i/\(∀x∈d,0<=x/\x<=99)/\Ext b H1 H2) ?_ ?_ ?_
   ·exact ⟨none,[],rfl,D.put e g,j4,rfl,(by intro x hx;cases hx),Ext.new a⟩
   ·rintro i σ H2 hi ⟨x,d,rfl,p,h2,r,l,M⟩
    left
    refine ⟨L,b,_,rfl,p,⟨⋯,⋯⟩,λv m p3 Y y O=>?_⟩
    have u:=O _ _ h2 e
    refine ⟨_,u,by rw [aa];exact jb (),_,d++[v],rfl,y.put e g,by rw [j4,aq];rfl,by rw [ay,r];rfl,λx hx=>?_,λc o t n=>?_⟩
    ·rcases List.mem_append.mp hx with hx | hx
     ·exact l x hx
     ·have:x=v:=by simpa using hx
      right
    ·rw [j7 (j1 t a)]
     exact O _ _ (M c o t n) n
   ·rintro σ H2 ⟨x,d,rfl,p,h2,r,l,M⟩
    exact k acc H2 d p (C.trans M) (C.free a e) h2 () l
  ·left
   refine ⟨L,b,_,rfl,D,⟨⋯,⋯⟩,λq H2 p2 Z p R=>?_⟩
   left
   refine ⟨(),(),λacc a=>?_⟩
   have e:=p.ne a
   have g:=p.neL a
   refine qq (lo:=0) (n:=sz.toNat) (acc:=acc) (λi σ m=>∃(x:Option V) (d:List Int),σ=[x,some (.int tp),some (.int (1+q))]/\qg L m b/\m acc=some (.lst (d.map V.int))/\d.length=i/\(∀x∈d,0<=x/\x<=99)/\Ext b H2 m) ?_ ?_ ?_
   ·exact ⟨none,[],rfl,p.put e g,j4,rfl,(by intro x hx;cases hx),Ext.new a⟩
   ·rintro i σ m hi ⟨x,d,rfl,y,u,r,l,J⟩
    left
    have hm:(0:Int)<=(1+q)*(0+(i:Int)):=Int.mul_nonneg () ()
    refine ⟨_,_,rfl,?_⟩
    refine ⟨_,u,by rw [aa];exact jb (),_,d++[if tp-(1+q)*(0+(i:Int)) > 0 then tp-(1+q)*(0+(i:Int)) else 0],rfl,y.put e g,by rw [j4,aq];rfl,by rw [ay,r];rfl,λx hx=>?_,λc o t n=>?_⟩
    ·rcases List.mem_append.mp hx with hx | hx
     ·exact l x hx
     ·have:x=if tp-(1+q)*(0+(i:Int)) > 0 then tp-(1+q)*(0+(i:Int)) else 0:=by simpa using hx
      rw [this]
      split <;> right
    ·rw [j7 (j1 t a)]
     exact J c o t n
   ·rintro σ m ⟨x,d,rfl,y,u,r,l,J⟩
    have z:=R.free a e
    exact k acc m d y ((C.trans R).trans J) (C.free z e) u () l
structure RD (L b tp rw dp:Addr) (H0:Hp):Prop where
 tb:tp≠b
 rb:rw≠b
 db:dp≠b
 tL:tp≠L
 rL:rw≠L
 dL:dp≠L
 tr:tp≠rw
 td:tp≠dp
 rd:rw≠dp
 nt:H0 tp=none
 nr:H0 rw=none
 nd:H0 dp=none
structure RG (L b tp rw dp:Addr) (H0 H:Hp) (ts:List Int) (xs:List V) (rs:List Rch) (ds:List Int):Prop where
 box:qg L H b
 htp:H tp=some (.lst (ts.map V.int))
 hrw:H rw=some (.lst xs)
 hdp:H dp=some (.lst (ds.map V.int))
 rows:jV H xs rs
 ext:Ext b H0 H
section
variable {L b tp rw dp:Addr}{H0 H H':Hp}{ts ds:List Int}{xs:List V}{rs:List Rch}
theorem RG.take (D:RD L b tp rw dp H0) (G:RG L b tp rw dp H0 H ts xs rs ds) (B:qg L H' b) (X:Ext b H H'):RG L b tp rw dp H0 H' ts xs rs ds :=
 ⟨B,X _ _ G.htp D.tb,X _ _ G.hrw D.rb,X _ _ G.hdp D.db,G.rows.keep (by obtain ⟨ns,a,r,c,d,h1,_⟩:=G.box;exact jo.lst X h1),G.ext.trans X⟩
theorem RG.same (G:RG L b tp rw dp H0 H ts xs rs ds) (s:jf H H'):RG L b tp rw dp H0 H' ts xs rs ds :=
 ⟨G.box.same s,s _ _ G.htp,s _ _ G.hrw,s _ _ G.hdp,G.rows.keep (jo.same s),G.ext.trans (Ext.of_same s)⟩
theorem RG.extN (G:RG L b tp rw dp H0 H ts xs rs ds) (j:H a=none) (e:Ext a H H'):RG L b tp rw dp H0 H' ts xs rs ds:=G.same λc o h=>e c o h (j1 h j)
theorem RG.putT (D:RD L b tp rw dp H0) (G:RG L b tp rw dp H0 H ts xs rs ds) (j:List Int):RG L b tp rw dp H0 (upd H tp (.lst (j.map V.int))) j xs rs ds :=
 ⟨G.box.put D.tb D.tL,j4,by rw [j7 D.tr.symm];exact G.hrw,by rw [j7 D.td.symm];exact G.hdp,G.rows.keep (jo.lst Ext.put G.htp),λc o h n=>by rw [j7 (j1 h D.nt)];exact G.ext c o h n⟩
theorem RG.putR (D:RD L b tp rw dp H0) (G:RG L b tp rw dp H0 H ts xs rs ds) (q:Jr H v r):RG L b tp rw dp H0 (upd H rw (.lst (xs++[v]))) ts (xs++[v]) (rs++[r]) ds :=
 ⟨G.box.put D.rb D.rL,by rw [j7 D.tr];exact G.htp,j4,by rw [j7 D.rd.symm];exact G.hdp,(G.rows.snoc q).keep (jo.lst Ext.put G.hrw),λc o h n=>by rw [j7 (j1 h D.nr)];exact G.ext c o h n⟩
theorem RG.putD (D:RD L b tp rw dp H0) (G:RG L b tp rw dp H0 H ts xs rs ds) (ds':List Int):RG L b tp rw dp H0 (upd H dp (.lst (ds'.map V.int))) ts xs rs ds' :=
 ⟨G.box.put D.db D.dL,by rw [j7 D.td];exact G.htp,by rw [j7 D.rd];exact G.hrw,j4,G.rows.keep (jo.lst Ext.put G.hdp),λc o h n=>by rw [j7 (j1 h D.nd)];exact G.ext c o h n⟩
end
noncomputable def xD (rs:List Rch):List Int:=(aG rs.length).map λi=>jx rs (qr rs i)
theorem Qi {t:Int}{j:List Int}(G:Grown rs) (U:0<=t) (h1:t<rs.length) (z:okR rs.length (t,j)=true):xD (rs++[(t,j)])=xD rs++[jx rs (qr rs t.toNat)+j.length]:=by
 have b:=jZ G.ok
 unfold xD
 rw [ay,bp,bW,aq]
 congr 1
 ·apply eB
  intro i hi
  have a:=List.mem_range.mp hi
  rw [yT b a,xO _ (xM b i a)]
 ·show [jx (rs++[(t,j)]) (qr (rs++[(t,j)]) rs.length)]=[_]
  rw [G.deep_snoc U h1 z]
theorem ZE {rs:List Rch}{t:Int}(j:0<=t) (h1:t<rs.length):atI ((xD rs).map V.int) t=some (.int (jx rs (qr rs t.toNat))):=by
 refine qO j ?_
 unfold xD
 rw [aw,aw,cY ()]
 rfl
theorem V2 {i:Nat}{t sz:Int}{j:List Int}(hi:0<i) (G:0<=t) (h1:t<i) (hl:(j.length:Int)=sz) (Y:1<=sz) (U:sz<=12) (z:∀x∈j,0<=x/\x<=99):okR i (t,j)=true:=by
 unfold okR xC
 rw [if_neg (),decide_eq_true (show 0<=t/\t<(i:Int) from ⟨G,h1⟩),decide_eq_true (show 1<=(j.length:Int)/\(j.length:Int)<=12 by right),eV,eV,cA]
 intro x a
 exact decide_eq_true (z x a)
inductive spReachesL  (vs:List V) (H:Hp) (Q:VK) (z_3:XK):Prop
 | mk (L b:Addr) (_:vs=[.ref b]) (_:qg L H b) (_:∀p H' xs rs,qg L H' b->Ext b H H'->H p=none->H' p=some (.lst xs)->jV H' xs rs->Grown rs->1<=rs.length->rs.length<=8->Q (.ref p) H')
theorem jH:FnScope ["_law_box_here","_law_tops","_law_sizes","_law_rows","_law_deep","_law_number","_law_to","_law_led","_law_heads","_law_size"] ["_law_box_here"] (j8 qY):=by walk_at "s"
theorem Up {v:Int}(a:0<=v) (b:v<3):∃n,atI [V.int 1,V.int 3,V.int 8] v=some (V.int n)/\0<n/\n<=8:=by
 have h:v=0\/v=1\/v=2:=()
 rcases h with rfl | rfl | rfl
 ·exact ⟨1,rfl,(),()⟩
 ·exact ⟨3,rfl,(),()⟩
 ·exact ⟨8,rfl,(),()⟩
theorem Xr (nb:Nb2 mg) (U:Cal P w K mg base 2 "_law_take" ["_law_box_here","_law_size"] spTakeL) (Y:Cal P w K mg base 3 "_law_ground_drawn" ["_law_box_here","_law_top","_law_size"] spGroundDrawn) (F:Fun K "_law_reaches" "_law_reaches" qY f fd):FnOk P w K mg base CX0 4 f fd ["_law_box_here"] spReachesL:=by
 refine F.ok jH (λl H Q E h=>?_) (λej A outer s H l Q E e h=>?_)
 ·obtain ⟨L,b,rfl,_⟩:=h
  rfl
 ·obtain ⟨L,b,rfl,B,k⟩:=h
  refine ⟨_,(j6 (jz 1 jH.nd (jS (j0 (jk jO j5 (jg U (e.mono ⋯) rfl ↥17)) j2)))
   (j6 (jz 2 jH.nd (jS (j0 (jk jO j5 (jg U (e.mono ⋯) rfl ↥17)) j2)))
   (j6 (jz 3 jH.nd (jS (j0 (xV (j0 (jk xE j5 j5) (j0 (qd (zm K) rfl nb.b_tuple eJ (j0 (jg Y (e.mono ⋯) rfl (j0 (pv 0) (j0 (ji (je K) (pv 1) j5 (λ_ _=>rfl)) (j0 (ji (je K) (pv 2) j5 (λ_ _=>rfl)) j2)))) j2)) j2))) j2)))
   (j6 (jz 4 jH.nd (jS (j0 (ji (je K) (pv 2) j5 (λ_ _=>rfl)) j2)))
   (j6 (qK bj rfl (ut rfl nb.b_range (j0 j5 (j0 (jk jO j5 (jg U (e.mono ⋯) rfl (j0 (pv 0) (j0 (ji (je K) (jS (j0 j5 ↥132)) (jg U (e.mono ⋯) rfl ↥17) (λ_ _=>rfl)) j2)))) j2))) (jc (i:=5) jH.nd rfl (aU rfl)) (j6 (jz 6 jH.nd (jg U (e.mono ⋯) rfl (j0 (pv 0) (j0 (pv 5) j2))))
   (j6 (zc (i:=7) jH.nd rfl (fI rfl) (jE (osc:=(j8 qY)) (ON:=["_law_box_here","_law_tops","_law_sizes","_law_rows","_law_deep","_law_number","_law_to","_law_led","_law_heads","_law_size"]) (N:=["_law_row_here"]) (own:=1) (caps:=[]) ⟨rfl,∅,∅,∅,rfl,∅⟩ rfl rfl rfl (jN K (pv 3)) (λ_ _ _ _ _=>(jc (i:=0) (show aS (["_law_row_here"]:List Str) by decide +kernel) rfl (aU rfl))) ↥14 (λ_ _ _ _ _=>↥21)))
   (j6 (jz 8 jH.nd (jd (ja K) rfl nb.b_len aH (j0 (jE (osc:=(j8 qY)) (ON:=["_law_box_here","_law_tops","_law_sizes","_law_rows","_law_deep","_law_number","_law_to","_law_led","_law_heads","_law_size"]) (N:=["_law_one","_law_led"]) (own:=1) (caps:=[7]) ⟨rfl,∅,∅,∅,rfl,∅⟩ rfl rfl rfl (jY rfl nb.b_range (j0 (pv 5) j2)) (λ_ _ _ _ _=>(jc (i:=0) (show aS (["_law_one","_law_led"]:List Str) by decide +kernel) rfl (aU rfl))) (λ_ _ _ _ _=>(zj (jv (xG K) (pv 0) (pv 1) ↥56))) ↥106) j2)))
   (uh (qc (PW.pt (wS (jv vZ (pv 8) j5 (jK _)) (vX (jv (QF K) (pv 6) (pv 7) ↥56)))) (j9 (jz 6 jH.nd (jk xE (pv 5) j5))) jA)
   (j9 (qc (jv vP (ji (je K) (pv 4) (pv 6) (λ_ _=>rfl)) j5 (jK _)) (j6 (jz 9 jH.nd (jk jO j5 (jg U (e.mono ⋯) rfl (j0 (pv 0) (j0 (jd (uv rfl) rfl nb.b_min tH (j0 j5 (j0 (jk xE j5 (ji (je K) (pv 4) (pv 6) (λ_ _=>rfl))) j2))) j2)))))
   (j6 (jU (zM K bC bG bH qk (pv 1) (j0 (jd (uv rfl) rfl nb.b_min tH (j0 j5 (j0 (jk jO (ji (je K) (pv 1) (pv 6) (λ_ _=>rfl)) (jg U (e.mono ⋯) rfl ↥17)) j2))) j2)))
   (j6 (jU (zM K bC bG bH qk (pv 3) (j0 (xV (j0 (pv 6) (j0 (qd (zm K) rfl nb.b_tuple eJ (j0 (jg Y (e.mono ⋯) rfl (j0 (pv 0) (j0 (ji (je K) (pv 1) (zi xh j5) (λ_ _=>rfl)) (j0 (pv 9) j2)))) j2)) j2))) j2)))
   (j9 (jU (zM K bC bG bH qk (pv 4) (j0 (jk jO (ji (je K) (pv 4) (pv 6) (λ_ _=>rfl)) (pv 9)) j2))))))) (j9 (jj (pv 3))))))))))
   (j9 (jj (pv 3)))))))),?_⟩
  left
  refine ⟨L,b,_,rfl,B,⟨⋯,⋯⟩,λv1 H1 p1 q1 B1 X1=>?_⟩
  left
  refine ⟨by show 1<=sizeLine;decide,λtp H2 am bv s2=>?_⟩
  have B2:=B1.same s2
  left
  refine ⟨L,b,_,rfl,B2,⟨⋯,⋯⟩,λv2 X p3 q3 B3 X3=>?_⟩
  have tb:=B1.ne am
  have tL:=B1.neL am
  left
  refine ⟨by show 1<=sizeLine;decide,λsz H4 da b2 s4=>?_⟩
  have B4:=B3.same s4
  have bt:=s4 _ _ (X3 _ _ bv tb)
  left
  refine ⟨L,b,20+v1,1+v2,rfl,B4,(),(),(),λgl H5 d B5 X5 ed ch hl hb=>?_⟩
  have cs:=B3.ne da
  have al:=X5 _ _ bt tb
  have b1:=X5 _ _ b2 cs
  refine ⟨gl,_,rfl,SqL.of ch,λgt H6 ec cd s6=>?_⟩
  refine ⟨by show 2<=sizeLine;decide,λrt H7 eb b4 R=>?_⟩
  refine ⟨by show 1<=sizeLine;decide,λrw H8 J ap s8=>?_⟩
  have B8:=((B5.same s6).same R).same s8
  have o:jf H5 H8:=(s6.trans R).trans s8
  have dK:=o _ _ b1
  have ai:=o _ _ al
  have b3:H5 rw=none:=(s6.trans R).free J
  have B7:=(B5.same s6).same R
  have rb:=B7.ne J
  have rL:=B7.neL J
  have tr:tp≠rw:=j1 ((s6.trans R) _ _ al) J
  left
  refine ⟨by show 1<=sizeLine;decide,λdp H9 u ci O=>?_⟩
  have db:=B8.ne u
  have dL:=B8.neL u
  have td:tp≠dp:=j1 ai u
  have rd:rw≠dp:=j1 ap u
  have nz:∀a,H8 a=none->a≠b->a≠L->H a=none:=λa ha ab aL=>by
   have a5:=o.free ha
   have a4:=X5.free a5 ab
   exact X1.free (s2.free (X3.free (s4.free a4) ab)) ab
  have nt:H tp=none:=X1.free am tb
  have nr:H rw=none:=X1.free (s2.free (X3.free (s4.free (X5.free b3 rb)) rb)) rb
  have nd:H dp=none:=nz dp u db dL
  have D:RD L b tp rw dp H:=⟨tb,rb,db,tL,rL,dL,tr,td,rd,nt,nr,nd⟩
  have c4:ul [((0-1:Int),d)]=true:=by
   unfold ul okR xC
   simp only [bp,List.range_one,nN,List.all_nil,Bool.and_true]
   show (decide ((0-1:Int) = -1) && decide (1<=(d.length:Int)/\(d.length:Int)<=12) && d.all λx=>decide (0<=x/\x<=99))=true
   rw [decide_eq_true (show 1<=(d.length:Int)/\(d.length:Int)<=12 by right),bz,cA]
   exact ⟨rfl,λx hx=>decide_eq_true (hb x hx)⟩
  have a6:qr [((0-1:Int),d)] 0=[0]:=rfl
  have a7:jx [((0-1:Int),d)] [0]=d.length:=by unfold jx;simp [zK]
  have G0:Grown [((0-1:Int),d)]:=by
   refine ⟨c4,aI (bO _ _) (by simp),λi hi=>?_⟩
   have:i=0:=by simp at hi;exact hi
   subst this
   rw [a6,a7]
   right
  have cm:Ext b H H8:=((((X1.trans (Ext.of_same s2)).trans X3).trans (Ext.of_same s4)).trans X5).trans (Ext.of_same o)
  have br:RG L b tp rw dp H H9 [20+v1] [.ref rt] [((0-1:Int),d)] (xD [((0-1:Int),d)]):=by
   refine ⟨B8.same O,O _ _ ai,O _ _ ap,?_,.cons ⟨rt,gt,rfl,O _ _ (s8 _ _ b4),O _ _ (s8 _ _ (R _ _ cd))⟩ .nil,cm.trans (Ext.of_same O)⟩
   rw [ci]
   show some (HO.lst [V.int (1+v2)])=some (.lst [V.int (jx [((0-1:Int),d)] (qr [((0-1:Int),d)] 0))])
   rw [a6,a7,hl]
  left
  refine ⟨by show 3<=sizeLine;decide,λd1 eo hq b6 cy=>?_⟩
  have bq:=br.same cy
  left
  refine ⟨L,b,_,rfl,bq.box,⟨⋯,⋯⟩,λv3 em c2 c1 bs bn=>?_⟩
  have dx:=bq.take D bs bn
  have b5:=bn _ _ b6 (br.box.ne hq)
  obtain ⟨n,hn,n0,n8⟩:=Up c2 c1
  refine ⟨_,_,_,_,rfl,rfl,SqL.of b5,hn,?_⟩
  refine ⟨L,b,_,rfl,bs,⟨n0,()⟩,λv4 el d3 d2 dD dk=>?_⟩
  have dn:=dx.take D dD dk
  left
  refine ⟨1,1+v4,rfl,⟨(),(),(),()⟩,?_⟩
  have bN:∀t∈[20+v1],t<=99:=λt ht=>by
   have:t=20+v1:=by simpa using ht
   right
  have done:∀(H':Hp) ts xs rs ds,RG L b tp rw dp H H' ts xs rs ds->Grown rs->1<=rs.length->rs.length<=8->Q (.ref rw) H':=λH' ts xs rs ds G gr h1 h8=>k rw H' xs rs G.box G.ext nr G.hrw G.rows gr h1 h8
  refine xk (lo:=1) (n:=(1+v4-1).toNat) (λi σ H'=>∃(v5 v6 v7 v8 v9:Option V) (ts:List Int) (xs:List V) (rs:List Rch),σ=[some (.ref b),some (.ref tp),some (.ref sz),some (.ref rw),some (.ref dp),v5,v6,v7,v8,v9]/\RG L b tp rw dp H H' ts xs rs (xD rs)/\Grown rs/\rs.length=i+1/\ts.length=i+1/\∀t∈ts,t<=99) ⟨_,_,_,_,_,_,_,_,rfl,dn,G0,rfl,rfl,bN⟩ ?_ ?_
  ·rintro i σ H' hi ⟨v5,v6,v7,v8,v9,ts,xs,rs,rfl,G,gr,be,a9,bd⟩
   have Ld:=jZ gr.ok
   have c9:=G.rows.length
   left
   refine ⟨L,b,_,rfl,G.box,⟨(),()⟩,λt Ha bl ei Ba Xa=>?_⟩
   have Ga:=G.take D Ba Xa
   left
   refine ⟨⟨_,SqL.of Ga.hrw⟩,λld a0=>?_⟩
   refine jJ (K:=K) (a:=rw) (xs:=xs) (acc:=ld) (λj σ H2=>∃x:Option V,σ=[x]/\H2 ld=some (.lst (((rs.take j).map (·.1)).map V.int))/\Ext ld Ha H2) ?_ ?_ ?_ ?_
   ·exact ⟨none,rfl,j4,Ext.put⟩
   ·rintro j σ H2 hj ⟨x,rfl,y,T⟩
    exact SqL.of (T _ _ Ga.hrw (j1 Ga.hrw a0))
   ·rintro j v σ H2 hv ⟨x,rfl,y,T⟩
    obtain ⟨r,e,q,g,rfl,hq,hg⟩:=(Ga.rows.keep (jo.new T a0)).get hv
    have hj:j<rs.length:=(List.getElem?_eq_some_iff.mp e).1
    left
    refine ⟨_,y,by rw [aa,aa,aE];exact jb (),_,rfl,?_,T.trans Ext.put⟩
    rw [j4,qv (λr:Rch=>r.1) rs j r e,aq]
    rfl
   ·rintro σ H2 ⟨x,rfl,y,T⟩
    rw [c9,aX] at y
    have Gb:=Ga.extN a0 T
    left
    refine ⟨(),(),λhd a1=>?_⟩
    have en:(1+(i:Int)).toNat=rs.length:=()
    refine qq (lo:=0) (n:=(1+(i:Int)).toNat) (acc:=hd) (λj σ X=>∃(x:Option V) (l:List V),σ=[x,some (.ref ld)]/\X hd=some (.lst l)/\l.length=((aG j).filter (jQ rs)).length/\Ext hd H2 X) ?_ ?_ ?_
    ·exact ⟨none,[],rfl,j4,rfl,Ext.put⟩
    ·rintro j σ X hj ⟨x,l,rfl,h4,l4,S⟩
     have er:((aG (j+1)).filter (jQ rs)).length=((aG j).filter (jQ rs)).length+(if jQ rs j=true then 1 else 0):=by
      rw [bW,bP,ay]
      congr 1
      by_cases z:jQ rs j=true
      ·rw [if_pos z];simp [z]
      ·rw [if_neg z];simp [z]
     have eg:((aG j).filter (jQ rs)).length<=j:=aI (bO _ _) (by rw [bg];exact ar _)
     left
     refine ⟨ld,_,rfl,.inl (SqL.of (S _ _ y (j1 y a1))),rfl,zZ _,?_⟩
     left
     rw [dW,yI]
     refine zS (λm=>?_) (λm=>?_)
     ·have hb:jQ rs j=true:=by unfold jQ;rw [decide_eq_false (show ¬(j:Int)∈tos rs from m)];rfl
      left
      refine ⟨l,h4,jb (),_,_,rfl,j4,?_,S.trans Ext.put⟩
      rw [ay,bp,er,if_pos hb,l4]
     ·have hb:¬jQ rs j=true:=by unfold jQ;rw [decide_eq_true (show (j:Int)∈tos rs from m)];exact au
      exact ⟨_,l,rfl,h4,by rw [er,if_neg hb,l4,Nat.add_zero],S⟩
    ·rintro σ X ⟨x,l,rfl,h4,l4,S⟩
     have Gc:=Gb.extN a1 S
     have ca:=S _ _ y (j1 y a1)
     rw [en] at l4
     have ea:l.length=(jq rs).length:=l4
     refine ⟨_,_,rfl,.inl (SqL.of h4),?_⟩
     refine ⟨λσ H5=>∃c:Int,σ=[some (.ref b),some (.ref tp),some (.ref sz),some (.ref rw),some (.ref dp),some (.int (1+(i:Int))),some (.int c),some (.ref ld),some (.int l.length),v9]/\H5=X/\0<=c/\c<rs.length/\(c∈tos rs->(jq rs).length<6),?_,?_⟩
     ·have hh:=gr.heads
      left
      refine qH (λh6=>?_) (λh6=>?_)
      ·left
       refine ⟨ld,_,rfl,.inl (SqL.of ca),rfl,zZ _,?_⟩
       left
       rw [yI]
       refine qH (λm=>?_) (λm=>?_)
       ·left
        refine ⟨(),(),λz=>?_⟩
        have:=QU Ld z
        right
       ·exact ⟨t,rfl,rfl,bl,(),λz=>absurd z m⟩
      ·have:(jq rs).length<6:=by
        have:(l.length:Int)≠6:=λz=>h6 (by rw [z])
        right
       exact ⟨t,rfl,rfl,bl,(),λ_=>this⟩
     ·rintro σ H5 ⟨c,rfl,rfl,Z,t1,th⟩
      have M:=ZE Z t1
      left
      refine ⟨_,_,_,_,rfl,rfl,SqL.of Gc.hdp,M,?_⟩
      left
      refine qH (λbm=>?_) (λbm=>?_)
      ·have cl:=gr.deep c.toNat ()
       generalize bk:jx rs (qr rs c.toNat)=dt at M bm cl
       left
       refine ⟨_,_,_,_,rfl,rfl,SqL.of Gc.hdp,M,?_⟩
       left
       refine ⟨_,_,rfl,?_⟩
       refine ⟨L,b,_,rfl,Gc.box,⟨by split <;> right,by split <;> right⟩,λp H6 p6 q6 B6 X6=>?_⟩
       have Gd:=Gc.take D B6 X6
       have dF:1+p<=12/\dt+(1+p)<=30:=by
        have cL:=q6
        split at cL <;> right
       left
       refine ⟨.inl ⟨rfl,_,SqL.of Gd.htp⟩,?_⟩
       left
       have an:c.toNat<ts.length:=()
       refine ⟨_,_,_,_,rfl,rfl,SqL.of Gd.htp,qO Z (by rw [aw,ae an];rfl),?_⟩
       left
       refine ⟨L,b,_,rfl,Gd.box,⟨⋯,⋯⟩,λa3 H7 p7 q7 B7 X7=>?_⟩
       have Ge:=Gd.take D B7 X7
       left
       refine ⟨_,_,rfl,?_⟩
       generalize b9:(if ts[c.toNat]'an+a3<99 then ts[c.toNat]'an+a3 else 99)=new
       have as:new<=99:=by rw [<- b9];split <;> right
       left
       refine ⟨tp,_,_,rfl,rfl,Ge.htp,by rw [aa];exact jb (),?_⟩
       have Gf:RG L b tp rw dp H (upd H7 tp (.lst (ts.map V.int++[V.int new]))) (ts++[new]) xs rs (xD rs):=by
        have:=Ge.putT D (ts++[new])
        rw [aq] at this
        exact this
       left
       refine ⟨.inl ⟨rfl,_,SqL.of Gf.hrw⟩,?_⟩
       left
       refine ⟨_,_,_,_,rfl,rfl,SqL.of j4,zk _ _,?_⟩
       left
       refine ⟨L,b,new,1+p,rfl,Gf.box,as,(),(),λdg H8 I dy X8 d0 ce bi dc=>?_⟩
       have Gg:=Gf.take D dy X8
       refine ⟨dg,_,rfl,SqL.of ce,λdd ek dV cb ct=>?_⟩
       refine ⟨by show 2<=sizeLine;decide,λC cr dT a2 ac=>?_⟩
       have Gh:=(Gg.same ct).same ac
       left
       refine ⟨rw,_,_,rfl,rfl,Gh.hrw,jb (),?_⟩
       have a8:okR rs.length (c,I)=true:=V2 () Z t1 bi () () dc
       have Gi:=Gh.putR D (v:=.ref C) (r:=(c,I)) ⟨C,dd,rfl,a2,ac _ _ cb⟩
       left
       refine ⟨.inl ⟨rfl,_,SqL.of Gi.hdp⟩,?_⟩
       left
       refine ⟨_,_,_,_,rfl,rfl,SqL.of Gi.hdp,M,?_⟩
       left
       have eh:(xD rs).length=rs.length:=by unfold xD;simp
       refine ⟨dp,_,_,rfl,rfl,Gi.hdp,by rw [aa];exact jb (),?_⟩
       have Gj:RG L b tp rw dp H (upd (upd cr rw (.lst (xs++[.ref C]))) dp (.lst ((xD rs).map V.int++[V.int (dt+(1+p))]))) (ts++[new]) (xs++[.ref C]) (rs++[(c,I)]) (xD (rs++[(c,I)])):=by
        have:=Gi.putD D (xD rs++[dt+(1+p)])
        rw [aq] at this
        rw [Qi gr Z t1 a8,bk,bi]
        exact this
       refine ⟨_,_,_,_,_,_,_,_,rfl,Gj,gr.snoc Z t1 a8 th (by rw [bk];right),by rw [ay,be];rfl,by rw [ay,a9];rfl,λt ht=>?_⟩
       rcases List.mem_append.mp ht with ht | ht
       ·exact bd t ht
       ·have:t=new:=by simpa using ht
        right
      ·left
       exact done _ _ _ _ _ Gc gr () ()
  ·rintro σ H' ⟨v5,v6,v7,v8,v9,ts,xs,rs,rfl,G,gr,be,a9,bd⟩
   left
   exact done _ _ _ _ _ G gr () ()
noncomputable def ZB (t:TE):Prop:=∀σ H Q a,(∀v H,Q v H->a v H)->t σ H Q->t σ H a
noncomputable def Yy (r:R2):Prop:=∀x y H Q a,(∀v H,Q v H->a v H)->r x y H Q->r x y H a
theorem XA (i:Nat):ZB (tVar i):=λ_ _ _ _ h ⟨v,e,q⟩=>⟨v,e,h _ _ q⟩
theorem XT (v:V):ZB (tC v):=λ_ _ _ _ h q=>h _ _ q
theorem wv (j:Yy r) (G:ZB ta) (z:ZB tb):ZB (tOp r ta tb):=λσ H Q c h q=>G σ H _ _ (λx H1 b=>z σ H1 _ _ (λy H2 a=>j x y H2 _ _ h a) b) q
theorem Xv (K:ag):Yy (rIxL K):=λ_ _ _ _ _ h ⟨a,xs,i,v,e,d,c,b,q⟩=>⟨a,xs,i,v,e,d,c,b,h _ _ q⟩
theorem VJ (K:ag):Yy (rIxT K):=λ_ _ _ _ _ h ⟨a,xs,i,v,e,d,c,b,q⟩=>⟨a,xs,i,v,e,d,c,b,h _ _ q⟩
theorem W0 (g:Int->Int->V):Yy (rI0 g):=λ_ _ _ _ _ h ⟨i,j,b,a,q⟩=>⟨i,j,b,a,h _ _ q⟩
theorem Ua:Yy rNe:=λ_ _ _ _ _ h ⟨e,q⟩=>⟨e,h _ _ q⟩
theorem Yd (j:ZB t):∀σ H Q Q',(∀b H1,Q b H1->Q' b H1)->Qo t σ H Q->Qo t σ H Q':=λσ H Q Q' h q=>j σ H _ _ (λ_ _ ⟨k,e,q⟩=>⟨k,e,h _ _ q⟩) q
theorem Qp {α:Type}{x:α}{l:List α}:atI (x::l) 0=some x:=zD (j:=0) rfl
noncomputable def vH (fd:Addr) (H:Hp) (vs:List V) (j:List (List Int)):Prop:=cJ (λv (r:List Int)=>∃a,v=V.ref a/\a≠fd/\H a=some (.lst (r.map V.int))) vs j
theorem vH.ext {rows:List (List Int)}(h:vH fd H vs rows) (e:Ext fd H H'):vH fd H' vs rows:=Paired.mapP h λ_ _ ⟨a,b,n,q⟩=>⟨a,b,n,e _ _ q n⟩
theorem vH.rowsI {rows:List (List Int)}(h:vH fd H vs rows):yz H vs rows:=Paired.mapP h λ_ _ ⟨a,b,n,q⟩=>⟨a,b,q⟩
theorem ki {vs:List V}{ws:List (List Int)}(h:yz H vs ws):∀z:List Nat,(∀i∈z,i<vs.length)->yz H (z.map λi=>vs.getD i V.non) (z.map λi=>ws.getD i [])
 | [],_=>.nil
 | i::z,b=>by
  refine .cons ?_ (ki h z λj c=>b j (aD _ c))
  have hi:=b i aK
  obtain ⟨y,f,a,e,d⟩:=Paired.get h (ae hi)
  refine ⟨a,?_,?_⟩
  ·show vs.getD i V.non=V.ref a
   rw [aj,ae hi];exact e
  ·show H a=some (.lst ((ws.getD i []).map V.int))
   rw [aj,f];exact d
inductive spRoadsL (K:ag) (vs:List V) (H:Hp) (Q:VK) (z_3:XK):Prop
 | mk (p:Addr) (xs:List V) (rs:List Rch) (_:vs=[.ref p]) (_:H p=some (.lst xs)) (_:jV H xs rs) (_:xn rs) (_:rs.length<=60) (_:∀l H' out ws,H l=none->H' l=some (.lst out)->yz H' out ws->jW rs ws->jf H H'->Q (.ref l) H')
theorem qS:FnScope ["_law_reaches_here","_law_led","_law_found","_law_head","_law_road"] ["_law_reaches_here"] (j8 xL):=by walk_at "s"
theorem Y9 (nb:Nb2 mg) (F:Fun K "_law_roads" "_law_roads" xL f fd):FnOk P w K mg base CX0 1 f fd ["_law_reaches_here"] (spRoadsL K):=by
 refine F.ok qS (λd H Q E h=>?_) (λcm A outer s H d Q E hr h=>?_)
 ·obtain ⟨p,xs,rs,rfl,_⟩:=h
  rfl
 ·obtain ⟨p,xs,rs,rfl,hp,al,L,cl,k⟩:=h
  have ap:=al.length
  refine ⟨_,(j6 (zG (j:=1) (osc:=(j8 xL)) (ON:=["_law_reaches_here","_law_led","_law_found","_law_head","_law_road"]) (N:=["_law_to","_law_ground_here"]) (own:=2) (caps:=[]) ⟨rfl,∅,∅,∅,rfl,∅⟩ qS.nd rfl (aU rfl) rfl rfl rfl (jN K (pv 0)) (λ_ _ _ _ _=>(qt (n:=2) K rfl (jn (jc (i:=0) (show aS (["_law_to","_law_ground_here"]:List Str) by decide +kernel) rfl (aU rfl)) (jn (jc (i:=1) (show aS (["_law_to","_law_ground_here"]:List Str) by decide +kernel) rfl (aU rfl)) qu)))) ↥14 ↥106)
   (j6 (jz 2 qS.nd (jS j2))
   (j6 (qK bj rfl (jY rfl nb.b_range (j0 (jd (ja K) rfl nb.b_len aH ↥33) j2)) (jc (i:=3) qS.nd rfl (aU rfl)) (j9 (qc (jv (xG K) (pv 3) (pv 1) ↥56) (j6 (jz 4 qS.nd (jS (j0 (pv 3) j2)))
   (j6 (wn bj (jv Yc (ji (jG K) (ji (je K) (pv 0) (ji (je K) (pv 4) j5 (λ_ _=>rfl)) (λ_ _=>rfl)) j5 (λ_ _=>rfl)) (jk xE j5 j5) (jK _)) (j9 (jz 4 qS.nd (jk yu (jS (j0 (ji (jG K) (ji (je K) (pv 0) (ji (je K) (pv 4) j5 (λ_ _=>rfl)) (λ_ _=>rfl)) j5 (λ_ _=>rfl)) j2)) (pv 4)))))
   (j9 (jU (zM K bC bG bH qk (pv 2) (j0 (pv 4) j2)))))) jA)))
   (j9 (jj (jE (osc:=(j8 xL)) (ON:=["_law_reaches_here","_law_led","_law_found","_law_head","_law_road"]) (N:=["_law_road"]) (own:=1) (caps:=[]) ⟨rfl,∅,∅,∅,rfl,∅⟩ rfl rfl rfl (jN K (jd (kN K hr.units) rfl nb.b_sorted mY ↥91)) (λ_ _ _ _ _=>(jc (i:=0) (show aS (["_law_road"]:List Str) by decide +kernel) rfl (aU rfl))) ↥14 (λ_ _ _ _ _=>(Va K (pv 0))))))))),?_⟩
  left
  refine ⟨⟨_,SqL.of hp⟩,λU a2=>?_⟩
  refine jJ (K:=K) (a:=p) (xs:=xs) (acc:=U) (λj σ H2=>∃x y:Option V,σ=[x,y]/\H2 U=some (.lst (((rs.take j).map (·.1)).map V.int))/\Ext U H H2) ?_ ?_ ?_ ?_
  ·exact ⟨none,none,rfl,j4,Ext.put⟩
  ·rintro j σ H2 hj ⟨x,y,rfl,T,Y⟩
   exact SqL.of (Y _ _ hp (j1 hp a2))
  ·rintro j v σ H2 S ⟨x,y,rfl,T,Y⟩
   obtain ⟨r,hr,q,g,rfl,C,hg⟩:=(al.keep (jo.new Y a2)).get S
   have hj:j<rs.length:=(List.getElem?_eq_some_iff.mp hr).1
   left
   refine ⟨q,_,rfl,SqT.of C,rfl,?_⟩
   refine ⟨_,_,rfl,_,_,rfl,rfl,?_⟩
   left
   refine ⟨_,T,by rw [aa,aa,aE];exact jb (),_,_,rfl,?_,Y.trans Ext.put⟩
   rw [j4,qv (λr:Rch=>r.1) rs j r hr,aq]
   rfl
  ·rintro σ H2 ⟨x,y,rfl,T,Y⟩
   rw [ap,aX] at T
   have B:jf H H2:=λc o e=>Y c o e (j1 e a2)
   left
   refine ⟨aT _,λfo H3 a1 a0 s3=>?_⟩
   have a6:=s3 _ _ (B _ _ hp)
   have be:jV H3 xs rs:=al.keep (jo.same (B.trans s3))
   have bn:=s3 _ _ T
   have bl:H fo=none:=B.free a1
   left
   refine ⟨_,_,rfl,.inl (SqL.of a6),?_⟩
   refine ⟨_,rfl,(),(),?_⟩
   rw [ap]
   refine xk (lo:=0) (n:=((rs.length:Nat):Int).toNat) (λj σ H4=>∃(v3 v4:Option V) (d:List V),σ=[some (.ref p),some (.ref U),some (.ref fo),v3,v4]/\H4 fo=some (.lst d)/\vH fo H4 d (((aG j).filter (jQ rs)).map λh=>(qr rs h).reverse)/\Ext fo H3 H4/\d.length<=j) ?_ ?_ ?_
   ·exact ⟨_,_,[],rfl,a0,.nil,Ext.refl,ar _⟩
   ·rintro j σ H4 hj ⟨v3,v4,d,rfl,h4,G,O,l4⟩
    have b5:j<rs.length:=()
    have bs:jo H3 H4:=jo.lst O a0
    have bm:=O _ _ bn (j1 T a1)
    have b4:=O _ _ a6 (j1 (B _ _ hp) a1)
    have bd:jV H4 xs rs:=be.keep bs
    have er:(aG (j+1)).filter (jQ rs)=(aG j).filter (jQ rs)++(if jQ rs j=true then [j] else []):=by
     rw [bW,bP]
     congr 1
     by_cases z:jQ rs j=true
     ·rw [if_pos z];simp [z]
     ·rw [if_neg z];simp [z]
    left
    refine ⟨U,_,rfl,.inl (SqL.of bm),rfl,zZ _,?_⟩
    left
    rw [dW,yI]
    refine zS (λas=>?_) (λas=>?_)
    ·have hb:jQ rs j=true:=by unfold jQ;rw [decide_eq_false (show ¬(j:Int)∈tos rs from as)];rfl
     left
     refine ⟨by show 1<=sizeLine;decide,λr0 H5 b1 bk R=>?_⟩
     left
     refine Q8 (λσ b=>∃(a:Addr) (r:Nat) (l:List Int),σ=[some (.ref p),some (.ref U),some (.ref fo),some (.int (j:Int)),some (.ref a)]/\jf H4 b/\H4 a=none/\b a=some (.lst (((r:Int)::l).map V.int))/\r<rs.length/\l.length+r<=100/\l.reverse++qr rs r=qr rs j) (λσ b=>match σ with | [_,_,_,_,some (.ref a)]=>(match b a with | some (.lst (.int r::_))=>r.toNat | _=>0) | _=>0) ?_ ?_ ?_
     ·exact ⟨r0,j,[],rfl,R,b1,bk,b5,by simp;right,rfl⟩
     ·rintro σ b ⟨a,r,l,rfl,J,a9,D,m,ch,a8⟩
      have a5:=J _ _ b4
      obtain ⟨v,S,q,g,rfl,C,hg⟩:=(bd.keep (jo.same J)).at (ae m)
      have ht:=L.lt m
      have a7:=wg (L _ m)
      have et:=Jp (ae m)
      rw [et] at ht a7
      generalize (rs[r]'m).1=tt at ht a7 et C
      left
      refine ⟨_,_,_,_,rfl,rfl,SqL.of D,Qp,?_⟩
      refine ⟨_,_,_,_,rfl,rfl,SqL.of a5,zD S,?_⟩
      refine ⟨_,_,_,_,rfl,rfl,SqT.of C,rfl,?_⟩
      left
      refine zS (λan=>?_) (λan=>?_)
      ·have ca:0<=tt:=by
        have:tt ≠ -1:=λz=>an (by rw [z];rfl)
        right
       left
       refine ⟨_,_,_,_,rfl,rfl,SqL.of D,Qp,?_⟩
       refine ⟨_,_,_,_,rfl,rfl,SqL.of a5,zD S,?_⟩
       refine ⟨_,_,_,_,rfl,rfl,SqT.of C,rfl,?_⟩
       refine ⟨by show 1<=sizeLine;decide,λc1 H7 ci bq I=>?_⟩
       left
       refine ⟨c1,a,_,_,rfl,rfl,bq,I _ _ D,?_,λc2 H8 b6 a3 s8=>?_⟩
       ·show 1+(((r:Int)::l).map V.int).length<=sizeLine
        rw [aa,bc]
        exact c3 (jb ())
       ·have b9:tt=((tt.toNat:Nat):Int):=()
        refine ⟨⟨c2,tt.toNat,(r:Int)::l,rfl,(J.trans I).trans s8,(J.trans I).free b6,?_,(),?_,?_⟩,?_⟩
        ·rw [a3,b9]
         simp only [aW]
         rfl
        ·rw [bc];right
        ·rw [lE,fc,<- a8,zI L m,et,if_neg ()]
         rfl
        ·show (match H8 c2 with | some (.lst (.int r::_))=>r.toNat | _=>0)<(match b a with | some (.lst (.int r::_))=>r.toNat | _=>0)
         rw [a3,D]
         show tt.toNat<((r:Int)).toNat
         right
      ·have cb:tt = -1:=V.int.inj an
       have aL:=J _ _ h4
       left
       refine ⟨.inl ⟨rfl,_,SqL.of aL⟩,?_⟩
       left
       refine ⟨fo,_,_,rfl,rfl,aL,jb (),?_⟩
       have br:a≠fo:=λz=>by rw [z,h4] at a9;cases a9
       refine ⟨_,_,d++[.ref a],rfl,j4,?_,λc o e n=>by rw [j7 n];exact J _ _ (O c o e n),by rw [ay,bp];right⟩
       rw [er,if_pos hb,aq]
       refine vH.ext (cZ (G.ext (Ext.of_same J)) ⟨a,rfl,br,?_⟩) Ext.put
       show b a=some (.lst (((qr rs j).reverse).map V.int))
       rw [D,<- a8,zI L m,et,if_pos (),List.reverse_append,fj]
       rfl
     ·exact Yd (wv Ua (wv (VJ K) (wv (Xv K) (XA 0) (wv (Xv K) (XA 4) (XT _))) (XT _)) (wv (W0 _) (XT _) (XT _)))
    ·have hb:¬jQ rs j=true:=by unfold jQ;rw [decide_eq_true (show (j:Int)∈tos rs from as)];exact au
     refine ⟨_,_,d,rfl,h4,?_,O,()⟩
     rw [er,if_neg hb,b0]
     exact G
   ·rintro σ H4 ⟨v3,v4,d,rfl,h4,G,O,l4⟩
    rw [aW] at G l4
    have ab:jf H H4:=λc o e=>O _ _ (s3 _ _ (B _ _ e)) (j1 e bl)
    left
    refine ⟨fo,d,_,rfl,SqL.of h4,(),G.rowsI,λso H5 ac cd M R hs=>?_⟩
    obtain ⟨ix,am,eo,b3⟩:=hs
    have bv:d.length=(jq rs).length:=by rw [aZ G,aa];rfl
    have hb:∀i∈ix,i<d.length:=λi hi=>by have:=am.mem_iff.mp hi;simpa using this
    have bN:=ki (G.rowsI) ix hb
    have ai:yz H5 ac (ix.map λi=>((↥126).getD i [])):=by
     rw [eo]
     exact Paired.mapP bN λ_ _ ⟨a,e1,q⟩=>⟨a,e1,R _ _ q⟩
    have ce:ac.length<=60:=by rw [eo,aa,am.length_eq,bg];right
    generalize a4:(ix.map λi=>((↥126).getD i []))=rv at ai
    have bi:=aZ ai
    have bt:jW rs (rv.map cU):=by
     refine ⟨?_,?_⟩
     ·have h1:=am.map λi=>((↥126).getD i [])
      rw [bv,show (jq rs).length=(↥126).length by rw [aa],Jz,a4] at h1
      have h2:=h1.map cU
      rw [bM] at h2
      refine h2.trans (List.Perm.of_eq (eB λx _=>?_))
      exact fj _
     ·rw [bM,show (cU ∘ cU:List Int->List Int)=id from funext λx=>fj x,n5,<- a4]
      exact b3
    refine ⟨so,rfl,⟨_,SqL.of M⟩,λacc u=>?_⟩
    refine jJ (K:=K) (a:=so) (xs:=ac) (acc:=acc) (λj σ b=>∃(x:Option V) (t:List V),σ=[x]/\b acc=some (.lst t)/\vH acc b t ((rv.take j).map cU)/\Ext acc H5 b/\t.length=j) ?_ ?_ ?_ ?_
    ·exact ⟨none,[],rfl,j4,.nil,Ext.put,rfl⟩
    ·rintro j σ b hj ⟨x,t,rfl,h6,Z,X,l6⟩
     exact SqL.of (X _ _ M (j1 M u))
    ·rintro j v σ b S ⟨x,t,rfl,h6,Z,X,l6⟩
     obtain ⟨y,e2,a,rfl,ha⟩:=Paired.get ai S
     have hj:j<rv.length:=(List.getElem?_eq_some_iff.mp e2).1
     left
     refine ⟨a,_,rfl,SqL.of (X _ _ ha (j1 ha u)),λq H7 C b2 I=>?_⟩
     have h7:=I _ _ h6
     have nq:q≠acc:=λz=>by rw [z,h6] at C;cases C
     refine ⟨t,h7,jb (),_,t++[.ref q],rfl,j4,?_,λc o e n=>by rw [j7 n];exact I _ _ (X c o e n),by rw [ay,l6];rfl⟩
     rw [qv cU rv j y e2]
     refine vH.ext (cZ (Z.ext (Ext.of_same I)) ⟨q,rfl,nq,?_⟩) Ext.put
     rw [b2,pK]
    ·rintro σ b ⟨x,t,rfl,h6,Z,X,l6⟩
     rw [bi,aX] at Z
     exact k acc b t _ (ab.free (R.free u)) h6 Z.rowsI bt λc o e=>X _ _ (R _ _ (ab _ _ e)) (j1 (R _ _ (ab _ _ e)) u)
noncomputable def jh (rs:List Rch) (j:List Int):List Int:=(j.map λr=>zK rs r.toNat).flatten
theorem wF (rs:List Rch):∀j:List Int,((jh rs j).length:Int)=jx rs j
 | []=>rfl
 | r::j=>by
  rw [xa,<- wF rs j]
  unfold jh
  rw [aO,cE,ay]
  push_cast
  rfl
theorem UP {n:Nat}(h:n<=100000):n<sizeLine:=bZ h ⋯
theorem uH (rs:List Rch) (z:List Int) (j:Nat) (r:Int) (h:z[j]? = some r):jh rs (z.take (j+1))=jh rs (z.take j)++zK rs r.toNat:=by
 unfold jh
 rw [ba,h,aq,List.flatten_append]
 congr 1
 show [zK rs r.toNat].flatten=_
 simp
theorem uu {rs:List Rch}(z:∀r∈rs,r.2.length<=100):∀j:List Int,(jh rs j).length<=100*j.length
 | []=>by unfold jh;simp
 | r::j=>by
  have a:=uu z j
  have h1:(zK rs r.toNat).length<=100:=by
   unfold zK
   rw [aj]
   cases e:rs[r.toNat]? with
   | none=>simp
   | some q=>exact z q (aB e)
  unfold jh at a ⊢
  rw [aO,cE,ay,bc]
  right
inductive spGround (K:ag) (vs:List V) (H:Hp) (Q:VK) (z_3:XK):Prop
 | mk (p a:Addr) (xs:List V) (rs:List Rch) (way:List Int) (_:vs=[.ref p,.ref a]) (_:H p=some (.lst xs)) (_:jV H xs rs) (_: ↥105) (_:H a=some (.lst (way.map V.int))) (_:(∀r∈way,0<=r/\r<rs.length)) (_:way.length<=100) (_:∀l H',H l=none->H' l=some (.lst ((jh rs way).map V.int))->jf H H'->Q (.ref l) H')
theorem xI:FnScope ["_law_reaches_here","_law_road","_law_found","_law_reach","_law_height"] ["_law_reaches_here","_law_road"] (j8 yk):=by walk_at "s"
theorem ZF (F:Fun K "_law_ground" "_law_ground" yk f fd):FnOk P w K mg base CX0 1 f fd ["_law_reaches_here","_law_road"] (spGround K):=by
 refine F.ok xI (λY H Q E h=>?_) (λap A outer s H Y Q E O h=>?_)
 ·obtain ⟨p,a,xs,rs,b,rfl,_⟩:=h
  rfl
 ·obtain ⟨p,a,xs,rs,b,rfl,R,I,C,X,S,ac,k⟩:=h
  have ab:=I.length
  refine ⟨_,(j6 (jz 2 xI.nd (jS j2))
   (j6 (qK bj rfl (jN K (pv 1)) (jc (i:=3) xI.nd rfl (aU rfl)) (j9 (qK bj rfl (yb K (ji (jG K) (ji (je K) (pv 0) (pv 3) (λ_ _=>rfl)) j5 (λ_ _=>rfl))) (jc (i:=4) xI.nd rfl (aU rfl)) (j9 (jU (zM K bC bG bH qk (pv 2) (j0 (pv 4) j2)))))))
   (j9 (jj (pv 2))))),?_⟩
  left
  refine ⟨aT _,λl H1 n u s1=>?_⟩
  have J:=s1 _ _ X
  left
  refine ⟨⟨_,SqL.of J⟩,Qh (K:=K) (a:=a) (xs:=b.map V.int) (λj σ H2=>∃x y:Option V,σ=[some (.ref p),some (.ref a),some (.ref l),x,y]/\H2 l=some (.lst ((jh rs (b.take j)).map V.int))/\Ext l H1 H2) ⟨_,_,rfl,u,Ext.refl⟩ ?_ ?_ ?_⟩
  ·rintro j σ H2 hj ⟨x,y,rfl,h2,m⟩
   exact SqL.of (m _ _ J (j1 X n))
  ·rintro j v σ H2 t ⟨x,y,rfl,h2,m⟩
   obtain ⟨r,rfl⟩:=yB t
   have L:b[j]? = some r:=by
    rw [aw] at t
    cases e:b[j]? with
    | none=>rw [e] at t;cases t
    | some y=>rw [e] at t;cases t;rfl
   have hj:j<b.length:=(List.getElem?_eq_some_iff.mp L).1
   have O:=S r (aB L)
   have hi:r.toNat<rs.length:=()
   obtain ⟨v,N,q,g,rfl,Z,T⟩:=(I.keep ((jo.same s1).trans (jo.lst m u))).at (ae hi)
   have al:=C _ (bL hi)
   have an:=uu C (b.take j)
   have ai:(b.take j).length<=100:=by rw [aE];right
   left
   refine ⟨_,_,_,_,rfl,rfl,SqL.of (m _ _ (s1 _ _ R) (j1 R n)),qO O.1 N,?_⟩
   refine ⟨_,_,_,_,rfl,rfl,SqT.of Z,rfl,?_⟩
   refine ⟨g,rfl,⟨_,SqT.of T⟩,Js (K:=K) (a:=g) (xs:=(rs[r.toNat]'hi).2.map V.int) (λi σ G=>∃y:Option V,σ=[some (.ref p),some (.ref a),some (.ref l),some (.int r),y]/\G l=some (.lst ((jh rs (b.take j)++(rs[r.toNat]'hi).2.take i).map V.int))/\Ext l H2 G) ⟨_,rfl,?_,Ext.refl⟩ ?_ ?_ ?_⟩
   ·rw [sF,b0];exact h2
   ·rintro i σ G am ⟨y,rfl,B,D⟩
    exact SqT.of (jo.lst D h2 _ _ T)
   ·rintro i v σ G d ⟨y,rfl,B,D⟩
    obtain ⟨z,rfl⟩:=yB d
    have M:(rs[r.toNat]'hi).2[i]? = some z:=by
     rw [aw] at d
     cases e:(rs[r.toNat]'hi).2[i]? with
     | none=>rw [e] at d;cases d
     | some y=>rw [e] at d;cases d;rfl
    left
    refine ⟨.inl ⟨rfl,_,SqL.of B⟩,?_⟩
    left
    refine ⟨l,_,_,rfl,rfl,B,?_,?_⟩
    ·rw [aa,ay,aE]
     exact UP ()
    ·refine ⟨_,rfl,?_,D.trans Ext.put⟩
     rw [j4,ba,M,<- fc,aq,aq,aq]
     rfl
   ·rintro σ G ⟨y,rfl,B,D⟩
    refine ⟨_,_,rfl,?_,m.trans D⟩
    rw [B,aa,aX,uH rs b j r L,Jj (ae hi)]
  ·rintro σ H2 ⟨x,y,rfl,h2,m⟩
   rw [aa,aX] at h2
   left
   exact k l H2 n h2 λc o U=>m _ _ (s1 _ _ U) (j1 U n)
inductive spWayOf (Pt C:Addr) (vs:List V) (H:Hp) (Q:VK) (E:XK):Prop
 | mk (p:Addr) (xs:List V) (rs:List Rch) (l:Int) (_:vs=[.ref p,.int l]) (_:H p=some (.lst xs)) (_:jV H xs rs) (_:xn rs) (_:rs.length<=60) (_:qx H Pt) (_:(∀t H' ws (i:Nat),l=i->i<ws.length->jW rs ws->H' t=some (.tup ((ws.getD i []).map V.int))->Ext Pt H H'->qx H' Pt->Q (.ref t) H')) (_:∀H',(l<0\/ ↥94<=l)->Ext Pt H H'->qx H' Pt->E (.ref C) none H')
theorem gp:FnScope ["reaches","lane","ways"] ["reaches","lane"] (j8 wU):=by walk_at "s"
theorem Zf (U:Nb2 mg) (z:mg "NoLane" = some (.ref C)) (j:ez K C [.type "ValueError",.type "Exception",.type "BaseException",.type "object"] "ValueError.__new__" = true) (G:Cal P w K mg base 5 "lanes" ["reaches"] (spLanes K Pt)) (F:Fun K "way_of" "way_of" wU f fd):FnOk P w K mg base (CX1 P w) 6 f fd ["reaches","lane"] (spWayOf Pt C):=by
 refine Fun.okX F gp (λv H Q E h=>?_) (λN A outer s H v Q E x h=>?_)
 ·obtain ⟨p,xs,rs,l,rfl,_⟩:=h
  rfl
 ·obtain ⟨p,xs,rs,l,rfl,y,n,L,t,I,k,g⟩:=h
  refine ⟨_,(j6 (jz 2 gp.nd (jg G (x.mono ⋯) rfl ↥33))
   (j6 (qc (qL (zo qJ vP j5 (pv 1) (jd (ja K) rfl U.b_len aH ↥91))) ↥116 jA)
   (j9 (jj (ji (je K) (pv 2) (pv 1) (λ_ _=>rfl)))))),?_⟩
  left
  refine ⟨p,xs,rs,rfl,y,n,L,t,I,λo H1 b ws R c m r d e=>?_⟩
  have B:b.length=ws.length:=m.length
  have M:(ws.length:Int)=↥94:=by rw [r.length]
  left
  refine qH (λJ=>?_) (λJ=>?_)
  ·left
   refine ⟨_,_,rfl,.inl (SqL.of c),?_⟩
   left
   refine zS (λh1=>?_) (λh1=>?_)
   ·left
    exact ⟨by show 1<=sizeLine;decide,g H1 (.inr ()) d e⟩
   ·have hi:l.toNat<b.length:=()
    obtain ⟨O,i,a,q,D⟩:=Paired.get m (ae hi)
    have u:l=(l.toNat:Int):=()
    left
    refine ⟨_,_,_,_,rfl,rfl,SqL.of c,(by rw [u];exact zD (ae hi)),?_⟩
    rw [q]
    refine k a H1 ws l.toNat u () r ?_ d e
    rw [D,aj,i]
    rfl
  ·left
   refine kB ?_
   left
   exact ⟨by show 1<=sizeLine;decide,g H1 (.inl ()) d e⟩
inductive spHeights (Pt C:Addr) (vs:List V) (H:Hp) (Q:VK) (E:XK):Prop
 | mk (p:Addr) (xs:List V) (rs:List Rch) (l:Int) (_:vs=[.ref p,.int l]) (_:H p=some (.lst xs)) (_:jV H xs rs) (_:xn rs) (_:rs.length<=60) (_: ↥105) (_:qx H Pt) (_:(∀t H' ws (i:Nat),l=i->i<ws.length->jW rs ws->H t=none->H' t=some (.lst ((jh rs (ws.getD i [])).map V.int))->Ext Pt H H'->qx H' Pt->Q (.ref t) H')) (_:∀H',(l<0\/ ↥94<=l)->Ext Pt H H'->qx H' Pt->E (.ref C) none H')
theorem Qy:FnScope ["reaches","lane"] ["reaches","lane"] (j8 yW):=by walk_at "s"
theorem Uk {ws:List (List Int)}(L:xn rs) (h:jW rs ws) {a:Nat}(j:a<ws.length):(∀r∈ws.getD a [],0<=r/\r<rs.length)/\(ws.getD a []).length<=rs.length:=by
 rw [aj,ae j]
 obtain ⟨x,b,e⟩:=h.mem (bL j)
 show (∀r∈ws[a],_)/\ws[a].length<=_
 rw [e]
 exact ⟨xM L x (xw b),by have:=ud L x (xw b);have:=xw b;right⟩
theorem xj {l:List Int}{j:Nat}(h:(l.map V.int)[j]? = some v):∃x,v = .int x/\l[j]? = some x:=by
 rw [aw] at h
 cases e:l[j]? with
 | none=>rw [e] at h;cases h
 | some y=>rw [e] at h;cases h;exact ⟨y,rfl,rfl⟩
theorem JM (T:qx H Pt) (e:Ext Pt H H') (j:qx H' Pt) (n:H' a=none):H a=none:=by
 cases q:H a with
 | none=>rfl
 | some o =>
  by_cases z:a=Pt
  ·obtain ⟨ps,h⟩:=j.ne
   rw [z,h] at n
   cases n
  ·have:=e _ _ q z
   rw [n] at this
   cases this
theorem QP (nb:Nb2 mg) (G:CalX P w K mg base 6 "way_of" ["reaches","lane"] (spWayOf Pt C)) (F:Fun K "heights" "heights" yW f fd):FnOk P w K mg base (CX1 P w) 7 f fd ["reaches","lane"] (spHeights Pt C):=by
 refine Fun.okX F Qy ↥58 (λa5 A outer s H vs Q E hr h=>?_)
 ·obtain ⟨p,xs,rs,l,rfl,_⟩:=h
  rfl
 ·obtain ⟨p,xs,rs,l,rfl,hp,Y,L,a0,O,X,k,kx⟩:=h
  refine ⟨_,(j9 (jj (Y6 (osc:=(j8 yW)) (ON:=["reaches","lane"]) (N:=["reach","height","reaches"]) (own:=2) (caps:=[0]) ⟨rfl,∅,∅,∅,rfl,∅⟩ rfl rfl rfl (yb K (y8 G (hr.mono ⋯) qX rfl (j0 (pv 0) ↥42))) (λ_ _ _ _ _=>(jc (i:=0) (show aS (["reach","height","reaches"]:List Str) by decide +kernel) rfl (aU rfl))) ↥14 (λ_ _ _ _ _=>(yb K (ji (jG K) (ji (je K) (pv 2) (pv 0) (λ_ _=>rfl)) j5 (λ_ _=>rfl)))) (λ_ _ _ _ _=>(jc (i:=1) (show aS (["reach","height","reaches"]:List Str) by decide +kernel) rfl (aU rfl))) ↥14 (λ_ _ _ _ _=>(pv 1))))),?_⟩
  obtain ⟨ps,ai⟩:=X.ne
  left
  refine ⟨p,xs,rs,l,rfl,hp,Y,L,a0,X,λt H1 ws i ei hi hR D B S=>?_,λH1 am B S=>kx H1 am B S⟩
  have ac:=B _ _ hp (jm hp ai ↥4)
  have al:jV H1 xs rs:=Y.keep (jo.tbl B ai)
  obtain ⟨an,a2⟩:=Uk L hR hi
  have kk:=λt H'=>k t H' ws i ei hi hR
  generalize ws.getD i []=d at *
  left
  refine ⟨⟨_,SqT.of D⟩,λacc b=>?_⟩
  refine Zw (K:=K) (a:=t) (xs:=d.map V.int) (acc:=acc) (λj σ H2=>∃x y:Option V,σ=[x,y,some (.ref p)]/\H2 acc=some (.lst ((jh rs (d.take j)).map V.int))/\Ext acc H1 H2) ?_ ?_ ?_ ?_
  ·exact ⟨none,none,rfl,j4,Ext.put⟩
  ·rintro j σ H2 hj ⟨x,y,rfl,M,e⟩
   exact SqT.of (e _ _ D (j1 D b))
  ·rintro j v σ H2 hv ⟨x,y,rfl,M,e⟩
   obtain ⟨r,rfl,Z⟩:=xj hv
   have a4:=an r (aB Z)
   have m:r.toNat<rs.length:=()
   obtain ⟨v,as,q,g,rfl,ab,u⟩:=al.at (ae m)
   have aL:=e _ _ ac (j1 ac b)
   have hq:=e _ _ ab (j1 ab b)
   have gl:=uu O (d.take j)
   have jl:(d.take j).length<=60:=by rw [aE];right
   have I:=uH rs d j r Z
   have a1:zK rs r.toNat=(rs[r.toNat]'m).2:=by
    unfold zK
    rw [aj,ae m]
    rfl
   have U:=O _ (bL m)
   rw [a1] at I
   generalize (rs[r.toNat]'m).2=hs at u I U
   left
   refine ⟨_,_,_,_,rfl,rfl,SqL.of aL,(by rw [show r=((r.toNat:Nat):Int) by right];exact zD as),?_⟩
   refine ⟨_,_,_,_,rfl,rfl,SqT.of hq,rfl,?_⟩
   refine ⟨g,rfl,⟨_,SqT.of (e _ _ u (j1 u b))⟩,?_⟩
   refine UU (K:=K) (a:=g) (acc:=acc) (xs:=hs.map V.int) (λn σ T=>∃y:Option V,σ=[some (.int r),y,some (.ref p)]/\T acc=some (.lst ((jh rs (d.take j)++hs.take n).map V.int))/\Ext acc H1 T) ?_ ?_ ?_ ?_
   ·exact ⟨y,rfl,by rw [sF,b0];exact M,e⟩
   ·rintro n σ T hn ⟨y,rfl,J,R⟩
    exact SqT.of (R _ _ u (j1 u b))
   ·rintro n v σ T ap ⟨y,rfl,J,R⟩
    obtain ⟨h,rfl,hh⟩:=xj ap
    have a3:=(List.getElem?_eq_some_iff.mp hh).1
    left
    refine ⟨_,J,by rw [aa,ay,aE];exact aQ (show _<10000 by right) ⋯,some (.int h),rfl,?_,R.trans Ext.put⟩
    rw [j4,ba,hh,dE,<- fc,aq (l₁:=jh rs (d.take j)++hs.take n)]
    rfl
   ·rintro σ T ⟨y,rfl,J,R⟩
    rw [aa,aX,<- I] at J
    exact ⟨_,_,rfl,J,R⟩
  ·rintro σ H2 ⟨x,y,rfl,M,e⟩
   rw [aa,aX] at M
   exact kk acc H2 (JM X B S b) M (λc o hc n=>e _ _ (B _ _ hc n) (λz=>by rw [z,JM X B S b] at hc;cases hc)) (S.extN b e)
noncomputable def uQ (z Y G j U:Addr):List (Str×V):=jp "leaps" (.ref U) (jp "years" (.ref j) (jp "slopes" (.ref G) (jp "cycle" (.ref Y) (jp "valley" (.ref z) []))))
theorem vp (G j U z Y:Addr):(uQ G j U z Y).lookup ("cycle" : Str)=some (.ref j):=by
 unfold uQ
 rw [jt,if_neg ∅,jt,if_neg ∅,jt,if_neg ∅,jt,if_pos rfl]
theorem zv (G Y j z U:Addr):(uQ G Y j z U).lookup ("slopes" : Str)=some (.ref j):=by
 unfold uQ
 rw [jt,if_neg ∅,jt,if_neg ∅,jt,if_pos rfl]
theorem ya (z Y G j U:Addr):(uQ z Y G j U).lookup ("years" : Str)=some (.ref j):=by
 unfold uQ
 rw [jt,if_neg ∅,jt,if_pos rfl]
theorem vD (G Y U z j:Addr):(uQ G Y U z j).lookup ("leaps" : Str)=some (.ref j):=by
 unfold uQ
 rw [jt,if_pos rfl]
theorem Vk (z cy G j U:Addr) {m:Str}(h1:¬m = "leaps") (h2:¬m = "years") (h3:¬m = "slopes") (h4:¬m = "cycle") (Y:¬m = "valley"):(uQ z cy G j U).lookup m=none:=by
 unfold uQ
 rw [jt,if_neg h1,jt,if_neg h2,jt,if_neg h3,jt,if_neg h4,jt,if_neg Y]
 rfl
theorem qo {m:Str}(h:(¬m="leaps")/\(¬m="years")/\(¬m="slopes")/\(¬m="cycle")/\¬m="valley"):(uQ z Y G j U).lookup m=none:=Vk _ _ _ _ _ h.1 h.2.1 h.2.2.1 h.2.2.2.1 h.2.2.2.2
structure IceC (K:ag) (C:Addr):Prop where
 cl:Cls K C
 nV:zg K C "valley"
 nC:zg K C "cycle"
 nS:zg K C "slopes"
 nY:zg K C "years"
 nL:zg K C "leaps"
structure IceG where
 dx:Addr
 va:Addr
 cy:Addr
 sl:Addr
 ye:Addr
 le:Addr
 xs:List V
 ys:List V
 zs:List V
 lds:List ↥47
 kvs:List (Key×V)
 rs:List Rch
 rows:List T3
 slopes:List (List Int)
structure IceAt (C:Addr) (H:Hp) (p:Addr) (g:IceG):Prop where
 ob:H p=some (.ins C g.dx (uQ g.va g.cy g.sl g.ye g.le))
 va:H g.va=some (.lst g.xs)
 rs:jV H g.xs g.rs
 cy:H g.cy=some (.lst g.ys)
 rows:qM H g.ys g.rows
 sl:H g.sl=some (.lst g.zs)
 slopes:yz H g.zs g.slopes
 ye:H g.ye=some (.dK g.kvs)
 le:H g.le=some (.lst (g.lds.map λx=>V.ref x.1))
 lds:∀x∈g.lds,H x.1=some (.dK x.2)
theorem IceAt.same {p:Addr}(I:IceAt C H p g) (s:jf H H'):IceAt C H' p g :=
 ⟨s _ _ I.ob,s _ _ I.va,I.rs.keep (jo.same s),s _ _ I.cy,I.rows.imp λ_ _ q=>s _ _ q,s _ _ I.sl,Paired.mapP I.slopes λ_ _ ⟨a,e,q⟩=>⟨a,e,s _ _ q⟩,s _ _ I.ye,s _ _ I.le,λx b=>s _ _ (I.lds x b)⟩
theorem Je (I:IceAt C H p g) {l:Int}(j:0<=l) (h1:l< ↥15):∃a,atI g.zs l=some (.ref a)/\H a=some (.lst ((g.slopes.getD l.toNat []).map V.int)):=by
 have d:g.zs.length=g.slopes.length:=aZ I.slopes
 have hi:l.toNat<g.zs.length:=()
 obtain ⟨w,b,a,e,c⟩:=Paired.get I.slopes (ae hi)
 refine ⟨a,?_,?_⟩
 ·rw [show l=((l.toNat:Nat):Int) by right]
  refine zD ?_
  rw [ae hi,e]
 ·rw [c,aj,b]
  rfl
theorem UA {l:List Int}{n:Nat}(h:n<l.length):(l.map V.int)[n]? = some (V.int (l.getD n 0)):=by
 rw [aw,aj,ae h]
 rfl
theorem ZU:FnScope ["self"] ["self"] (j8 wt):=by walk_at "s"
inductive spRowsI (C:Addr) (vs:List V) (H:Hp) (Q:VK) (z_3:XK):Prop
 | mk (p:Addr) (g:IceG) (_:vs=[.ref p]) (_:IceAt C H p g) (_:∀l H',H l=none->H' l=some (.lst g.ys)->jf H H'->Q (.ref l) H')
theorem Jk:FnScope ["self"] ["self"] (j8 yG):=by walk_at "s"
theorem Jb (j:Nb2 mg) (T:IceC K C) (F:Fun K "rows" "Ice.rows" yG f fd):FnOk P w K mg base CX0 1 f fd ["self"] (spRowsI C):=by
 refine F.ok Jk (λb H Q E h=>?_) (λd A outer s H b Q E e h=>?_)
 ·obtain ⟨p,g,rfl,_⟩:=h
  rfl
 ·obtain ⟨p,g,rfl,I,k⟩:=h
  refine ⟨_,(j9 (jj (qd (qw K) rfl j.b_list bY (j0 (qB K (pv 0)) j2)))),?_⟩
  left
  refine ⟨p,C,g.dx,_,_,rfl,I.ob,T.cl,T.nC,vp _ _ _ _ _,?_⟩
  left
  exact ⟨_,_,rfl,.inl (SqL.of I.cy),λl H1 c a s1=>k l H1 c a s1⟩
inductive spCheckLane (C CN:Addr) (vs:List V) (H:Hp) (Q:VK) (E:XK):Prop
 | mk (p:Addr) (g:IceG) (l:Int) (_:vs=[.ref p,.int l]) (_:IceAt C H p g) (_:(0<=l->l< ↥15->Q .non H)) (_: ↥52)
theorem vo:FnScope ["self","lane"] ["self","lane"] (j8 xz):=by walk_at "s"
theorem vz (U:Nb2 mg) (T:IceC K C) (z:mg "NoLane" = some (.ref G)) (j:ez K G [.type "ValueError",.type "Exception",.type "BaseException",.type "object"] "ValueError.__new__" = true) (F:Fun K "check_lane" "Ice.check_lane" xz f fd):FnOk P w K mg base (CX1 P w) 1 f fd ["self","lane"] (spCheckLane C G):=by
 refine Fun.okX F vo (λc H Q E h=>?_) (λe A outer s H c Q E i h=>?_)
 ·obtain ⟨p,g,l,rfl,_⟩:=h
  rfl
 ·obtain ⟨p,g,l,rfl,I,k,a⟩:=h
  have d:g.zs.length=g.slopes.length:=aZ I.slopes
  refine ⟨_,(j9 (qc (qL (zo qJ vP j5 (pv 1) (jd (ja K) rfl U.b_len aH (j0 (qB K (pv 0)) j2)))) ↥116 jA)),?_⟩
  left
  refine qH (λb=>?_) (λb=>?_)
  ·left
   refine ⟨p,C,g.dx,_,_,rfl,I.ob,T.cl,T.nS,zv _ _ _ _ _,?_⟩
   left
   refine ⟨_,_,rfl,.inl (SqL.of I.sl),?_⟩
   rw [d]
   left
   refine zS (λh1=>?_) (λh1=>?_)
   ·left
    exact ⟨by show 1<=sizeLine;decide,a (.inr ())⟩
   ·left
    exact k b h1
  ·left
   refine kB ?_
   left
   exact ⟨by show 1<=sizeLine;decide,a (.inl ())⟩
inductive spCheckPlace (C CN CP:Addr) (vs:List V) (H:Hp) (Q:VK) (E:XK):Prop
 | mk (p:Addr) (g:IceG) (l n:Int) (_:vs=[.ref p,.int l,.int n]) (_:IceAt C H p g) (_:(0<=l->l< ↥15->0<=n->n< ↥57->Q .non H)) (_: ↥52) (_:(0<=l->l< ↥15->(n<0\/ ↥57<=n)->E (.ref CP) none H))
theorem vc:FnScope ["self","lane","place"] ["self","lane","place"] (j8 xg):=by walk_at "s"
theorem v0 (nb:Nb2 mg) (T:IceC K C) (G:mg "NoPlace" = some (.ref Y)) (z:ez K Y [.type "ValueError",.type "Exception",.type "BaseException",.type "object"] "ValueError.__new__" = true) (U:Cls K C) (j:CalMX P w K mg base 1 C "check_lane" ["self","lane"] (spCheckLane C CN)) (F:Fun K "check_place" "Ice.check_place" xg f fd):FnOk P w K mg base (CX1 P w) 2 f fd ["self","lane","place"] (spCheckPlace C CN Y):=by
 refine Fun.okX F vc (λm H Q E h=>?_) (λu A outer s H m Q E q h=>?_)
 ·obtain ⟨p,g,l,n,rfl,_⟩:=h
  rfl
 ·obtain ⟨p,g,l,n,rfl,I,k,o,d⟩:=h
  refine ⟨_,(j6 (jU (zU (pv 0) U j (q.mono ⋯) qX ↥42))
   (j9 (qc (qL (zo qJ vP j5 (pv 2) (jd (ja K) rfl nb.b_len aH (j0 ↥65 j2)))) (j9 (xR bV z G rfl zw rfl (j0 jF j2))) jA))),?_⟩
  left
  refine ⟨p,g.dx,_,rfl,I.ob,qo ∅,?_⟩
  left
  refine ⟨p,g,l,rfl,I,λc b=>?_,λr=>o r⟩
  obtain ⟨a,t,e⟩:=Je I c b
  left
  refine qH (λi=>?_) (λi=>?_)
  ·left
   refine ⟨p,C,g.dx,_,_,rfl,I.ob,T.cl,T.nS,zv _ _ _ _ _,?_⟩
   left
   refine ⟨_,_,_,_,rfl,rfl,SqL.of I.sl,t,?_⟩
   left
   refine ⟨_,_,rfl,.inl (SqL.of e),?_⟩
   rw [aa]
   left
   refine zS (λh1=>?_) (λh1=>?_)
   ·left
    exact ⟨by show 1<=sizeLine;decide,d c b (.inr ())⟩
   ·left
    exact k c b i h1
  ·left
   refine kB ?_
   left
   exact ⟨by show 1<=sizeLine;decide,d c b (.inl ())⟩
inductive spLengthI (C CN:Addr) (vs:List V) (H:Hp) (Q:VK) (E:XK):Prop
 | mk (p:Addr) (g:IceG) (l:Int) (_:vs=[.ref p,.int l]) (_:IceAt C H p g) (_:(0<=l->l< ↥15->Q (.int ↥57) H)) (_: ↥52)
theorem wL:FnScope ["self","lane"] ["self","lane"] (j8 zP):=by walk_at "s"
theorem wR (G:Nb2 mg) (T:IceC K C) (z:Cls K C) (j:CalMX P w K mg base 1 C "check_lane" ["self","lane"] (spCheckLane C U)) (F:Fun K "length" "Ice.length" zP f fd):FnOk P w K mg base (CX1 P w) 2 f fd ["self","lane"] (spLengthI C U):=by
 refine Fun.okX F wL (λe H Q E h=>?_) (λq A outer s H e Q E m h=>?_)
 ·obtain ⟨p,g,l,rfl,_⟩:=h
  rfl
 ·obtain ⟨p,g,l,rfl,I,k,i⟩:=h
  refine ⟨_,(j6 (jU (zU (pv 0) z j (m.mono ⋯) qX ↥42))
   (j9 (jj (jd (ja K) rfl G.b_len aH (j0 ↥65 j2))))),?_⟩
  left
  refine ⟨p,g.dx,_,rfl,I.ob,qo ∅,?_⟩
  left
  refine ⟨p,g,l,rfl,I,λc b=>?_,λn=>i n⟩
  obtain ⟨a,o,d⟩:=Je I c b
  left
  refine ⟨p,C,g.dx,_,_,rfl,I.ob,T.cl,T.nS,zv _ _ _ _ _,?_⟩
  left
  refine ⟨_,_,_,_,rfl,rfl,SqL.of I.sl,o,?_⟩
  left
  refine ⟨_,_,rfl,.inl (SqL.of d),?_⟩
  rw [aa]
  exact k c b
inductive spHeightI (C CN CP:Addr) (vs:List V) (H:Hp) (Q:VK) (E:XK):Prop
 | mk (p:Addr) (g:IceG) (l n:Int) (_:vs=[.ref p,.int l,.int n]) (_:IceAt C H p g) (_:(0<=l->l< ↥15->0<=n->n< ↥57->Q (.int ((g.slopes.getD l.toNat []).getD n.toNat 0)) H)) (_: ↥52) (_:(0<=l->l< ↥15->(n<0\/ ↥57<=n)->E (.ref CP) none H))
theorem we:FnScope ["self","lane","place"] ["self","lane","place"] (j8 zQ):=by walk_at "s"
theorem kj (Y:Nb2 mg) (T:IceC K C) (z:Cls K C) (j:CalMX P w K mg base 2 C "check_place" ["self","lane","place"] (spCheckPlace C U G)) (F:Fun K "height" "Ice.height" zQ f fd):FnOk P w K mg base (CX1 P w) 3 f fd ["self","lane","place"] (spHeightI C U G):=by
 refine Fun.okX F we (λi H Q E h=>?_) (λv A outer s H i Q E t h=>?_)
 ·obtain ⟨p,g,l,n,rfl,_⟩:=h
  rfl
 ·obtain ⟨p,g,l,n,rfl,I,k,r,q⟩:=h
  refine ⟨_,(j6 (jU (zU (pv 0) z j (t.mono ⋯) qX (j0 (pv 1) ↥91)))
   (j9 (jj (ji (je K) ↥65 (pv 2) (λ_ _=>rfl))))),?_⟩
  left
  refine ⟨p,g.dx,_,rfl,I.ob,qo ∅,?_⟩
  left
  refine ⟨p,g,l,n,rfl,I,λc b o m=>?_,λd=>r d,λc b d=>q c b d⟩
  obtain ⟨a,u,e⟩:=Je I c b
  left
  refine ⟨p,C,g.dx,_,_,rfl,I.ob,T.cl,T.nS,zv _ _ _ _ _,?_⟩
  left
  refine ⟨_,_,_,_,rfl,rfl,SqL.of I.sl,u,?_⟩
  left
  refine ⟨_,_,_,_,rfl,rfl,SqL.of e,(by rw [show n=((n.toNat:Nat):Int) by right];exact zD (UA ())),?_⟩
  exact k c b o m
inductive spCheckRound (CR:Addr) (vs:List V) (H:Hp) (Q:VK) (E:XK):Prop
 | mk (p:Addr) (xs:List V) (ts:List T3) (_:vs=[.ref p]) (_:H p=some (.lst xs)) (_:qM H xs ts) (_:ts.length<=1000) (_:(∀H',gr ts=true->jf H H'->Q .non H')) (_:∀H',gr ts=false->jf H H'->E (.ref CR) none H')
theorem wj:FnScope ["rows"] ["rows"] (j8 zO):=by walk_at "s"
theorem wO {CR:Addr}(U:Nb2 mg) (z:mg "BadRound" = some (.ref CR)) (j:ez K CR [.type "ValueError",.type "Exception",.type "BaseException",.type "object"] "ValueError.__new__" = true) (G:Cal P w K mg base 2 "is_round" ["rows"] (spRound K)) (F:Fun K "check_round" "check_round" zO f fd):FnOk P w K mg base (CX1 P w) 3 f fd ["rows"] (spCheckRound CR):=by
 refine Fun.okX F wj (λc H Q E h=>?_) (λl A outer s H c Q E g h=>?_)
 ·obtain ⟨p,xs,ts,rfl,_⟩:=h
  rfl
 ·obtain ⟨p,xs,ts,rfl,i,b,a,k,d⟩:=h
  refine ⟨_,(j9 (qc (qL (zp (jg G (g.mono ⋯) rfl ↥33))) ↥116 jA)),?_⟩
  left
  refine ⟨p,xs,ts,rfl,i,b,a,λH1 s1=>?_⟩
  cases e:gr ts with
  | true =>
   left
   exact k H1 e s1
  | false =>
   left
   exact ⟨by show 1<=sizeLine;decide,d H1 e s1⟩
noncomputable def Kp (p Pt:Addr) (H H':Hp):Prop:=∀c o,H c=some o->c≠p->c≠Pt->H' c=some o
theorem Kp.trans {p:Addr}(a:Kp p Pt H H1) (b:Kp p Pt H1 H2):Kp p Pt H H2:=λc o h n m=>b c o (a c o h n m) n m
theorem Kp.of_same {p:Addr}(s:jf H H'):Kp p Pt H H':=λc o h _ _=>s c o h
theorem Kp.of_ext {p:Addr}(s:Ext Pt H H'):Kp p Pt H H':=λc o h _ m=>s c o h m
theorem Kp.put {p:Addr}:Kp p Pt H (upd H p o):=λc _ h n _=>by rw [j7 n];exact h
theorem Kp.at {p:Addr}(k:Kp p Pt H H') (h:H a=some o) (z:H p=some u) (j:H Pt=some (.tbl ps)) (n:o≠u) (m:o≠.tbl ps):H' a=some o:=k _ _ h (jm h z n) (jm h j m)
theorem Kp.free {p:Addr}(k:Kp p Pt H H') (h:H' a=none) (G:H' p=some u) (j:H' Pt=some U):H a=none:=by
 cases e:H a with
 | none=>rfl
 | some o =>
  have:=k a o e (λz=>by rw [z,G] at h;cases h) (λz=>by rw [z,j] at h;cases h)
  rw [h] at this
  cases this
theorem vJ {fs:List (Str×V)}(T:qx H Pt) (j:H p=some ↥113):qx (upd H p o) Pt:=by
 rcases T with h | ⟨c,h,h'⟩
 ·exact .inl (by rw [j7 (jm h j ↥4)];exact h)
 ·exact .inr ⟨c,by rw [j7 (jm h j ↥4)];exact h,by rw [j7 (jm h' j ↥4)];exact h'⟩
theorem jo.kp {p dx:Addr}{fs:List (Str×V)}(k:Kp p Pt H H') (G:H p=some ↥113) (j:H Pt=some (.tbl ps)):jo H H':=λ_ _ h=>k.at h G j ↥4 ↥4
theorem pm {α β:Type}{F:α->β->Prop}:∀{l₁:List α}{j:List β},cJ F l₁ j->∀v∈l₁,∃w,F v w
 | _,_,.nil,v,h=>by cases h
 | _,_,.cons q r,v,h=>by
  rcases List.mem_cons.mp h with rfl | z
  ·exact ⟨_,q⟩
  ·exact pm r v z
theorem pmE {H H0:Hp}{a0:Addr}(r:cJ (λv (w:List Int)=>∃a,v=V.ref a/\H a=some (.lst (w.map V.int))/\H0 a=none/\a≠a0) zs j):∀a,V.ref a∈zs->H0 a=none/\a≠a0:=λa h=>by
 obtain ⟨w,b,e,_,z⟩:=pm r _ h
 cases e
 exact z
structure IceNew (C Pt:Addr) (H H':Hp) (p:Addr) (g:IceG):Prop where
 at_:IceAt C H' p g
 keep:∀c o,H c=some o->c≠p->c≠Pt->H' c=some o
 va:H g.va=none
 cy:H g.cy=none
 sl:H g.sl=none
 ye:H g.ye=none
 le:H g.le=none
 zs:∀a,V.ref a∈g.zs->H a=none
 kvs:g.kvs=[]
 lds:∀x∈g.lds,H x.1=none/\x.2=[]
 ll:g.lds.length=g.slopes.length
 nd:(g.lds.map (·.1)).Nodup
 ny:∀x∈g.lds,x.1≠g.ye
 sl2:∃ws,jW g.rs ws/\g.slopes=ws.map (jh g.rs)
inductive spInit (C CV CR Pt:Addr) (vs:List V) (H:Hp) (Q:VK) (E:XK):Prop
 | mk (p dx r q:Addr) (xs ys:List V) (rs:List Rch) (ts:List T3) (_:vs=[.ref p,.ref r,.ref q]) (_:H p=some (.ins C dx [])) (_:H r=some (.lst xs)) (_:jV H xs rs) (_:H q=some (.lst ys)) (_:qM H ys ts) (_: ↥105) (_:rs.length<=60) (_:ts.length<=1000) (_:qx H Pt) (_:(∀H' g,zB rs=true->gr ts=true->IceNew C Pt H H' p g->g.rs=rs->g.rows=ts->g.xs=xs->g.ys=ys->qx H' Pt->Q .non H')) (_:(∀H',zB rs=false->Ext Pt H H'->qx H' Pt->E (.ref CV) none H')) (_:(∀H',zB rs=true->gr ts=false->Ext Pt H H'->qx H' Pt->E (.ref CR) none H'))
theorem uo:FnScope ["self","reaches","rows"] ["self","reaches","rows"] (j8 qG):=by walk_at "s"
theorem uy {f CR CN Pt:Addr}{fd:FuncData}(nb:Nb2 mg) (T:IceC K C) (Y:mg "BadValley" = some (.ref CV)) (U:ez K CV [.type "ValueError",.type "Exception",.type "BaseException",.type "object"] "ValueError.__new__" = true)
  (ab:Cal P w K mg base 6 "is_valley" ["reaches"] (spValley K Pt)) (G:CalX P w K mg base 3 "check_round" ["rows"] (spCheckRound CR)) (a8:Cal P w K mg base 5 "lanes" ["reaches"] (spLanes K Pt)) (al:Cal P w K mg base 7 "heights" ["reaches","lane"] (λvs H Q _=>spHeights Pt CN vs H Q E0))
  (F:Fun K "__init__" "Ice.__init__" qG f fd):FnOk P w K mg base (CX1 P w) 8 f fd ["self","reaches","rows"] (spInit C CV CR Pt):=by
 refine Fun.okX F uo ↥58 (λea A outer s H vs Q E hr h=>?_)
 ·obtain ⟨p,dx,r,q,xs,ys,rs,ts,rfl,_⟩:=h
  rfl
 ·obtain ⟨p,dx,r,q,xs,ys,rs,ts,rfl,hp,a4,ac,hq,cr,bN,a6,b9,hT,k,kv,kr⟩:=h
  obtain ⟨ps,g⟩:=hT.ne
  refine ⟨_,(j6 (qc (qL (zp (jg ab (hr.mono ⋯) rfl ↥42))) (j9 (xR bV U Y rfl zw rfl (j0 jF j2))) jA)
   (j6 (jU (y8 G (hr.mono ⋯) qX rfl ↥91))
   (j6 (vL K (pv 0) (qd (qw K) rfl nb.b_list bY ↥42))
   (j6 (vL K (pv 0) (qd (qw K) rfl nb.b_list bY ↥91))
   (j6 (vL K (pv 0) (jE (osc:=(j8 qG)) (ON:=["self","reaches","rows"]) (N:=["lane","reaches"]) (own:=1) (caps:=[1]) ⟨rfl,∅,∅,∅,rfl,∅⟩ rfl rfl rfl (jY rfl nb.b_range (j0 (jd (ja K) rfl nb.b_len aH (j0 (jg a8 (hr.mono ⋯) rfl ↥42) j2)) j2)) (λ_ _ _ _ _=>(jc (i:=0) (show aS (["lane","reaches"]:List Str) by decide +kernel) rfl (aU rfl))) ↥14 (λ_ _ _ _ _=>(jg al (hr.mono ⋯) rfl (j0 (pv 1) ↥33)))))
   (j6 (vL K (pv 0) y3)
   (j9 (vL K (pv 0) (jE (osc:=(j8 qG)) (ON:=["self","reaches","rows"]) (N:=["slope"]) (own:=1) (caps:=[]) ⟨rfl,∅,∅,∅,rfl,∅⟩ rfl rfl rfl (jN K (qB K (pv 0))) (λ_ _ _ _ _=>(jc (i:=0) (show aS (["slope"]:List Str) by decide +kernel) rfl (aU rfl))) ↥14 (λ_ _ _ _ _=>y3)))))))))),?_⟩
  left
  refine ⟨r,xs,rs,rfl,a4,ac,bN,a6,hT,λH1 X1 T1=>?_⟩
  cases eg:zB rs with
  | false =>
   left
   exact ⟨by show 1<=sizeLine;decide,kv H1 eg X1 T1⟩
  | true =>
   have am:∀{a:Addr} {o:HO},H a=some o->(∀ps,o≠.tbl ps)->H1 a=some o:=λ{a o} h n=>X1 _ _ h (jm h g (n _))
   have c1:=am hp ↥3
   have cs:=am a4 ↥3
   have ct:=am hq ↥3
   have dc:jV H1 xs rs:=ac.keep (jo.tbl X1 g)
   have bm:qM H1 ys ts:=cr.imp λa t e=>am e ↥3
   left
   refine ⟨q,ys,ts,rfl,ct,bm,b9,λH2 b1 Z=>?_,λH2 b1 Z=>kr H2 eg b1 (X1.trans (Ext.of_same Z)) (T1.same Z)⟩
   have L:xn rs:=jZ (by unfold zB at eg;rw [bz,bz] at eg;exact eg.2.1)
   have k2:Kp p Pt H H2:=(Kp.of_ext X1).trans (Kp.of_same Z)
   have a5:=Z _ _ c1
   have T2:=T1.same Z
   left
   refine ⟨_,_,rfl,.inl (SqL.of (Z _ _ cs)),λva H3 bd ci s3=>?_⟩
   have br:=s3 _ _ a5
   have db:=T2.same s3
   have k3:=k2.trans (Kp.of_same s3)
   obtain ⟨_,bv⟩:=T2.ne
   have ds:=k2.free bd a5 bv
   left
   refine ⟨p,C,dx,_,rfl,br,T.cl,T.nV,⋯,?_⟩
   have Ta:qx (upd H3 p ↥73) Pt:=vJ db br
   have ka:=k3.trans (Kp.put (p:=p) (Pt:=Pt) (o:=HO.ins C dx (jp "valley" (V.ref va) [])))
   have pa:upd H3 p ↥73 p=some ↥73:=j4
   have a0:upd H3 p ↥73 va=some (HO.lst xs):=by rw [j7 (j1 a5 bd).symm];exact ci
   clear k2 k3 c1 cs ct dc bm am X1 T1 Z a5 T2 s3 br db ci bd bv
   generalize upd H3 p ↥73=Ha at *
   obtain ⟨_,ap⟩:=Ta.ne
   have ch:va≠Pt:=jm a0 ap ↥4
   have aL:va≠p:=jm a0 pa ↥4
   left
   refine ⟨_,_,rfl,.inl (SqL.of (ka.at hq hp g ↥4 ↥4)),λcy H4 b3 da s4=>?_⟩
   have bq:=s4 _ _ pa
   have T4:=Ta.same s4
   have d0:=ka.free b3 pa ap
   left
   refine ⟨p,C,dx,_,rfl,bq,T.cl,T.nC,bZ (jT _ _ _) ⋯,?_⟩
   have kb:=(ka.trans (Kp.of_same s4)).trans (Kp.put (p:=p) (Pt:=Pt) (o:=HO.ins C dx (jp "cycle" (V.ref cy) (jp "valley" (V.ref va) []))))
   have Tb:qx (upd H4 p ↥18) Pt:=vJ T4 bq
   have pb:upd H4 p ↥18 p=some ↥18:=j4
   have ce:upd H4 p ↥18 va=some (HO.lst xs):=by rw [j7 aL];exact s4 _ _ a0
   have a7:upd H4 p ↥18 cy=some (HO.lst ys):=by rw [j7 (j1 pa b3).symm];exact da
   clear ka Ta pa a0 s4 bq T4 b3 da ap
   generalize upd H4 p ↥18=Hb at *
   obtain ⟨_,an⟩:=Tb.ne
   have c9:cy≠Pt:=jm a7 an ↥4
   have b2:cy≠p:=jm a7 pb ↥4
   have pP:p≠Pt:=jm pb an ↥4
   left
   refine ⟨r,xs,rs,rfl,kb.at a4 hp g ↥4 ↥4,ac.keep (jo.kp kb hp g),L,a6,Tb,λo H5 bk ws ho c2 hw hR X5 T5=>?_⟩
   left
   refine ⟨_,_,rfl,.inl (SqL.of c2),?_⟩
   have dd:bk.length=ws.length:=hw.length
   have d2:ws.length<=60:=by
    rw [hR.length]
    unfold jq
    exact aI (bO _ _) (by rw [bg];exact a6)
   refine ⟨(bk.length:Int),rfl,(),(),λacc b=>?_⟩
   obtain ⟨_,l⟩:=T5.ne
   have O:Kp p Pt H H5:=kb.trans (Kp.of_ext X5)
   have B:=X5 _ _ pb pP
   have a9:=X5 _ _ ce ch
   have b4:=X5 _ _ a7 c9
   have a3:H5 r=some (.lst xs):=O.at a4 hp g ↥4 ↥4
   have bl:jV H5 xs rs:=ac.keep (jo.kp O hp g)
   have b6:Pt≠acc:=j1 l b
   refine qq (lo:=0) (n:=((bk.length:Int)).toNat) (acc:=acc) (λi σ j=>∃(x:Option V) (zs:List V),σ=[x,some (.ref r)]/\j acc=some (.lst zs)/\zs.length=i/\cJ (λv (w:List Int)=>∃a,v=V.ref a/\j a=some (.lst (w.map V.int))/\H5 a=none/\a≠acc) zs ((ws.take i).map (jh rs))/\Kp acc Pt H5 j/\qx j Pt) ?_ ?_ ?_
   ·exact ⟨none,[],rfl,j4,rfl,.nil,Kp.put,T5.extN b Ext.put⟩
   ·rintro i σ j hi ⟨x,zs,rfl,h6,hz,r6,I,T6⟩
    obtain ⟨_,as⟩:=T6.ne
    have iw:i<ws.length:=()
    left
    refine ⟨r,xs,rs,_,rfl,I _ _ a3 (j1 a3 b) (jm a3 l ↥4),bl.keep (λa o h=>I _ _ h (j1 h b) (jm h l ↥4)),L,a6,bN,T6,λt H7 d1 i' ei d3 dT ht dD X7 T7=>?_,λH' hb _ _=>?_⟩
    ·obtain rfl:=hR.unique dT
     obtain rfl:i'=i:=()
     have h7:=X7 _ _ h6 b6.symm
     have ta:t≠acc:=(j1 h6 ht).symm
     have tP:t≠Pt:=(j1 as ht).symm
     refine ⟨zs,h7,jb (),some (.int (0+(i':Int))),zs++[.ref t],rfl,j4,by rw [ay,hz];rfl,?_,?_,?_⟩
     ·rw [qv (jh rs) ws i' (ws.getD i' []) (by rw [aj,ae iw];rfl)]
      refine cZ (Paired.mapP r6 λv wy ⟨a,e,J,h0,na⟩=>⟨a,e,?_,h0,na⟩) ⟨t,rfl,by rw [j7 ta];exact dD,I.free ht h6 as,ta⟩
      rw [j7 na]
      exact X7 _ _ J (jm J as ↥4)
     ·exact (I.trans (Kp.of_ext X7)).trans Kp.put
     ·exact T7.ext h7 Ext.put
    ·have:=hR.length
     exact absurd hb ()
   ·rintro σ j ⟨x,zs,rfl,h6,hz,r6,I,T6⟩
    rw [aW,dd,aX] at r6
    have f6:=pmE r6
    have bn:=I _ _ B (j1 B b) pP
    have kc:Kp p Pt H (upd j p ↥117):=λc o h n m=>by
     rw [j7 n]
     have:=O c o h n m
     exact I _ _ this (j1 this b) m
    have b5:acc≠p:=(j1 B b).symm
    have dg:=O.free b B l
    have dk:∀a,V.ref a∈zs->H a=none:=λa z=>O.free (f6 a z).1 B l
    left
    refine ⟨p,C,dx,_,rfl,bn,T.cl,T.nS,bZ (aI (jT _ _ _) (eK (jT _ _ _))) ⋯,?_⟩
    have Tc:qx (upd j p ↥117) Pt:=vJ T6 bn
    have pc:upd j p ↥117 p=some ↥117:=j4
    have cd:upd j p ↥117 va=some (HO.lst xs):=by rw [j7 aL];exact I _ _ a9 (j1 a9 b) ch
    have c4:upd j p ↥117 cy=some (HO.lst ys):=by rw [j7 b2];exact I _ _ b4 (j1 b4 b) c9
    have cm:upd j p ↥117 acc=some (HO.lst zs):=by rw [j7 b5];exact h6
    have bi:yz (upd j p ↥117) zs (ws.map (jh rs)):=Paired.mapP r6 λv wy ⟨a,e,J,h0,na⟩=>⟨a,e,by rw [j7 (j1 B h0).symm];exact J⟩
    clear r6 f6 I T6 h6 bn O B a9 b4 a3 bl X5 T5 kb Tb pb ce a7 an b6 b ho c2 hw l
    generalize upd j p ↥117=M at *
    left
    intro ye a2
    obtain ⟨_,bt⟩:=Tc.ne
    have dn:=kc.free a2 pc bt
    have ca:ye≠p:=(j1 pc a2).symm
    have s9:jf M (upd M ye (.dK [])):=jf.new a2
    left
    refine ⟨p,C,dx,_,rfl,s9 _ _ pc,T.cl,T.nY,bZ (aI (jT _ _ _) (eK (aI (jT _ _ _) (eK (jT _ _ _))))) ⋯,?_⟩
    have D:∀c o,M c=some o->c≠p->↥11 c=some o:=λc o h n=>by rw [j7 n];exact s9 _ _ h
    have kd:Kp p Pt H ↥11:=(kc.trans (Kp.of_same s9)).trans Kp.put
    have Td:qx ↥11 Pt:=vJ (Tc.same s9) (s9 _ _ pc)
    have pd: ↥11 p=some (HO.ins C dx (jp "years" (V.ref ye) ↥0)):=j4
    have dp:=D _ _ cd aL
    have dV:=D _ _ c4 b2
    have a1:=D _ _ cm b5
    have cb: ↥11 ye=some (.dK []):=by rw [j7 ca];exact j4
    have be:yz ↥11 zs (ws.map (jh rs)):=Paired.mapP bi λv wy ⟨a,e,J⟩=>⟨a,e,D _ _ J (jm J pc ↥4)⟩
    clear D kc Tc pc cd c4 cm bi a2 bt s9
    generalize ↥11=Hd at *
    obtain ⟨_,bs⟩:=Td.ne
    left
    refine ⟨p,C,dx,_,_,rfl,pd,T.cl,T.nS,(by rw [jt,if_neg ∅,jt,if_pos rfl]),?_⟩
    left
    refine ⟨⟨_,SqL.of a1⟩,λle R=>?_⟩
    have dt:le≠p:=(j1 pd R).symm
    have dy:=kd.free R pd bs
    have zl:zs.length<=60:=()
    refine jJ (K:=K) (a:=acc) (xs:=zs) (acc:=le) (λi σ He=>∃(x:Option V) (lds:List ↥47),σ=[x]/\He le=some (.lst (lds.map λx=>V.ref x.1))/\lds.length=i/\(∀x∈lds,He x.1=some (.dK x.2)/\x.2=[]/\Hd x.1=none/\x.1≠le)/\(lds.map (·.1)).Nodup/\Ext le Hd He) ?_ ?_ ?_ ?_
    ·exact ⟨none,[],rfl,j4,rfl,(λx z=>by cases z),lq,Ext.put⟩
    ·rintro i σ He hi ⟨x,lds,rfl,he,hl,X,nn,e⟩
     exact SqL.of (e _ _ a1 (j1 a1 R))
    ·rintro i v σ He hv ⟨x,lds,rfl,he,hl,X,nn,e⟩
     have hi:=(List.getElem?_eq_some_iff.mp hv).1
     left
     intro d ai
     have dl:d≠le:=(j1 he ai).symm
     refine ⟨_,(by rw [j7 (cC dl)];exact he),by rw [aa];exact jb (),some v,lds++[(d,[])],rfl,(by rw [j4,aq];rfl),(by rw [ay,hl];rfl),λy hy=>?_,?_,λc o hc n=>?_⟩
     ·rcases List.mem_append.mp hy with z | z
      ·obtain ⟨h1,h2,h3,h4⟩:=X y z
       exact ⟨by rw [j7 h4,j7 (j1 h1 ai)];exact h1,h2,h3,h4⟩
      ·obtain rfl:y=(d,[]):=by simpa using z
       exact ⟨by rw [j7 dl];exact j4,rfl,e.free ai dl,dl⟩
     ·rw [aq]
      refine uV nn λz=>?_
      obtain ⟨y,hy,ey⟩:=List.mem_map.mp z
      have:=(X y hy).1
      rw [ey,ai] at this
      cases this
     ·rw [j7 n,j7 (j1 (e c o hc n) ai)]
      exact e c o hc n
    ·rintro σ He ⟨x,lds,rfl,he,hl,X,nn,e⟩
     have cL:=e _ _ pd (j1 pd R)
     left
     refine ⟨p,C,dx,_,rfl,cL,T.cl,T.nL,bZ (aI (jT _ _ _) (eK (aI (jT _ _ _) (eK (aI (jT _ _ _) (eK (jT _ _ _))))))) ⋯,?_⟩
     have u:∀c o,Hd c=some o->c≠p->upd He p (HO.ins C dx (jp "leaps" (V.ref le) (jp "years" (V.ref ye) ↥0))) c=some o:=λc o h n=>by rw [j7 n];exact e _ _ h (j1 h R)
     have kf:Kp p Pt H (upd He p (HO.ins C dx (jp "leaps" (V.ref le) (jp "years" (V.ref ye) ↥0)))):=λc o h n m=>u c o (kd c o h n m) n
     have dF:∀x∈lds,x.1≠p:=λx S=>(j1 pd (X x S).2.2.1).symm
     refine k _ { dx:=dx,va:=va,cy:=cy,sl:=acc,ye:=ye,le:=le,xs:=xs,ys:=ys,zs:=zs,lds:=lds,kvs:=[],rs:=rs,rows:=ts,slopes:=ws.map (jh rs) } eg b1 ⟨⟨j4,u _ _ dp aL,ac.keep (jo.kp kf hp g),u _ _ dV b2,cr.imp λa t e=>kf.at e hp g ↥4 ↥4,u _ _ a1 b5,Paired.mapP be λv wy ⟨a,e,J⟩=>⟨a,e,u _ _ J (jm J pd ↥4)⟩,u _ _ cb ca,(by rw [j7 dt];exact he),λx S=>by rw [j7 (dF x S)];exact (X x S).1⟩,kf,ds,d0,dg,dn,dy,dk,rfl,λx S=>⟨kd.free (X x S).2.2.1 pd bs,(X x S).2.1⟩,hl.trans (aZ be),nn,λx S=>(j1 cb (X x S).2.2.1).symm,ws,hR,rfl⟩ rfl rfl rfl rfl (vJ (Td.extN R e) cL)
inductive spCheckTold (CY:Addr) (vs:List V) (H:Hp) (Q:VK) (E:XK):Prop
 | mk (y:Int) (_:vs=[.int y]) (_:(0<=y->y<=99->Q .non H)/\(y<0\/99<y->E (.ref CY) none H))
theorem kJ:FnScope ["year"] ["year"] (j8 yo):=by walk_at "s"
theorem kL (j:mg "LAST_TOLD" = some (.int 99 u0)) (G:mg "BadYear" = some (.ref U)) (z:ez K U [.type "ValueError",.type "Exception",.type "BaseException",.type "object"] "ValueError.__new__" = true) (F:Fun K "check_told" "check_told" yo f fd):FnOk P w K mg base (CX1 P w) 1 f fd ["year"] (spCheckTold U):=by
 refine Fun.okX F kJ (λc H Q E h=>?_) (λd A outer s H c Q E e h=>?_)
 ·obtain ⟨y,rfl,_⟩:=h
  rfl
 ·obtain ⟨y,rfl,k,a⟩:=h
  refine ⟨_,(j9 (qc (qL (zo qJ qJ j5 (pv 0) (xu (v:=V.int 99) rfl j ⟨_,rfl⟩))) (j9 (xR bV z G rfl zw rfl (j0 jF j2))) jA)),?_⟩
  left
  refine qH (λb=>?_) (λb=>?_)
  ·left
   refine zS (λh1=>?_) (λh1=>?_)
   ·left
    exact ⟨by show 1<=sizeLine;decide,a (.inr ())⟩
   ·left
    exact k b h1
  ·left
   refine kB ?_
   left
   exact ⟨by show 1<=sizeLine;decide,a (.inl ())⟩
theorem IceAt.years {p:Addr}{g:IceG}{kvs:List (Key×V)}(I:IceAt C H p g) (j:∀x∈g.lds,x.1≠g.ye) (e:Ext g.ye H H') (h:H' g.ye=some (.dK kvs)):IceAt C H' p { g with kvs:=kvs }:=by
 have f:∀{c:Addr} {o:HO},H c=some o->o≠.dK g.kvs->H' c=some o:=λh n=>e _ _ h (jm h I.ye n)
 exact ⟨f I.ob ↥4,f I.va ↥4,I.rs.keep λ_ _ q=>f q ↥4,f I.cy ↥4,I.rows.imp λ_ _ q=>f q ↥4,f I.sl ↥4,Paired.mapP I.slopes λv w ⟨a,d,q⟩=>⟨a,d,f q ↥4⟩,h,f I.le ↥4,λx b=>e _ _ (I.lds x b) (j x b)⟩
inductive spTell (C CY CW:Addr) (vs:List V) (H:Hp) (Q:VK) (E:XK):Prop
 | mk (p t:Addr) (g:IceG) (y:Int) (r:T3) (_:vs=[.ref p,.int y,.ref t]) (_:IceAt C H p g) (_:(∀x∈g.lds,x.1≠g.ye)) (_:H t=some (yc r)) (_:g.kvs.length<=1000) (_:(∀H',0<=y->y<=99->good r=true->Ext g.ye H H'->IceAt C H' p { g with kvs:=qE g.kvs (.inl y) (.ref t) }->Q .non H')) (_:(y<0\/99<y->E (.ref CY) none H)) (_:(0<=y->y<=99->good r=false->E (.ref CW) none H))
theorem gX:FnScope ["self","year","row"] ["self","year","row"] (j8 yC):=by walk_at "s"
theorem Ja (nb:Nb2 mg) (T:IceC K C) (z:mg "BadWeather" = some (.ref Y)) (j:ez K Y [.type "ValueError",.type "Exception",.type "BaseException",.type "object"] "ValueError.__new__" = true) (U:CalX P w K mg base 1 "check_told" ["year"] (spCheckTold CY)) (G:Cal P w K mg base 1 "is_weather" ["row"] spGood) (F:Fun K "tell" "Ice.tell" yC f fd):FnOk P w K mg base (CX1 P w) 2 f fd ["self","year","row"] (spTell C CY Y):=by
 refine Fun.okX F gX (λd H Q E h=>?_) (λo A outer s H d Q E a h=>?_)
 ·obtain ⟨p,t,g,y,r,rfl,_⟩:=h
  rfl
 ·obtain ⟨p,t,g,y,r,rfl,I,l,i,m,k,e,kw⟩:=h
  refine ⟨_,(j6 (jU (y8 U (a.mono ⋯) qX rfl ↥42))
   (j6 (qc (qL (zp (jg G (a.mono ⋯) rfl ↥91))) ↥116 jA)
   (j9 (yn (jM a) (qB K (pv 0)) (pv 1) (pv 2) rfl)))),?_⟩
  left
  refine ⟨λb h1=>?_,λn=>e n⟩
  left
  refine ⟨t,r,rfl,i,?_⟩
  cases c:good r with
  | false =>
   left
   exact ⟨by show 1<=sizeLine;decide,kw b h1 c⟩
  | true =>
   left
   refine ⟨p,C,g.dx,_,_,rfl,I.ob,T.cl,T.nY,ya _ _ _ _ _,?_⟩
   left
   refine ⟨g.ye,_,rfl,wA.k (k:=.inl y) I.ye (jb m),?_⟩
   exact k _ b h1 c Ext.put (I.years l Ext.put j4)
noncomputable def yD (l:List ↥47) (n:Nat) (kvs:List (Key×V)):List ↥47:=l.set n ((l.getD n (0,[])).1,kvs)
theorem XY (l:List ↥47) (n:Nat) (kvs:List (Key×V)):(yD l n kvs).map (λx=>V.ref x.1)=l.map λx=>V.ref x.1:=by
 unfold yD
 rw [List.map_set]
 by_cases h:n<l.length
 ·rw [aj,ae h]
  refine fe λi=>?_
  rw [i7]
  by_cases e:n=i
  ·subst e
   rw [if_pos rfl,aa,if_pos h,aw,ae h]
   rfl
  ·rw [if_neg e]
 ·rw [List.set_eq_of_length_le (by rw [aa];right)]
theorem IceAt.leap {p:Addr}{g:IceG}{n:Nat}{a:Addr}{kvs:List (Key×V)}(I:IceAt C H p g) (j:g.lds[n]? = some (a,kvs)) (U:∀x∈g.lds,x.1≠g.ye) (G:(g.lds.map (·.1)).Nodup) (e:Ext a H H') (h:H' a=some (.dK kvs')):IceAt C H' p { g with lds:=yD g.lds n kvs' }:=by
 have l:=aB j
 have s:=I.lds _ l
 have f:∀{c:Addr} {o:HO},H c=some o->(∀z,o≠.dK z)->H' c=some o:=λh n=>e _ _ h (jm h s (n _))
 have A:n<g.lds.length:=(List.getElem?_eq_some_iff.mp j).1
 refine ⟨f I.ob ↥3,f I.va ↥3,I.rs.keep λ_ _ q=>f q ↥3,f I.cy ↥3,I.rows.imp λ_ _ q=>f q ↥3,f I.sl ↥3,Paired.mapP I.slopes λv w ⟨a,t,q⟩=>⟨a,t,f q ↥3⟩,e _ _ I.ye (λz=>U _ l z.symm),(by show H' g.le=_;rw [XY];exact f I.le ↥3),λx r=>?_⟩
 have k:x∈yD g.lds n kvs':=r
 obtain ⟨i,hi,ex⟩:=List.mem_iff_getElem.mp k
 have u:i<g.lds.length:=by unfold yD at hi;rw [iH] at hi;exact hi
 have b:(yD g.lds n kvs')[i]? = some x:=by rw [ae hi,ex]
 unfold yD at b
 rw [i7] at b
 by_cases d:n=i
 ·rw [if_pos d,if_pos ()] at b
  rw [<- aJ b,aj,j]
  exact h
 ·rw [if_neg d] at b
  refine e _ _ (I.lds x (aB b)) λz=>d ?_
  have h1:(g.lds.map (·.1))[n]? = some a:=by rw [aw,j];rfl
  have h2:(g.lds.map (·.1))[i]? = some a:=by rw [aw,b,<- z];rfl
  have m:=(List.getElem?_eq_some_iff.mp h1).1
  have y:=(List.getElem?_eq_some_iff.mp h2).1
  exact (List.getElem?_inj m G).mp (h1.trans h2.symm)
inductive spSurge (C CN CY CS:Addr) (vs:List V) (H:Hp) (Q:VK) (E:XK):Prop
 | mk (p:Addr) (g:IceG) (l y m:Int) (_:vs=[.ref p,.int l,.int y,.int m]) (_:IceAt C H p g) (_:g.lds.length=g.slopes.length) (_:(∀x∈g.lds,x.1≠g.ye)) (_:(g.lds.map (·.1)).Nodup) (_:(∀x∈g.lds,x.2.length<=1000)) (_:(∀H' a kvs,0<=l->l< ↥15->0<=y->y<=99->1<=m->m<=9->g.lds[l.toNat]? = some (a,kvs)->Ext a H H'->IceAt C H' p { g with lds:=yD g.lds l.toNat (qE kvs (.inl y) (.int m)) }->Q .non H')) (_: ↥52) (_:(0<=l->l< ↥15->y<0\/99<y->E (.ref CY) none H)) (_:(0<=l->l< ↥15->0<=y->y<=99->m<1\/9<m->E (.ref CS) none H))
theorem kG:FnScope ["self","lane","year","many"] ["self","lane","year","many"] (j8 yw):=by walk_at "s"
theorem kI (nb:Nb2 mg) (T:IceC K C) (ab:Cls K C) (z:mg "GREATEST_SURGE" = some (.int 9 u0)) (Y:mg "BadSurge" = some (.ref CS)) (U:ez K CS [.type "ValueError",.type "Exception",.type "BaseException",.type "object"] "ValueError.__new__" = true) (j:CalMX P w K mg base 1 C "check_lane" ["self","lane"] (spCheckLane C CN)) (G:CalX P w K mg base 1 "check_told" ["year"] (spCheckTold CY)) (F:Fun K "surge" "Ice.surge" yw f fd):FnOk P w K mg base (CX1 P w) 2 f fd ["self","lane","year","many"] (spSurge C CN CY CS):=by
 refine Fun.okX F kG (λq H Q E h=>?_) (λJ A outer s H q Q E c h=>?_)
 ·obtain ⟨p,g,l,y,m,rfl,_⟩:=h
  rfl
 ·obtain ⟨p,g,l,y,m,rfl,I,D,x,r,B,k,u,t,ks⟩:=h
  refine ⟨_,(j6 (jU (zU (pv 0) ab j (c.mono ⋯) qX ↥42))
   (j6 (jU (y8 G (c.mono ⋯) qX rfl ↥91))
   (j6 (qc (qL (zo qJ qJ j5 (pv 3) (xu (v:=V.int 9) rfl z ⟨_,rfl⟩))) (j9 (xR bV U Y rfl zw rfl (j0 jF j2))) jA)
   (j9 (yn (jM c) ↥65 (pv 2) (pv 3) rfl))))),?_⟩
  left
  refine ⟨p,g.dx,_,rfl,I.ob,qo ∅,?_⟩
  left
  refine ⟨p,g,l,rfl,I,λa b=>?_,λd=>u d⟩
  left
  refine ⟨λe h1=>?_,λd=>t a b d⟩
  have hi:l.toNat<g.lds.length:=()
  left
  refine qH (λn=>?_) (λn=>?_)
  ·left
   refine zS (λi=>?_) (λi=>?_)
   ·left
    exact ⟨by show 1<=sizeLine;decide,ks a b e h1 (.inr ())⟩
   ·left
    refine ⟨p,C,g.dx,_,_,rfl,I.ob,T.cl,T.nL,vD _ _ _ _ _,?_⟩
    left
    refine ⟨_,_,_,_,rfl,rfl,SqL.of I.le,qO a (v:=V.ref (g.lds[l.toNat]'hi).1) (by rw [aw,ae hi];rfl),?_⟩
    left
    have o:=I.lds _ (bL hi)
    refine ⟨_,_,rfl,wA.k (k:=.inl y) o (jb (B _ (bL hi))),?_⟩
    exact k _ _ _ a b e h1 n i (ae hi) Ext.put (I.leap (ae hi) x r Ext.put j4)
  ·left
   refine kB ?_
   left
   exact ⟨by show 1<=sizeLine;decide,ks a b e h1 (.inl ())⟩
noncomputable def kvI (q:Int×Int):Key×V:=(.inl q.1,.int q.2)
noncomputable def jL:List (Int×Int)->Int->Int
 | [],_=>0
 | q::r,y=>if q.1=y then q.2 else jL r y
theorem xY:∀(ns:List (Int×Int)) (y:Int),y∈ns.map (·.1)->qe (ns.map kvI) (.inl y)=some (.int (jL ns y))
 | [],y,h=>by cases h
 | q::r,y,h=>by
  rw [aO]
  unfold qe jL
  by_cases e:q.1=y
  ·subst e
   simp [kvI,ow]
  ·have h':y∈r.map (·.1):=by
    rcases List.mem_cons.mp h with z | z
    ·exact absurd z.symm e
    ·exact z
   have a:=xY r y h'
   unfold qe at a
   simp [kvI,ow,e] at a ⊢
   exact a
theorem Qa:∀(ns:List (Int×Int)),(ns.map (·.1)).Nodup->(ns.map (·.1)).map (λy=>(y,jL ns y))=ns
 | [],_=>rfl
 | q::r,a=>by
  rw [aO] at a ⊢
  obtain ⟨h1,h2⟩:=List.nodup_cons.mp a
  rw [aO]
  have e:jL (q::r) q.1=q.2:=by unfold jL;rw [if_pos rfl]
  rw [e]
  refine congrArg (q :: ·) ?_
  conv=>rhs;rw [<- Qa r h2]
  refine eB λy c=>?_
  have b:¬q.1=y:=λz=>h1 (z ▸ c)
  show (y,jL (q::r) y)=_
  conv=>lhs;unfold jL
  rw [if_neg b]
inductive spSurgesI (C CN:Addr) (vs:List V) (H:Hp) (Q:VK) (E:XK):Prop
 | mk (p:Addr) (g:IceG) (l:Int) (_:vs=[.ref p,.int l]) (_:IceAt C H p g) (_:g.lds.length=g.slopes.length) (_: ↥52) (_:(0<=l->l< ↥15->∃(a:Addr) (ns:List (Int×Int)),g.lds[l.toNat]? = some (a,ns.map kvI)/\(ns.map (·.1)).Nodup/\ns.length<64 /\
  ∀o H' out (ms:List (Int×Int)),H o=none->H' o=some (.lst out)->cJ (λv (m:Int×Int)=>∃b,v=V.ref b/\H' b=some (.tup [.int m.1,.int m.2])) out ms->jf H H'->ms.Perm ns->(ms.map (·.1)).Pairwise (· <= ·)->Q (.ref o) H'))
theorem wI:FnScope ["self","lane"] ["self","lane"] (j8 xH):=by walk_at "s"
theorem kg (nb:Nb2 mg) (T:IceC K C) (G:Cls K C) (j:CalMX P w K mg base 1 C "check_lane" ["self","lane"] (spCheckLane C CN)) (F:Fun K "surges" "Ice.surges" xH f fd):FnOk P w K mg base (CX1 P w) 2 f fd ["self","lane"] (spSurgesI C CN):=by
 refine Fun.okX F wI ↥58 (λan A outer s H vs Q E hr h=>?_)
 ·obtain ⟨p,g,l,rfl,_⟩:=h
  rfl
 ·obtain ⟨p,g,l,rfl,I,ai,kx,k⟩:=h
  refine ⟨_,(j6 (jU (zU (pv 0) G j (hr.mono ⋯) qX ↥42))
   (j9 (jj (jE (osc:=(j8 xH)) (ON:=["self","lane"]) (N:=["year","lane","self"]) (own:=1) (caps:=[1,0]) ⟨rfl,∅,∅,∅,rfl,∅⟩ rfl rfl rfl (jN K (jd (vG K rfl) rfl nb.b_sorted mY (j0 ↥65 j2))) (λ_ _ _ _ _=>(jc (i:=0) (show aS (["year","lane","self"]:List Str) by decide +kernel) rfl (aU rfl))) ↥14 (λ_ _ _ _ _=>(xV (j0 (pv 0) (j0 (jw (jM hr) (ji (je K) (qB K (pv 2)) (pv 1) (λ_ _=>rfl)) (pv 0) (λ_ _=>rfl)) j2)))))))),?_⟩
  left
  refine ⟨p,g.dx,_,rfl,I.ob,qo ∅,?_⟩
  left
  refine ⟨p,g,l,rfl,I,λl0 l1=>?_,λX=>kx X⟩
  obtain ⟨a,ns,Y,nd,O,k⟩:=k l0 l1
  have hi:=(List.getElem?_eq_some_iff.mp Y).1
  have hm:=I.lds _ (aB Y)
  have M:atI (g.lds.map λx=>V.ref x.1) l=some (.ref a):=qO l0 (by rw [aw,Y];rfl)
  left
  refine ⟨p,C,g.dx,_,_,rfl,I.ob,T.cl,T.nL,vD _ _ _ _ _,?_⟩
  left
  refine ⟨_,_,_,_,rfl,rfl,SqL.of I.le,M,?_⟩
  refine ⟨a,ns.map kvI,ns.map (·.1),rfl,hm,by rw [bM,bM];rfl,by rw [aa];exact O,λo H1 ks ho D s1 U hs=>?_⟩
  have al:ks.length<64:=by rw [U.length_eq,aa];exact O
  refine ⟨o,rfl,⟨_,SqL.of D⟩,λacc r=>?_⟩
  refine jJ (K:=K) (a:=o) (xs:=ks.map V.int) (acc:=acc) (λi σ H2=>∃(x:Option V) (d:List V),σ=[x,some (.int l),some (.ref p)]/\H2 acc=some (.lst d)/\d.length=i/\cJ (λv (m:Int×Int)=>∃b,v=V.ref b/\H2 b=some (.tup [.int m.1,.int m.2])) d ((ks.take i).map λy=>(y,jL ns y))/\Ext acc H1 H2) ?_ ?_ ?_ ?_
  ·exact ⟨none,[],rfl,j4,rfl,.nil,Ext.put⟩
  ·rintro i σ H2 hi ⟨x,d,rfl,h2,R,B,u⟩
   exact SqL.of (u _ _ D (j1 D r))
  ·rintro i v σ H2 hv ⟨x,d,rfl,h2,R,B,u⟩
   obtain ⟨y,rfl,S⟩:=xj hv
   have am:=(List.getElem?_eq_some_iff.mp S).1
   have ab:y∈ns.map (·.1):=U.mem_iff.mp (aB S)
   have J:jf H H2:=λc o t=>u _ _ (s1 _ _ t) (j1 (s1 _ _ t) r)
   have I2:=I.same J
   left
   refine ⟨p,C,g.dx,_,_,rfl,I2.ob,T.cl,T.nL,vD _ _ _ _ _,?_⟩
   left
   refine ⟨_,_,_,_,rfl,rfl,SqL.of I2.le,M,?_⟩
   left
   refine ⟨a,.int (jL ns y),rfl,by rw [<- xY ns y ab];exact qA.k (k:=.inl y) (J _ _ hm),?_⟩
   left
   refine ⟨by show 2<=sizeLine;decide,λb H3 X ac L=>?_⟩
   have h3:=L _ _ h2
   have Z:b≠acc:=(j1 h2 X).symm
   refine ⟨d,h3,jb (),some (.int y),d++[.ref b],rfl,j4,by rw [ay,R];rfl,?_,λc o t n=>by rw [j7 n];exact L _ _ (u c o t n)⟩
   rw [qv (λy=>(y,jL ns y)) ks i y S]
   exact cZ (Paired.mapP B λv m ⟨c,e,q⟩=>⟨c,e,by rw [j7 (jm (L _ _ q) h3 ↥4)];exact L _ _ q⟩) ⟨b,rfl,by rw [j7 Z];exact ac⟩
  ·rintro σ H2 ⟨x,d,rfl,h2,R,B,u⟩
   rw [aa,aX] at B
   have J:jf H H2:=λc o t=>u _ _ (s1 _ _ t) (j1 (s1 _ _ t) r)
   refine k acc H2 d _ (s1.free r) h2 B J ?_ ?_
   ·have:=U.map λy=>(y,jL ns y)
    rw [Qa ns nd] at this
    exact this
   ·rw [bM]
    have:((λx:Int×Int=>x.1) ∘ λy=>(y,jL ns y))=id:=rfl
    rw [this,n5]
    exact hs
inductive spYear  (vs:List V) (H:Hp) (Q:VK) (z_3:XK):Prop
 | mk (L b:Addr) (_:vs=[.ref b]) (_:qg L H b) (_:∀(y:Int) (H':Hp),0<=y->y<=99->qg L H' b->Ext b H H'->Q (.int y) H')
theorem JB:FnScope ["_law_box_here"] ["_law_box_here"] (j8 vv):=by walk_at "s"
theorem V0 {v a b c:Int}(U:0<=v) (h1:v<5) (G:0<=a/\a<=99) (z:0<=b/\b<=99) (j:0<=c/\c<=99):∃n,atI [V.int a,V.int b,V.int c,V.int 99,V.int 0] v=some (V.int n)/\0<=n/\n<=99:=by
 have h:v=0\/v=1\/v=2\/v=3\/v=4:=()
 rcases h with rfl | rfl | rfl | rfl | rfl
 ·exact ⟨a,rfl,G.1,G.2⟩
 ·exact ⟨b,rfl,z.1,z.2⟩
 ·exact ⟨c,rfl,j.1,j.2⟩
 ·exact ⟨99,rfl,⋯,⋯⟩
 ·exact ⟨0,rfl,⋯,⋯⟩
theorem Vy (j:Cal P w K mg base 2 "_law_take" ["_law_box_here","_law_size"] spTakeL) (F:Fun K "_law_year" "_law_year" vv f fd):FnOk P w K mg base CX0 3 f fd ["_law_box_here"] spYear:=by
 refine F.ok JB (λo H Q E h=>?_) (λR A outer s H o Q E d h=>?_)
 ·obtain ⟨L,b,rfl,_⟩:=h
  rfl
 ·obtain ⟨L,b,rfl,B,k⟩:=h
  refine ⟨_,(j9 (jj (ji (je K) (jS (j0 (jg j (d.mono ⋯) rfl ↥17) (j0 (jg j (d.mono ⋯) rfl ↥17) (j0 (jg j (d.mono ⋯) rfl ↥17) ↥132)))) (jg j (d.mono ⋯) rfl ↥17) (λ_ _=>rfl)))),?_⟩
  left
  refine ⟨L,b,_,rfl,B,⟨⋯,⋯⟩,λr H1 v V O I=>?_⟩
  left
  refine ⟨L,b,_,rfl,O,⟨⋯,⋯⟩,λq H2 p2 U N G=>?_⟩
  left
  refine ⟨L,b,_,rfl,N,⟨⋯,⋯⟩,λp Y p3 T m D=>?_⟩
  left
  refine ⟨by show 5<=sizeLine;decide,λl X z g e=>?_⟩
  left
  refine ⟨L,b,_,rfl,m.same e,⟨⋯,⋯⟩,λS J u t M i=>?_⟩
  obtain ⟨n,C,y,x⟩:=V0 u t (a:=r) (b:=q) (c:=p) ⟨v,()⟩ ⟨p2,()⟩ ⟨p3,()⟩
  refine ⟨_,_,_,_,rfl,rfl,SqL.of (i _ _ g (m.ne z)),C,?_⟩
  exact k n J y x M ((((I.trans G).trans D).trans (Ext.of_same e)).trans i)
noncomputable def scK (p q j G z:Addr):List (Key×V):=[↥27,↥46,↥79,(.inr "grounds",.ref G),(.inr "leaps",.ref z)]
theorem xx {k:Key}{v:V}{r:List (Key×V)}:qe ((k,v)::r) k=some v:=by
 unfold qe
 rw [mw (p:=λb:Key×V=>decide (b.1=k)) (a:=(k,v)) (decide_eq_true rfl)]
 rfl
theorem js {k j:Key}{v:V}{r:List (Key×V)}(h:j≠k):qe ((j,v)::r) k=qe r k:=by
 unfold qe
 rw [mx (p:=λb:Key×V=>decide (b.1=k)) (a:=(j,v)) (λz=>h (of_decide_eq_true z))]
theorem QG (p q j G z:Addr):qe (scK p q j G z) (.inr "reaches")=some (.ref p):=xx
theorem w9 (p q j G z:Addr):qe (scK p q j G z) (.inr "rows")=some (.ref q):=(js (show ↥74≠bu (ao "rows") by decide +kernel)).trans (xx)
theorem xX (p q j G z:Addr):qe (scK p q j G z) (.inr "single")=some (.ref j):=(js (show ↥74≠bu (ao "single") by decide +kernel)).trans ((js (show (bu (ao "rows"):Key)≠bu (ao "single") by decide +kernel)).trans (xx))
theorem yl (p q z j G:Addr):qe (scK p q z j G) (.inr "grounds")=some (.ref j):=(↥112).trans ((↥88).trans ((↥82).trans (xx)))
theorem vQ (p q z G j:Addr):qe (scK p q z G j) (.inr "leaps")=some (.ref j):=(js (show ↥74≠bu (ao "leaps") by decide +kernel)).trans ((js (show (bu (ao "rows"):Key)≠bu (ao "leaps") by decide +kernel)).trans ((js (show (bu (ao "single"):Key)≠bu (ao "leaps") by decide +kernel)).trans ((js (show (bu (ao "grounds"):Key)≠bu (ao "leaps") by decide +kernel)).trans (xx))))
noncomputable def FrM (M:Addr->Prop) (H H':Hp):Prop:=∀c o,H c=some o->H' c=some o\/(M c/\∃a kvs,o = .dK kvs/\H' c=some (.frz a (.dK kvs)))
theorem FrM.of_same (s:jf H H'):FrM M H H':=λc o h=>.inl (s c o h)
theorem FrM.trans (a:FrM M H H1) (b:FrM M H1 H2):FrM M H H2:=λc o h=>by
 rcases a c o h with h1 | ⟨m,d,kvs,e,h1⟩
 ·exact b c o h1
 ·rcases b c _ h1 with h2 | ⟨_,_,_,f,_⟩
  ·exact .inr ⟨m,d,kvs,e,h2⟩
  ·cases f
theorem FrM.at (f:FrM M H H') (h:H c=some o) (n:∀kvs,o≠.dK kvs):H' c=some o:=by
 rcases f c o h with h1 | ⟨_,a,kvs,e,_⟩
 ·exact h1
 ·exact absurd e (n kvs)
noncomputable def qy (ns:List (Int×Int)) (y:Int):Int:=((ns.filter λq=>decide (q.1<=y)).map (·.2)).sum
theorem yX:∀{ns:List (Int×Int)},(ns.map (·.1)).Nodup->∀{z:Int×Int},z∈ns->jL ns z.1=z.2
 | [],_,z,h=>by cases h
 | q::r,a,z,h=>by
  rw [aO] at a
  obtain ⟨h1,h2⟩:=List.nodup_cons.mp a
  unfold jL
  rcases List.mem_cons.mp h with e | e
  ·rw [e,if_pos rfl]
  ·have ne:¬q.1=z.1:=λw=>h1 (by rw [w];exact bf e)
   rw [if_neg ne]
   exact yX h2 e
theorem QI {ns:List (Int×Int)}{i:Nat}(h:(ns.map kvI)[i]? = some q):∃z,ns[i]? = some z/\q=kvI z:=by
 rw [aw] at h
 cases e:ns[i]? with
 | none=>rw [e] at h;cases h
 | some z=>rw [e] at h;cases h;exact ⟨z,rfl,rfl⟩
theorem qP (q:Int×Int) (r:List (Int×Int)) (y:Int):qy (q::r) y=(if q.1<=y then q.2 else 0)+qy r y:=by
 unfold qy
 rw [List.filter_cons]
 by_cases h:q.1<=y
 ·rw [decide_eq_true h,if_pos rfl,if_pos h,aO,ir]
 ·rw [decide_eq_false h,if_neg au,if_neg h,dW]
theorem Xd {j:List (Int×Int)}(p:j.Perm ns) (y:Int):qy j y=qy ns y:=by
 induction p with
 | nil=>rfl
 | cons q _ c=>rw [qP,qP,c]
 | swap a b r=>rw [qP,qP,qP,qP];right
 | trans _ _ a b=>rw [a,b]
noncomputable def Vc (g:IceG) (l:Int) (ns:List (Int×Int)):Prop:=0<=l/\l< ↥15/\(∃a,g.lds[l.toNat]? = some (a,ns.map kvI))/\(ns.map (·.1)).Nodup/\ns.length<64/\∀q∈ns,0<=q.2/\q.2<=9
theorem kS {ns:List (Int×Int)}{y:Int}{H:Hp}{R:Hp->Prop}(h:H a=some (.frz o (.dK (ns.map kvI)))) (nd:(ns.map (·.1)).Nodup) (hl:ns.length<=100) (G:H acc=none)
  (ab:∀H',H' acc=some (.lst (((ns.filter λq=>decide (q.1<=y)).map (·.2)).map V.int))->jf H H'->R H') :
  ∃W:Nat->Nat->L2.St->Hp->Prop,(∃m,W 0 m [none,some (.ref a),some (.int y)] (upd H acc (.lst [])))/\∀i m σ' H',W i m σ' H' ->
   ((Itd a o (ns.map kvI)).stop i H'/\R H')\/((Itd a o (ns.map kvI)).go i H'/\∃Y:L2.St->Hp->Prop,↥35 /\
    ∀x H2,(Itd a o (ns.map kvI)).yld i H' x H2->uf 0 x σ' H2 λU H3=>Qo (tOp (rI0 λi j=>V.bl (decide (i<=j))) (tVar 0) (tVar 2)) U H3 λok H4=>if ok=true then VU (tVar 1) (tVar 0) U H4 λv H5=>∃ys,H5 acc=some (.lst ys)/\ys.length<sizeLine/\Y U (upd H5 acc (.lst (ys++[v]))) else Y U H4):=by
 refine kZ (a:=a) (acc:=acc) (o:=o) (kvs:=ns.map kvI) (λi σ H'=>∃x:Option V,σ=[x,some (.ref a),some (.int y)]/\H' acc=some (.lst ((((ns.take i).filter λq=>decide (q.1<=y)).map (·.2)).map V.int))/\Ext acc H H') ⟨none,rfl,j4,Ext.put⟩ ?_ ?_ ?_
 ·rintro i σ H' hi ⟨x,rfl,d,b⟩
  exact b _ _ h (j1 h G)
 ·rintro i q σ H' n ⟨x,rfl,d,b⟩
  obtain ⟨z,e,rfl⟩:=QI n
  have g:=aB e
  have hi:i<ns.length:=(List.getElem?_eq_some_iff.mp e).1
  have k:((((ns.take i).filter λq=>decide (q.1<=y)).map (·.2)).map V.int).length<=100:=by
   rw [aa,aa]
   exact aI (bO _ _) (by rw [aE];right)
  have p:=b _ _ h (j1 h G)
  show uf 0 (V.int z.1) _ _ _
  left
  refine qH (λf=>?_) (λf=>?_)
  ·refine ⟨_,rfl,_,rfl,a,V.int z.2,rfl,?_,_,d,bZ k ⋯,_,rfl,?_,b.trans Ext.put⟩
   ·have:=xY ns z.1 (bf g)
    rw [yX nd g] at this
    rw [<- this]
    exact .inl ⟨_,.inl z.1,.inr ⟨o,p⟩,rfl,rfl⟩
   ·rw [j4,ba,e,dE,bP,cq (by rw [decide_eq_true f]),aq,aq]
    rfl
  ·refine ⟨_,rfl,?_,b⟩
   rw [ba,e,dE,bP,cp (by rw [decide_eq_false f];exact au),iM,b0]
   exact d
 ·rintro σ H' ⟨x,rfl,d,b⟩
  rw [aa,aX] at d
  exact ab H' d λc u l=>b c u l (j1 l G)
inductive spRide  (vs:List V) (H:Hp) (Q:VK) (z_3:XK):Prop
 | mk (M:Addr->Prop) (sd p q sg gl ll a:Addr) (lds:List Addr) (l y:Int) (ns:List (Int×Int)) (_:vs=[.ref sd,.int l,.int y]) (_:H sd=some (.dK (scK p q sg gl ll))) (_:H ll=some (.lst (lds.map V.ref))) (_:0<=l) (_:lds[l.toNat]? = some a) (_:Rd H a (.dK (ns.map kvI))) (_:M a) (_:¬M sd) (_:ns.length<=100) (_:(ns.map (·.1)).Nodup) (_:(∀q∈ns,0<=q.2/\q.2<=9)) (_:∀H',FrM M H H'->Q (.int (y+qy ns y)) H')
theorem uF:FnScope ["_law_scene_here","_law_lane","_law_year_here","_law_leaps"] ["_law_scene_here","_law_lane","_law_year_here"] (j8 yr):=by walk_at "s"
theorem V8 (U:Nb2 mg) (F:Fun K "_law_ride" "_law_ride" yr f fd):FnOk P w K mg base CX0 1 f fd ["_law_scene_here","_law_lane","_law_year_here"] spRide:=by
 refine F.ok uF (λS H Q E h=>?_) (λac A outer s H S Q E L h=>?_)
 ·obtain ⟨M,r,p,q,C,R,t,a,G,l,y,ns,rfl,_⟩:=h
  rfl
 ·obtain ⟨M,r,p,q,C,R,t,a,G,l,y,ns,rfl,I,O,T,Z,J,hM,ab,g,D,h9,k⟩:=h
  refine ⟨_,(j6 (zc (i:=3) uF.nd rfl (fI rfl) (ji (je K) (jw (jM L) (pv 0) jF (λ_ _=>rfl)) (pv 1) (λ_ _=>rfl)))
   (j9 (jj (jk jO (pv 2) (jd (JN K rfl) rfl U.b_sum ni (j0 (jE (osc:=(j8 yr)) (ON:=["_law_scene_here","_law_lane","_law_year_here","_law_leaps"]) (N:=["_law_when","_law_leaps","_law_year_here"]) (own:=1) (caps:=[3,2]) ⟨rfl,∅,∅,∅,rfl,∅⟩ rfl rfl rfl (w5 (pv 3)) (λ_ _ _ _ _=>(jc (i:=0) (show aS (["_law_when","_law_leaps","_law_year_here"]:List Str) by decide +kernel) rfl (aU rfl))) (λ_ _ _ _ _=>(zj (jv qJ (pv 0) (pv 2) (jK _)))) (λ_ _ _ _ _=>(jw (jM L) (pv 1) (pv 0) (λ_ _=>rfl)))) j2)))))),?_⟩
  left
  refine ⟨r,.ref t,rfl,by rw [<- vQ p q C R t];exact qA.k (k:=.inr "leaps") I,?_⟩
  left
  refine ⟨_,_,_,_,rfl,rfl,SqL.of O,qO T (v:=V.ref a) (by rw [aw,Z];rfl),?_⟩
  left
  have m:∀(H1:Hp),FrM M H H1->∀acc H2,H2 acc=some (.lst (((ns.filter λq=>decide (q.1<=y)).map (·.2)).map V.int))->jf H1 H2->gU [some (.ref r),some (.int l),some (.int y),some (.ref a)] H2 λxs H3=>cI_call_sum K (V.ref acc::xs) H3 λz H4=>rI0 (λi j=>V.int (i+j)) (V.int y) z H4 Q:=λH1 B acc H2 h2 d=>by
   refine ⟨acc,_,rfl,SqL.of h2,?_,λn Y=>?_,?_⟩
   ·rw [aa]
    exact aI (bO _ _) ()
   ·obtain ⟨z,X,rfl⟩:=List.mem_map.mp Y
    have:=h9 z (List.mem_filter.mp X).1
    exact ⟨this.1,Int.le_trans this.2 ⋯⟩
   ·exact ⟨_,_,rfl,rfl,k H2 (B.trans (FrM.of_same d))⟩
  rcases J with h | ⟨o,h⟩
  ·refine ⟨a,_,rfl,.inl ⟨h,λo acc b=>?_⟩⟩
   have B:FrM M H (upd H a (.frz o (.dK (ns.map kvI)))):=λc u x=>by
    by_cases e:c=a
    ·subst e
     rw [h] at x
     cases x
     exact .inr ⟨hM,o,_,rfl,j4⟩
    ·exact .inl (by rw [j7 e];exact x)
   exact kS (a:=a) (o:=o) j4 D g b λH2 h2 d=>m _ B acc H2 h2 d
  ·refine ⟨a,_,rfl,.inr ⟨o,h,λacc b=>?_⟩⟩
   exact kS (a:=a) (o:=o) h D g b λH2 h2 d=>m _ (FrM.of_same (jf.refl H)) acc H2 h2 d
noncomputable def kvA (z:Int×Addr):Key×V:=(.inl z.1,.ref z.2)
noncomputable def xF {α:Type}(l:List (Int×α)) (y:Int) (a:α):List (Int×α):=if (l.any λz=>decide (z.1=y))=true then l.map (λz=>if z.1=y then (z.1,a) else z) else l++[(y,a)]
theorem wC {α:Type}(f:α->V) (l:List (Int×α)) (y:Int) (a:α):qE (l.map λz=>↥55) (.inl y) (f a)=(xF l y a).map λz=>↥55:=by
 have e:∀z:Int,decide ((eA z:Key)=eA y)=decide (z=y):=λz=>decide_eq_decide.mpr ⟨λh=>ff h,λh=>by rw [h]⟩
 have d:((l.map λz=>↥55).any λc=>decide (c.1=(eA y:Key)))=l.any λz=>decide (z.1=y):=by
  rw [List.any_map]
  congr 1
  funext z
  exact e z.1
 unfold qE xF
 rw [d]
 by_cases h:(l.any λz=>decide (z.1=y))=true
 ·rw [if_pos h,if_pos h,bM,bM]
  refine eB λz _=>?_
  show (if (eA z.1:Key)=eA y then _ else _)=_
  by_cases b:z.1=y
  ·rw [if_pos (by rw [b])]
   show _=(λz:Int×α=>↥55) (if z.1=y then (z.1,a) else z)
   rw [if_pos b]
  ·rw [if_neg (λw=>b (ff w))]
   show _=(λz:Int×α=>↥55) (if z.1=y then (z.1,a) else z)
   rw [if_neg b]
 ·rw [if_neg h,if_neg h,aq]
  rfl
theorem ke {α:Type}{l:List (Int×α)}{y:Int}{a:α}{z:Int×α}(h:z∈xF l y a):z∈l\/z=(y,a):=by
 unfold xF at h
 by_cases c:(l.any λz=>decide (z.1=y))=true
 ·rw [if_pos c] at h
  obtain ⟨u,b,e⟩:=List.mem_map.mp h
  by_cases q:u.1=y
  ·rw [if_pos q,q] at e
   exact .inr e.symm
  ·rw [if_neg q] at e
   exact .inl (e ▸ b)
 ·rw [if_neg c] at h
  rcases List.mem_append.mp h with q | q
  ·exact .inl q
  ·exact .inr (by simpa using q)
theorem vO {α:Type}(l:List (Int×α)) (y:Int) (a:α):(xF l y a).length<=l.length+1:=by
 unfold xF
 split
 ·rw [aa];right
 ·rw [ay];exact ar _
theorem wo {α:Type}{l:List (Int×α)}{y:Int}{a:α}(h:(l.map (·.1)).Nodup):((xF l y a).map (·.1)).Nodup:=by
 unfold xF
 by_cases c:(l.any λz=>decide (z.1=y))=true
 ·rw [if_pos c,bM]
  have:(l.map ((λx=>x.1) ∘ λz=>if z.1=y then (z.1,a) else z))=l.map (·.1):=eB λz _=>by
   show (if z.1=y then (z.1,a) else z).1=z.1
   split <;> rfl
  rw [this]
  exact h
 ·rw [if_neg c,aq]
  refine uV h λz=>c ?_
  obtain ⟨u,b,e⟩:=List.mem_map.mp z
  exact List.any_eq_true.mpr ⟨u,b,decide_eq_true e⟩
structure ScN where
 p:Addr
 q:Addr
 sg:Addr
 gl:Addr
 ll:Addr
 xs:List V
 ys:List V
 zs:List V
 rs:List Rch
 ts:List T3
 ws:List (List Int)
 sk:List (Int×Addr)
 lds:List ↥108
structure ScAt (H:Hp) (sd:Addr) (c:ScN):Prop where
 sd:H sd=some (.dK (scK c.p c.q c.sg c.gl c.ll))
 p:H c.p=some (.lst c.xs)
 rv:jV H c.xs c.rs
 q:H c.q=some (.lst c.ys)
 r3:qM H c.ys c.ts
 gl:H c.gl=some (.lst c.zs)
 gi:yz H c.zs (c.ws.map (jh c.rs))
 ll:H c.ll=some (.lst (c.lds.map λx=>V.ref x.1))
 sg:Rd H c.sg (.dK (c.sk.map kvA))
 sk:∀z∈c.sk,∃t,H z.2=some (yc t)/\good t=true
 ld:∀x∈c.lds,Rd H x.1 (.dK (x.2.map kvI))
structure ScOk (b:Addr) (c:ScN):Prop where
 gr:Grown c.rs
 l1:1<=c.rs.length
 l8:c.rs.length<=8
 t1:1<=c.ts.length
 t2:c.ts.length<=12
 tg:c.ts.all good=true
 ro:jW c.rs c.ws
 ldl:c.lds.length=c.ws.length
 nd:(c.lds.map (·.1)).Nodup
 ns:∀x∈c.lds,x.1≠c.sg
 pb:c.p≠b
 qb:c.q≠b
 gb:c.gl≠b
 lb:c.ll≠b
 zb:V.ref b∉c.zs
 k1:(c.sk.map (·.1)).Nodup
 k2:∀z∈c.sk,0<=z.1/\z.1<=99
 k3:c.sk.length<=10
 m1:∀x∈c.lds,(x.2.map (·.1)).Nodup
 m2:∀x∈c.lds,∀z∈x.2,0<=z.1/\z.1<=99/\1<=z.2/\z.2<=9
 m3:∀x∈c.lds,x.2.length<=10
noncomputable def Fr3 (N M:Addr->Prop) (H H':Hp):Prop:=∀c o,H c=some o->¬N c->H' c=some o\/(M c/\∃a kvs,o = .dK kvs/\H' c=some (.frz a (.dK kvs)))
theorem Fr3.at {N:Addr->Prop}(f:Fr3 N M H H') (h:H c=some o) (n:¬N c) (d:∀kvs,o≠.dK kvs):H' c=some o:=by
 rcases f c o h n with h1 | ⟨_,a,kvs,e,_⟩
 ·exact h1
 ·exact absurd e (d kvs)
theorem Fr3.rd {N:Addr->Prop}(f:Fr3 N M H H') {kvs:List (Key×V)}(n:¬N c) (h:Rd H c (.dK kvs)):Rd H' c (.dK kvs):=by
 rcases h with h | ⟨o,h⟩
 ·rcases f c _ h n with h1 | ⟨_,a,b,e,h1⟩
  ·exact .inl h1
  ·cases e
   exact .inr ⟨a,h1⟩
 ·exact .inr ⟨o,f.at h n ↥3⟩
theorem pmM {α β:Type}{F G:α->β->Prop}:∀{l₁:List α}{j:List β},cJ F l₁ j->(∀v∈l₁,∀w,F v w->G v w)->cJ G l₁ j
 | _,_,.nil,_=>.nil
 | _,_,.cons q r,h=>.cons (h _ (aK ..) _ q) (pmM r λv a=>h v (aD _ a))
theorem ScAt.keep {N:Addr->Prop}{sd:Addr}{c:ScN}(S:ScAt H sd c) (f:Fr3 N M H H') (nT:∀a xs,H a=some (.tup xs)->¬N a) (j:¬N sd) (G:¬M sd) (np:¬N c.p) (Y:¬N c.q) (ng:¬N c.gl) (nl:¬N c.ll) (U:∀a,V.ref a∈c.zs->¬N a) (ns:¬N c.sg) (nd:∀x∈c.lds,¬N x.1):ScAt H' sd c:=by
 have t:∀a xs,H a=some (.tup xs)->H' a=some (.tup xs):=λa xs h=>f.at h (nT a xs h) ↥3
 refine ⟨?_,f.at S.p np ↥3,S.rv.keep t,f.at S.q Y ↥3,S.r3.imp λ_ _ h=>t _ _ h,f.at S.gl ng ↥3,pmM S.gi λv i w ⟨a,d,q⟩=>⟨a,d,f.at q (U a (d ▸ i)) ↥3⟩,f.at S.ll nl ↥3,f.rd ns S.sg,λz e=>?_,λx b=>f.rd (nd x b) (S.ld x b)⟩
 ·rcases f _ _ S.sd j with z | ⟨z,_⟩
  ·exact z
  ·exact absurd z G
 ·obtain ⟨u,k,g⟩:=S.sk z e
  exact ⟨u,t _ _ k,g⟩
theorem ScAt.same {sd:Addr}(S:ScAt H sd c) (s:jf H H'):ScAt H' sd c :=
 S.keep (N:=λ_=>False) (M:=λ_=>False) (λc o h _=>.inl (s c o h)) (λ_ _ _ z=>z) id id id id id id (λ_ _=>id) id (λ_ _=>id)
theorem ScAt.ext {b:Addr}{sd:Addr}(S:ScAt H sd c) (O:ScOk b c) (B:qg L H b) (e:Ext b H H'):ScAt H' sd c:=by
 obtain ⟨_,_,_,_,_,d,_⟩:=B
 have f:∀{a:Addr} {kvs:List (Key×V)},Rd H a (.dK kvs)->¬a=b:=λh z=>by
  rcases h with h | ⟨o,h⟩
  ·exact absurd z (jm h d ↥4)
  ·exact absurd z (jm h d ↥4)
 exact S.keep (N:=λa=>a=b) (M:=λ_=>False) (λc o h n=>.inl (e c o h n)) (λa xs h z=>absurd z (jm h d ↥4)) (jm S.sd d ↥4) id O.pb O.qb O.gb O.lb (λa h z=>O.zb (z ▸ h)) (f S.sg) λx g=>f (S.ld x g)
noncomputable def ScN.D (c:ScN) (a:Addr):Prop:=a=c.sg\/∃x∈c.lds,x.1=a
theorem Uu {p q j U G:Addr}{α:Type}{f:α->V}{l:List (Int×α)}:scK p q j U G≠l.map λz=>↥55:=λz=>by
 cases l with
 | nil=>cases z
 | cons u r =>
  have:=congrArg (λl=>l.head?.map (·.1)) z
  cases this
theorem XQ {H:Hp}{sd a p q j G ll:Addr}{α:Type}{f:α->V}{l:List (Int×α)}(h:H sd=some (.dK (scK p q j G ll))) (r:Rd H a (.dK (l.map λz=>↥55))):a≠sd:=λz=>by
 subst z
 rcases r with r | ⟨o,r⟩
 ·rw [r] at h
  have e:l.map (λz=>↥55)=scK p q j G ll:=by injection h with h;injection h
  exact Uu e.symm
 ·rw [r] at h
  cases h
theorem ScAt.nD {sd:Addr}(S:ScAt H sd c):¬c.D sd:=λz=>by
 rcases z with z | ⟨x,a,e⟩
 ·exact XQ (f:=V.ref) S.sd S.sg z.symm
 ·exact XQ (f:=V.int) S.sd (S.ld x a) e
structure ScB (L b:Addr) (H H2:Hp) (sd:Addr) (c:ScN):Prop where
 S:ScAt H2 sd c
 O:ScOk b c
 r1:H2 c.sg=some (.dK (c.sk.map kvA))
 r2:∀x∈c.lds,H2 x.1=some (.dK (x.2.map kvI))
 B:qg L H2 b
 X:Ext b H H2
 f1:H c.sg=none
 f2:∀x∈c.lds,H x.1=none
theorem ScB.take {b:Addr}{j:Addr}(S:ScB L b H H2 j c) (B:qg L G b) (X:Ext b H2 G):ScB L b H G j c:=by
 have a:∃xs,H2 b=some (.lst xs):=by
  obtain ⟨_,_,_,_,_,a,_⟩:=S.B
  exact ⟨_,a⟩
 obtain ⟨_,a⟩:=a
 exact ⟨S.S.ext S.O S.B X,S.O,X _ _ S.r1 (jm S.r1 a ↥4),λx d=>X _ _ (S.r2 x d) (jm (S.r2 x d) a ↥4),B,S.X.trans X,S.f1,S.f2⟩
theorem ScB.same {b:Addr}{j:Addr}(S:ScB L b H H2 j c) (s:jf H2 z):ScB L b H z j c:=S.take (S.B.same s) (Ext.of_same s)
theorem uj (B:qg L j b) (e:Ext b j Hb):jo j Hb:=by
 obtain ⟨ns,a,r,c,d,h1,_⟩:=B
 exact jo.lst e h1
theorem ScB.single {b:Addr}{G:Addr}{y:Int}(S:ScB L b H H2 G c) (Y:0<=y) (U:y<=99) (ht:H2 t=some (yc r)) (hg:good r=true) (hl:c.sk.length+1<=10) :
  ScB L b H (upd H2 c.sg (.dK (qE (c.sk.map kvA) (.inl y) (.ref t)))) G { c with sk:=xF c.sk y t }:=by
 have e:qE (c.sk.map kvA) (.inl y) (.ref t)=(xF c.sk y t).map kvA:=wC V.ref c.sk y t
 rw [e]
 have i:∀{a:Addr} {o:HO},H2 a=some o->(∀kvs,o≠.dK kvs)->(upd H2 c.sg (.dK ((xF c.sk y t).map kvA))) a=some o:=λh n=>by rw [j7 (jm h S.r1 (n _))];exact h
 have s:G≠c.sg:=(XQ (f:=V.ref) S.S.sd S.S.sg).symm
 have k:∃xs,H2 b=some (.lst xs):=by
  obtain ⟨_,_,_,_,_,k,_⟩:=S.B
  exact ⟨_,k⟩
 obtain ⟨_,k⟩:=k
 have l:∃xs,H2 L=some (.lst xs):=by
  obtain ⟨_,_,_,_,_,_,_,l,_⟩:=S.B
  exact ⟨_,l⟩
 obtain ⟨_,l⟩:=l
 refine ⟨⟨by rw [j7 s];exact S.S.sd,i S.S.p ↥3,S.S.rv.keep λ_ _ h=>i h ↥3,i S.S.q ↥3,S.S.r3.imp λ_ _ h=>i h ↥3,i S.S.gl ↥3,pmM S.S.gi λv E w ⟨a,D,q⟩=>⟨a,D,i q ↥3⟩,i S.S.ll ↥3,.inl j4,λz m=>?_,λx j=>.inl (by rw [j7 (S.O.ns x j)];exact S.r2 x j)⟩,?_,j4,λx j=>by rw [j7 (S.O.ns x j)];exact S.r2 x j,S.B.put (jm S.r1 k ↥4) (jm S.r1 l ↥4),λd o A n=>?_,S.f1,S.f2⟩
 ·rcases ke m with z | z
  ·obtain ⟨u,C,g⟩:=S.S.sk _ z
   exact ⟨u,i C ↥3,g⟩
  ·subst z
   exact ⟨r,i ht ↥3,hg⟩
 ·have O:=S.O
  exact ⟨O.gr,O.l1,O.l8,O.t1,O.t2,O.tg,O.ro,O.ldl,O.nd,O.ns,O.pb,O.qb,O.gb,O.lb,O.zb,wo O.k1,λz m=>by
   rcases ke m with q | q
   ·exact O.k2 z q
   ·subst q;exact ⟨Y,U⟩,aI (vO _ _ _) hl,O.m1,O.m2,O.m3⟩
 ·rw [j7 (j1 A S.f1)]
  exact S.X d o A n
theorem uc {α β:Type}{l:List (α×β)}{n:Nat}{a:α}{u v:β}(j:(l.map (·.1)).Nodup) (U:l[n]? = some (a,u)) {x:α×β}(G:x∈l.set n (a,v)):x=(a,v)\/(x∈l/\x.1≠a):=by
 obtain ⟨i,hi,e⟩:=List.mem_iff_getElem.mp G
 have b:i<l.length:=by rw [iH] at hi;exact hi
 obtain ⟨d,c⟩:=List.getElem?_eq_some_iff.mp U
 by_cases q:n=i
 ·subst q
  rw [List.getElem_set_self] at e
  exact .inl e.symm
 ·rw [List.getElem_set_ne q] at e
  refine .inr ⟨e ▸ bL b,λz=>q ?_⟩
  have h1:(l.map (·.1))[n]'(by rw [aa];exact d)=(l.map (·.1))[i]'(by rw [aa];exact b):=by
   rw [eI,eI,c,e,z]
  rcases Nat.lt_trichotomy n i with g | g | g
  ·exact absurd h1 (List.pairwise_iff_getElem.mp j n i _ _ g)
  ·exact g
  ·exact absurd h1.symm (List.pairwise_iff_getElem.mp j i n _ _ g)
theorem XN {α β:Type}{l:List (α×β)}{n:Nat}{a:α}{u v:β}(j:l[n]? = some (a,u)):(l.set n (a,v)).map (·.1)=l.map (·.1):=by
 obtain ⟨b,c⟩:=List.getElem?_eq_some_iff.mp j
 rw [List.map_set]
 refine fe λi=>?_
 rw [i7]
 by_cases q:n=i
 ·subst q
  rw [if_pos rfl,if_pos (by rw [aa];exact b),aw,j]
  rfl
 ·rw [if_neg q]
theorem ScB.leap {b:Addr}{U a:Addr}{n:Nat}{y m:Int}{ns:List (Int×Int)}(S:ScB L b H H2 U c) (G:c.lds[n]? = some (a,ns)) (y0:0<=y) (Y:y<=99) (m0:1<=m) (m1:m<=9) (hl:ns.length+1<=10) :
  ScB L b H (upd H2 a (.dK (qE (ns.map kvI) (.inl y) (.int m)))) U { c with lds:=c.lds.set n (a,xF ns y m) }:=by
 have e:qE (ns.map kvI) (.inl y) (.int m)=(xF ns y m).map kvI:=wC V.int ns y m
 rw [e]
 have k:=aB G
 have t:=S.r2 _ k
 have j:∀{d:Addr} {o:HO},H2 d=some o->(∀kvs,o≠.dK kvs)->(upd H2 a (.dK ((xF ns y m).map kvI))) d=some o:=λh n=>by rw [j7 (jm h t (n _))];exact h
 have D:U≠a:=(XQ (f:=V.int) S.S.sd (S.S.ld _ k)).symm
 have r:∃xs,H2 b=some (.lst xs):=by
  obtain ⟨_,_,_,_,_,r,_⟩:=S.B
  exact ⟨_,r⟩
 obtain ⟨_,r⟩:=r
 have s:∃xs,H2 L=some (.lst xs):=by
  obtain ⟨_,_,_,_,_,_,_,s,_⟩:=S.B
  exact ⟨_,s⟩
 obtain ⟨_,s⟩:=s
 have fs:=XN (v:=xF ns y m) G
 have I: (↥133).map (λx=>V.ref x.1)=c.lds.map λx=>V.ref x.1:=by
  have:=congrArg (List.map V.ref) fs
  rw [bM,bM] at this
  exact this
 have C:c.sg≠a:=(S.O.ns _ k).symm
 have r2:∀x∈c.lds.set n (a,xF ns y m),(upd H2 a (.dK ((xF ns y m).map kvI))) x.1=some (.dK (x.2.map kvI)):=λx i=>by
  rcases uc S.O.nd G i with z | ⟨z,w⟩
  ·subst z
   exact j4
  ·rw [j7 w]
   exact S.r2 x z
 have mem:∀x∈c.lds.set n (a,xF ns y m),∃l∈c.lds,l.1=x.1:=λx i=>by
  have:x.1∈ (↥133).map (·.1):=bf i
  rw [fs] at this
  exact List.mem_map.mp this
 have O:=S.O
 refine ⟨⟨by rw [j7 D];exact S.S.sd,j S.S.p ↥3,S.S.rv.keep λ_ _ h=>j h ↥3,j S.S.q ↥3,S.S.r3.imp λ_ _ h=>j h ↥3,j S.S.gl ↥3,pmM S.S.gi λv M w ⟨a,K,q⟩=>⟨a,K,j q ↥3⟩,?_,.inl (by show upd _ _ _ c.sg=_;rw [j7 C];exact S.r1),λz J=>?_,λx i=>.inl (r2 x i)⟩,⟨O.gr,O.l1,O.l8,O.t1,O.t2,O.tg,O.ro,?_,?_,?_,O.pb,O.qb,O.gb,O.lb,O.zb,O.k1,O.k2,O.k3,?_,?_,?_⟩,(by show upd _ _ _ c.sg=_;rw [j7 C];exact S.r1),r2,S.B.put (jm t r ↥4) (jm t s ↥4),λd o E n=>?_,S.f1,?_⟩
 ·show _=some (HO.lst ((↥133).map λx=>V.ref x.1))
  rw [I]
  exact j S.S.ll ↥3
 ·obtain ⟨u,A,g⟩:=S.S.sk _ J
  exact ⟨u,j A ↥3,g⟩
 ·show (↥133).length=_
  rw [iH]
  exact O.ldl
 ·show ((↥133).map (·.1)).Nodup
  rw [fs]
  exact O.nd
 ·intro x i
  obtain ⟨l,h1,h2⟩:=mem x i
  rw [<- h2]
  exact O.ns l h1
 ·intro x i
  rcases uc S.O.nd G i with z | ⟨z,w⟩
  ·subst z;exact wo (O.m1 _ k)
  ·exact O.m1 x z
 ·intro x i
  rcases uc S.O.nd G i with z | ⟨z,w⟩
  ·subst z
   intro u A
   rcases ke A with q | q
   ·exact O.m2 _ k u q
   ·subst q;exact ⟨y0,Y,m0,m1⟩
  ·exact O.m2 x z
 ·intro x i
  rcases uc S.O.nd G i with z | ⟨z,w⟩
  ·subst z;exact aI (vO _ _ _) hl
  ·exact O.m3 x z
 ·rw [j7 (j1 E (S.f2 _ k))]
  exact S.X d o E n
 ·intro x i
  obtain ⟨l,h1,h2⟩:=mem x i
  rw [<- h2]
  exact S.f2 l h1
theorem put4 :qE (qW [] [↥27,↥46,↥79]) (.inr "grounds") (.ref z)=[(↥27:Key×V),↥46,↥79,(.inr "grounds",.ref z)]:=by
 have d:(qE [] (.inr "reaches") (.ref p):List (Key×V))=[↥27]:=zV _ yH
 have c:qE [(↥27:Key×V)] (.inr "rows") (.ref q)=[↥27,↥46]:=zV _ ((js (show ↥74≠bu (ao "rows") by decide +kernel)).trans yH)
 have b:qE [(↥27:Key×V),↥46] (.inr "single") (.ref j)=[↥27,↥46,↥79]:=zV _ ((js (show ↥74≠bu (ao "single") by decide +kernel)).trans ((js (show (bu (ao "rows"):Key)≠bu (ao "single") by decide +kernel)).trans yH))
 have a:qE [(↥27:Key×V),↥46,↥79] (.inr "grounds") (.ref z)=[(↥27:Key×V),↥46,↥79,(.inr "grounds",.ref z)]:=zV _ ((↥112).trans ((↥88).trans ((↥82).trans yH)))
 have e:qW [] [(↥27:Key×V),↥46,↥79]=[↥27,↥46,↥79]:=by
  show qE (qE (qE ([]:List (Key×V)) (.inr "reaches") (.ref p)) (.inr "rows") (.ref q)) (.inr "single") (.ref j)=_
  rw [d,c,b]
 rw [e,a]
theorem put5 :qE [(↥27:Key×V),↥46,↥79,(.inr "grounds",.ref z)] (.inr "leaps") (.ref ll)=scK p q j z ll :=
 zV _ ((js (show ↥74≠bu (ao "leaps") by decide +kernel)).trans ((js (show (bu (ao "rows"):Key)≠bu (ao "leaps") by decide +kernel)).trans ((js (show (bu (ao "single"):Key)≠bu (ao "leaps") by decide +kernel)).trans ((js (show (bu (ao "grounds"):Key)≠bu (ao "leaps") by decide +kernel)).trans yH))))
theorem JL (p q z j:Addr):qe [(↥27:Key×V),↥46,(.inr "single",.ref z),(.inr "grounds",.ref j)] (.inr "grounds")=some (.ref j):=(↥112).trans ((↥88).trans ((↥82).trans xx))
theorem XU {rs:List Rch}(G:Grown rs):∀r∈rs,r.2.length<=12:=λr a=>by
 obtain ⟨i,hi,e⟩:=List.mem_iff_getElem.mp a
 have:=gK G.ok (ae hi)
 rw [e] at this
 unfold okR at this
 rw [bz,bz] at this
 have:=of_decide_eq_true this.1.2
 right
theorem Vr {v:Int}(a:0<=v) (b:v<3):∃n,atI [V.int 1,V.int 4,V.int 9] v=some (V.int n)/\0<n/\n<=9:=by
 have h:v=0\/v=1\/v=2:=()
 rcases h with rfl | rfl | rfl
 ·exact ⟨1,rfl,(),()⟩
 ·exact ⟨4,rfl,(),()⟩
 ·exact ⟨9,rfl,(),()⟩
theorem Vt {v:Int}(a:0<=v) (b:v<3):∃n,atI [V.int 1,V.int 3,V.int 7] v=some (V.int n)/\0<n/\n<=7:=by
 have h:v=0\/v=1\/v=2:=()
 rcases h with rfl | rfl | rfl
 ·exact ⟨1,rfl,(),()⟩
 ·exact ⟨3,rfl,(),()⟩
 ·exact ⟨7,rfl,(),()⟩
theorem WB {v:Int}(a:0<=v) (b:v<2):∃n,atI [V.int 2,V.int 9] v=some (V.int n)/\0<n/\n<=9:=by
 have h:v=0\/v=1:=()
 rcases h with rfl | rfl
 ·exact ⟨2,rfl,(),()⟩
 ·exact ⟨9,rfl,(),()⟩
theorem gq (L:xn rs) (h:1<=rs.length):1<=(jq rs).length:=by
 have:(rs.length-1)∈jq rs:=by
  refine List.mem_filter.mpr ⟨List.mem_range.mpr (),?_⟩
  unfold jQ
  rw [decide_eq_false]
  ·rfl
  ·intro z
   have:=QU L z
   right
 exact i5 this
inductive spScene  (vs:List V) (H:Hp) (Q:VK) (z_3:XK):Prop
 | mk (L b:Addr) (_:vs=[.ref b]) (_:qg L H b) (_:∀sd H' c,qg L H' b->Ext b H H'->ScAt H' sd c->ScOk b c->Q (.ref sd) H')
theorem qU:FnScope ["_law_box_here","_law_reaches_here","_law_scene_here","_law_turn","_law_lane"] ["_law_box_here"] (j8 xP):=by walk_at "s"
theorem Ys (nb:Nb2 mg) (j:Cal P w K mg base 2 "_law_take" ["_law_box_here","_law_size"] spTakeL) (Y:Cal P w K mg base 4 "_law_reaches" ["_law_box_here"] spReachesL) (ac:Cal P w K mg base 4 "_law_round" ["_law_box_here"] spRoundMade) (ab:Cal P w K mg base 1 "_law_ground" ["_law_reaches_here","_law_road"] (spGround K)) (ai:Cal P w K mg base 1 "_law_roads" ["_law_reaches_here"] (spRoadsL K)) (G:Cal P w K mg base 3 "_law_year" ["_law_box_here"] spYear) (U:Cal P w K mg base 3 "_law_weather" ["_law_box_here"] spWeather)
  (F:Fun K "_law_scene" "_law_scene" xP f fd):FnOk P w K mg base CX0 5 f fd ["_law_box_here"] spScene:=by
 refine F.ok qU ↥58 (λeg A outer s H vs Q E m h=>?_)
 ·obtain ⟨L,b,rfl,_⟩:=h
  rfl
 ·obtain ⟨L,b,rfl,B,k⟩:=h
  refine ⟨_,(j6 (zc (i:=1) qU.nd rfl (fI rfl) (jg Y (m.mono ⋯) rfl ↥33))
   (j6 (jz 2 qU.nd (Vb (wE jF (pv 1) (wE jF (jg ac (m.mono ⋯) rfl ↥33) (wE jF y3 VH))) rfl rfl (λz=>by cases z) ⋯))
   (j6 (yn (jM m) (pv 2) jF (jE (osc:=(j8 xP)) (ON:=["_law_box_here","_law_reaches_here","_law_scene_here","_law_turn","_law_lane"]) (N:=["_law_road","_law_reaches_here"]) (own:=1) (caps:=[1]) ⟨rfl,∅,∅,∅,rfl,∅⟩ rfl rfl rfl (jN K (jg ai (m.mono ⋯) rfl ↥42)) (λ_ _ _ _ _=>(jc (i:=0) (show aS (["_law_road","_law_reaches_here"]:List Str) by decide +kernel) rfl (aU rfl))) ↥14 (λ_ _ _ _ _=>(jg ab (m.mono ⋯) rfl (j0 (pv 1) ↥33)))) rfl)
   (uh (yn (jM m) (pv 2) jF (jE (osc:=(j8 xP)) (ON:=["_law_box_here","_law_reaches_here","_law_scene_here","_law_turn","_law_lane"]) (N:=["_law_ground_here"]) (own:=1) (caps:=[]) ⟨rfl,∅,∅,∅,rfl,∅⟩ rfl rfl rfl (jN K ↥134) (λ_ _ _ _ _=>(jc (i:=0) (show aS (["_law_ground_here"]:List Str) by decide +kernel) rfl (aU rfl))) ↥14 (λ_ _ _ _ _=>y3)) rfl)
   (uh (qK bj rfl (jY rfl nb.b_range (j0 (jg j (m.mono ⋯) rfl (j0 (pv 0) (j0 (ji (je K) (jS (j0 j5 ↥132)) (jg j (m.mono ⋯) rfl ↥17) (λ_ _=>rfl)) j2))) j2)) (jc (i:=3) qU.nd rfl (aU rfl)) (j9 (yn (jM m) ↥134 (jg G (m.mono ⋯) rfl ↥33) (jg U (m.mono ⋯) rfl ↥33) rfl)))
   (j6 (qK bj rfl (jY rfl nb.b_range (j0 (jg j (m.mono ⋯) rfl (j0 (pv 0) (j0 (ji (je K) (jS (j0 j5 ↥132)) (jg j (m.mono ⋯) rfl ↥17) (λ_ _=>rfl)) j2))) j2)) (jc (i:=3) qU.nd rfl (aU rfl)) (j6 (jz 4 qU.nd (jg j (m.mono ⋯) rfl (j0 (pv 0) (j0 ↥30 j2))))
   (j9 (yn (jM m) (ji (je K) ↥134 (pv 4) (λ_ _=>rfl)) (jg G (m.mono ⋯) rfl ↥33) (jk jO j5 (jg j (m.mono ⋯) rfl (j0 (pv 0) (j0 (ji (je K) (jS ↥132) (jg j (m.mono ⋯) rfl ↥17) (λ_ _=>rfl)) j2)))) rfl))))
   (j9 (jj (pv 2))))))))),?_⟩
  left
  refine ⟨L,b,rfl,B,λp H1 xs rs B1 X1 hp bt r1 g1 l1 l8=>?_⟩
  have pb:p≠b:=B.ne hp
  left
  intro sd C
  have al:sd≠b:=B1.ne C
  have a3:H sd=none:=X1.free C al
  left
  have Ba:qg L (upd H1 sd (.dK [])) b:=B1.put al (B1.neL C)
  refine ⟨L,b,rfl,Ba,λq Hb ys ts Bb Xb hq bs bl a6 da=>?_⟩
  have qb:q≠b:=Ba.ne hq
  have cm:q≠sd:=λz=>by rw [z,j4] at hq;cases hq
  have am:Hb sd=some (.dK []):=Xb _ _ j4 al
  have pB:Hb p=some (.lst xs):=Xb _ _ (by rw [j7 (j1 bt C)];exact bt) pb
  have rB:jV Hb xs rs:=(r1.keep (jo.same (jf.new C))).keep (uj Ba Xb)
  have XB:Ext b H Hb:=(X1.trans (Ext.new C)).trans Xb
  left
  intro g as
  have ch:g≠b:=Bb.ne as
  have ci:H g=none:=XB.free as ch
  have ap:g≠sd:=(j1 am as).symm
  left
  refine ⟨by rw [j7 ap.symm];exact am,[↥27,↥46,(.inr "single",.ref g)],rfl,by show 3<=15;decide,?_⟩
  have sC:jf Hb (upd Hb g (.dK [])):=jf.new as
  have nD:∀{a:Addr} {o:HO},Hb a=some o->a≠sd->↥5 a=some o:=λh n=>by rw [j7 n];exact sC _ _ h
  have dD: ↥5 sd=some (.dK (qW [] [↥27,↥46,(.inr "single",.ref g)])):=j4
  have pD:=nD pB (jm pB am ↥4)
  have rD:jV ↥5 xs rs:=rB.keep λ_ _ h=>nD h (jm h am ↥4)
  have qD:=nD bs cm
  have bn:qM ↥5 ys ts:=bl.imp λ_ _ h=>nD h (jm h am ↥4)
  have bk: ↥5 g=some (.dK []):=by rw [j7 ap];exact j4
  have BD:qg L ↥5 b:=(Bb.same sC).put al (B1.neL C)
  have XD:Ext b H ↥5:=λc o h n=>nD (XB c o h n) (j1 h a3)
  clear nD sC as am pB rB XB bs bl Bb Xb hq Ba
  generalize ↥5=Hd at *
  have Ld:=jZ g1.ok
  left
  refine ⟨p,xs,rs,rfl,pD,rD,Ld,(),λl He bq ws D J w1 hR s1=>?_⟩
  left
  refine ⟨⟨_,SqL.of J⟩,λgl M=>?_⟩
  have a8:bq.length=ws.length:=aZ w1
  have c9:ws.length<=6:=by rw [hR.length];exact g1.heads
  have a9:∀r∈rs,r.2.length<=100:=λr m=>aI (XU g1 r m) ⋯
  have BE:=BD.same s1
  have dn:gl≠b:=BE.ne M
  refine jJ (K:=K) (a:=l) (xs:=bq) (acc:=gl) (λi σ H2=>∃(x:Option V) (zs:List V),σ=[x,some (.ref p)]/\H2 gl=some (.lst zs)/\zs.length=i/\cJ (λv (w:List Int)=>∃a,v=V.ref a/\H2 a=some (.lst (w.map V.int))/\He a=none/\a≠gl) zs ((ws.take i).map (jh rs))/\Ext gl He H2) ?_ ?_ ?_ ?_
  ·exact ⟨none,[],rfl,j4,rfl,.nil,Ext.put⟩
  ·rintro i σ H2 hi ⟨x,zs,rfl,h2,Z,r2,e2⟩
   exact SqL.of (e2 _ _ J (j1 J M))
  ·rintro i v σ H2 hv ⟨x,zs,rfl,h2,Z,r2,e2⟩
   obtain ⟨wy,a5,a,rfl,bv⟩:=Paired.get w1 hv
   have hi:=(List.getElem?_eq_some_iff.mp a5).1
   obtain ⟨x',a4,b2⟩:=hR.mem (aB a5)
   have dk:=e2 _ _ bv (j1 bv M)
   have br:=s1 _ _ pD
   have ec:=ud Ld x' (xw a4)
   have:=xw a4
   left
   refine ⟨p,a,xs,rs,wy,rfl,e2 _ _ br (j1 br M),(rD.keep (jo.same s1)).keep (jo.new e2 M),a9,dk,by rw [b2];exact xM Ld x' (xw a4),by rw [b2];right,λt H3 ht db s3=>?_⟩
   have ta:t≠gl:=(j1 h2 ht).symm
   refine ⟨zs,s3 _ _ h2,jb (),some (.ref a),zs++[.ref t],rfl,j4,by rw [ay,Z];rfl,?_,λc o hc n=>by rw [j7 n];exact s3 _ _ (e2 c o hc n)⟩
   rw [qv (jh rs) ws i wy a5]
   exact cZ (Paired.mapP r2 λv wy ⟨a,e,I,h0,na⟩=>⟨a,e,by rw [j7 na];exact s3 _ _ I,h0,na⟩) ⟨t,rfl,by rw [j7 ta];exact db,e2.free ht ta,ta⟩
  rintro σ H2 ⟨x,zs,rfl,h2,Z,r2,e2⟩
  rw [a8,aX] at r2
  have b1:yz H2 zs (ws.map (jh rs)):=Paired.mapP r2 λv wy ⟨a,e,I,h0,na⟩=>⟨a,e,I⟩
  have zb:V.ref b∉zs:=λz=>by
   obtain ⟨_,a,e,_,h0,_⟩:=pm r2 _ z
   cases e
   exact absurd rfl (BE.ne h0)
  have s2:jf Hd H2:=λc o hc=>e2 _ _ (s1 _ _ hc) (j1 (s1 _ _ hc) M)
  have ed:Hd gl=none:=s1.free M
  left
  refine ⟨sd,_,rfl,wA.k (k:=.inr "grounds") (s2 _ _ dD) (jb (aI (zL _ _) (by show 0+3<=1000;decide))),?_⟩
  rw [put4]
  have nF:∀{a:Addr} {o:HO},H2 a=some o->(∀kvs,o≠.dK kvs)->(upd H2 sd ↥1) a=some o:=λh n=>by rw [j7 (jm h (s2 _ _ dD) (n _))];exact h
  have dF:(upd H2 sd ↥1) sd=some ↥1:=j4
  have pF:=nF (s2 _ _ pD) ↥3
  have qF:=nF (s2 _ _ qD) ↥3
  have rF:jV (upd H2 sd ↥1) xs rs:=rD.keep λ_ _ h=>nF (s2 _ _ h) ↥3
  have bm:qM (upd H2 sd ↥1) ys ts:=bn.imp λ_ _ h=>nF (s2 _ _ h) ↥3
  have gF:=nF h2 ↥3
  have bN:yz (upd H2 sd ↥1) zs (ws.map (jh rs)):=Paired.mapP b1 λv wy ⟨a,e,I⟩=>⟨a,e,nF I ↥3⟩
  have a2:(upd H2 sd ↥1) g=some (.dK []):=by rw [j7 ap];exact s2 _ _ bk
  have BF:qg L (upd H2 sd ↥1) b:=(BD.same s2).put al (B1.neL C)
  have XF:Ext b H (upd H2 sd ↥1):=λc o h n=>by rw [j7 (j1 h a3)];exact s2 _ _ (XD c o h n)
  clear nF b1 s2 h2 r2 e2 BE M s1 w1 J D pD rD qD bn bk BD XD dD a9
  generalize (upd H2 sd ↥1)=Hf at *
  have c4:zs.length<=6:=()
  refine ⟨λσ H5=>∃c,σ=[some (.ref b),some (.ref p),some (.ref sd),none,none]/\ScB L b H H5 sd c/\c.sk=[]/\∀x∈c.lds,x.2=[],?_,?_⟩
  ·left
   refine ⟨sd,.ref gl,rfl,by rw [<- JL p q g gl];exact qA.k (k:=.inr "grounds") dF,?_⟩
   left
   refine ⟨⟨_,SqL.of gF⟩,λle J=>?_⟩
   have cy:le≠b:=BF.ne J
   refine jJ (K:=K) (a:=gl) (xs:=zs) (acc:=le) (λi σ He=>∃(x:Option V) (lds:List ↥108),σ=[x]/\He le=some (.lst (lds.map λx=>V.ref x.1))/\lds.length=i/\(∀x∈lds,He x.1=some (.dK [])/\x.2=[]/\Hf x.1=none/\x.1≠le)/\(lds.map (·.1)).Nodup/\Ext le Hf He) ?_ ?_ ?_ ?_
   ·exact ⟨none,[],rfl,j4,rfl,(λx z=>by cases z),lq,Ext.put⟩
   ·rintro i σ He hi ⟨x,lds,rfl,he,D,R,nn,e⟩
    exact SqL.of (e _ _ gF (j1 gF J))
   ·rintro i v σ He hv ⟨x,lds,rfl,he,D,R,nn,e⟩
    have hi:=(List.getElem?_eq_some_iff.mp hv).1
    left
    intro d aL
    have dl:d≠le:=(j1 he aL).symm
    refine ⟨_,(by rw [j7 (cC dl)];exact he),by rw [aa];exact jb (),some v,lds++[(d,[])],rfl,(by rw [j4,aq];rfl),(by rw [ay,D];rfl),λy hy=>?_,?_,λc o hc n=>?_⟩
    ·rcases List.mem_append.mp hy with z | z
     ·obtain ⟨h1,h2,h3,h4⟩:=R y z
      exact ⟨by rw [j7 h4,j7 (j1 h1 aL)];exact h1,h2,h3,h4⟩
     ·obtain rfl:y=(d,[]):=by simpa using z
      exact ⟨by rw [j7 dl];exact j4,rfl,e.free aL dl,dl⟩
    ·rw [aq]
     refine uV nn λz=>?_
     obtain ⟨y,hy,ey⟩:=List.mem_map.mp z
     have:=(R y hy).1
     rw [ey,aL] at this
     cases this
    ·rw [j7 n,j7 (j1 (e c o hc n) aL)]
     exact e c o hc n
   ·rintro σ He ⟨x,lds,rfl,he,D,R,nn,e⟩
    have T:jf Hf He:=λc o h=>e c o h (j1 h J)
    left
    refine ⟨sd,_,rfl,wA.k (k:=.inr "leaps") (T _ _ dF) (by show 4<sizeLine;decide),?_⟩
    rw [put5]
    have nG:∀{a:Addr} {o:HO},He a=some o->(∀kvs,o≠.dK kvs)->(upd He sd (.dK (scK p q g gl le))) a=some o:=λh n=>by rw [j7 (jm h (T _ _ dF) (n _))];exact h
    have lG:∀x∈lds,(upd He sd (.dK (scK p q g gl le))) x.1=some (.dK (x.2.map kvI)):=λx u=>by
     obtain ⟨h1,h2,h3,h4⟩:=R x u
     rw [j7 (j1 dF h3).symm,h2]
     exact h1
    have bi:(upd He sd (.dK (scK p q g gl le))) g=some (.dK []):=by rw [j7 ap];exact T _ _ a2
    refine ⟨⟨p,q,g,gl,le,xs,ys,zs,rs,ts,ws,[],lds⟩,rfl,⟨⟨j4,nG (T _ _ pF) ↥3,rF.keep λ_ _ h=>nG (T _ _ h) ↥3,nG (T _ _ qF) ↥3,bm.imp λ_ _ h=>nG (T _ _ h) ↥3,nG (T _ _ gF) ↥3,Paired.mapP bN λv wy ⟨a,e,I⟩=>⟨a,e,nG (T _ _ I) ↥3⟩,nG he ↥3,.inl bi,(λz Z=>by cases Z),λx u=>.inl (lG x u)⟩,
     ⟨g1,l1,l8,a6.1,a6.2,da,hR,D.trans (Z.trans a8),nn,λx u=>(j1 a2 (R x u).2.2.1).symm,pb,qb,dn,cy,zb,lq,(λz Z=>by cases Z),aT _,(λx u=>by rw [(R x u).2.1];exact lq),(λx u=>by rw [(R x u).2.1];intro z Z;cases Z),(λx u=>by rw [(R x u).2.1];exact aT _)⟩,bi,lG,(BF.same T).put al (B1.neL C),λc o h n=>?_,ci,λx u=>?_⟩,rfl,λx u=>(R x u).2.1⟩
    ·rw [j7 (j1 h a3)]
     exact T _ _ (XF c o h n)
    ·exact XF.free (R x u).2.2.1 (BF.ne (R x u).2.2.1)
  rintro σ H5 ⟨c,rfl,S5,k5,l5⟩
  clear dF pF qF rF bm gF bN a2 BF XF zb a8 c9 Z c4
  refine ⟨λσ H6=>∃(x:Option V) (c:ScN),σ=[some (.ref b),some (.ref p),some (.ref sd),x,none]/\ScB L b H H6 sd c/\∀x∈c.lds,x.2=[],?_,?_⟩
  ·left
   refine ⟨by show 3<=sizeLine;decide,λl6 H6 dg cb s6=>?_⟩
   have S6:=S5.same s6
   have c1:l6≠b:=S5.B.ne dg
   left
   refine ⟨L,b,_,rfl,S6.B,⟨⋯,⋯⟩,λv7 H7 p7 q7 B7 X7=>?_⟩
   have S7:=S6.take B7 X7
   obtain ⟨n,hn,n0,n1⟩:=Vr p7 q7
   refine ⟨_,_,_,_,rfl,rfl,SqL.of (X7 _ _ cb c1),hn,?_⟩
   left
   refine ⟨L,b,_,rfl,S7.B,⟨n0,()⟩,λv8 H8 p8 q8 B8 X8=>?_⟩
   have S8:=S7.take B8 X8
   left
   refine ⟨(),(),?_⟩
   refine xk (λi σ H2=>∃(x:Option V) (c:ScN),σ=[some (.ref b),some (.ref p),some (.ref sd),x,none]/\ScB L b H H2 sd c/\c.sk.length<=i/\∀x∈c.lds,x.2=[]) ?_ ?_ ?_
   ·exact ⟨none,c,rfl,S8,by rw [k5];exact ar _,l5⟩
   ·rintro i σ H2 hi ⟨x,c,rfl,S,hk,D⟩
    left
    refine ⟨L,b,rfl,S.B,λt H9 r B9 X9 ht hg=>?_⟩
    have S9:=S.take B9 X9
    left
    refine ⟨sd,.ref c.sg,rfl,by rw [<- xX c.p c.q c.sg c.gl c.ll];exact qA.k (k:=.inr "single") S9.S.sd,?_⟩
    left
    refine ⟨L,b,rfl,S9.B,λy dt y0 y1 bd a0=>?_⟩
    have an:=S9.take bd a0
    refine ⟨c.sg,_,rfl,wA.k (k:=.inl y) an.r1 (by rw [aa];exact jb (by have:=an.O.k3;right)),?_⟩
    exact ⟨_,{ c with sk:=xF c.sk y t },rfl,an.single y0 y1 (a0 _ _ ht (S9.B.ne_tup ht)) hg (),aI (vO _ _ _) (),D⟩
   ·rintro σ H2 ⟨x,c,rfl,S,hk,D⟩
    exact ⟨x,c,rfl,S,D⟩
  clear S5 k5 l5
  rintro σ H6 ⟨x,c,rfl,S6,l6⟩
  left
  refine ⟨by show 3<=sizeLine;decide,λl7 H7 dd ca s7=>?_⟩
  have S7:=S6.same s7
  have cL:l7≠b:=S6.B.ne dd
  left
  refine ⟨L,b,_,rfl,S7.B,⟨⋯,⋯⟩,λv8 H8 p8 q8 B8 X8=>?_⟩
  have S8:=S7.take B8 X8
  obtain ⟨n,hn,n0,n1⟩:=Vt p8 q8
  refine ⟨_,_,_,_,rfl,rfl,SqL.of (X8 _ _ ca cL),hn,?_⟩
  left
  refine ⟨L,b,_,rfl,S8.B,⟨n0,()⟩,λv9 H9 p9 q9 B9 X9=>?_⟩
  have S9:=S8.take B9 X9
  left
  refine ⟨(),(),?_⟩
  refine xk (λi σ H2=>∃(x y:Option V) (c:ScN),σ=[some (.ref b),some (.ref p),some (.ref sd),x,y]/\ScB L b H H2 sd c/\∀x∈c.lds,x.2.length<=i) ?_ ?_ ?_
  ·exact ⟨x,none,c,rfl,S9,λx u=>by rw [l6 x u];exact ar _⟩
  ·rintro i σ H2 hi ⟨x,y',c,rfl,S,D⟩
   have eb:1<=c.ws.length:=by
    rw [S.O.ro.length]
    exact gq (jZ S.O.gr.ok) S.O.l1
   have d3:c.zs.length=c.ws.length:=(aZ S.S.gi).trans (aa _)
   have ea:c.ws.length<=6:=by rw [S.O.ro.length];exact S.O.gr.heads
   left
   refine ⟨sd,.ref c.gl,rfl,by rw [<- yl c.p c.q c.sg c.gl c.ll];exact qA.k (k:=.inr "grounds") S.S.sd,?_⟩
   left
   refine ⟨c.gl,_,rfl,.inl (SqL.of S.S.gl),?_⟩
   left
   refine ⟨L,b,_,rfl,S.B,⟨(),()⟩,λln dt ct d2 bd a0=>?_⟩
   have an:=S.take bd a0
   left
   refine ⟨by show 2<=sizeLine;decide,λc2 ek cd be cl=>?_⟩
   have b6:=an.same cl
   have b9:c2≠b:=an.B.ne cd
   left
   refine ⟨L,b,_,rfl,b6.B,⟨⋯,⋯⟩,λdV ej cs cr dT b3=>?_⟩
   have b5:=b6.take dT b3
   obtain ⟨n,hn,n0,n1⟩:=WB cs cr
   refine ⟨_,_,_,_,rfl,rfl,SqL.of (b3 _ _ be b9),hn,?_⟩
   left
   refine ⟨L,b,_,rfl,b5.B,⟨n0,()⟩,λce ei d1 d0 dy ds=>?_⟩
   have a1:=b5.take dy ds
   left
   have dc:ln.toNat<c.lds.length:=by rw [S.O.ldl];right
   obtain ⟨⟨a,ns⟩,I⟩:∃z,c.lds[ln.toNat]? = some z:=⟨_,ae dc⟩
   refine ⟨sd,.ref c.ll,rfl,by rw [<- vQ c.p c.q c.sg c.gl c.ll];exact qA.k (k:=.inr "leaps") a1.S.sd,?_⟩
   left
   refine ⟨_,_,_,_,rfl,rfl,SqL.of a1.S.ll,qO ct (v:=V.ref a) (by rw [aw,I];rfl),?_⟩
   left
   refine ⟨L,b,rfl,a1.B,λy eh y0 y1 dx dp=>?_⟩
   have b4:=a1.take dx dp
   have a7:=D _ (aB I)
   refine ⟨a,_,rfl,wA.k (k:=.inl y) (b4.r2 _ (aB I)) (by rw [aa];exact jb (by have:ns.length<=i:=a7;right)),?_⟩
   have a7:ns.length<=i:=a7
   refine ⟨_,_,{ c with lds:=c.lds.set ln.toNat (a,xF ns y (1+ce)) },rfl,b4.leap I y0 y1 () () (),λx u=>?_⟩
   rcases uc S.O.nd I u with z | ⟨z,_⟩
   ·subst z
    exact aI (vO _ _ _) ()
   ·exact Nat.le_succ_of_le (D x z)
  ·rintro σ H2 ⟨x,y',c,rfl,S,D⟩
   left
   exact k sd H2 c S.B S.X S.S S.O
theorem IceNew.made {p dx:Addr}{H:Hp}(j:H p=none) (G:H dx=none) (I:IceNew C Pt (upd (upd H dx o) p o') H' p g):IceNew C Pt H H' p g:=by
 have s:jf H (upd (upd H dx o) p o'):=λc u h=>by rw [j7 (j1 h j),j7 (j1 h G)];exact h
 exact ⟨I.at_,λc u h n m=>I.keep c u (s c u h) n m,s.free I.va,s.free I.cy,s.free I.sl,s.free I.ye,s.free I.le,λa z=>s.free (I.zs a z),I.kvs,λx b=>⟨s.free (I.lds x b).1,(I.lds x b).2⟩,I.ll,I.nd,I.ny,I.sl2⟩
structure IceFr (H:Hp) (p:Addr) (g:IceG):Prop where
 p:H p=none
 va:H g.va=none
 cy:H g.cy=none
 sl:H g.sl=none
 ye:H g.ye=none
 le:H g.le=none
 zs:∀a,V.ref a∈g.zs->H a=none
 lds:∀x∈g.lds,H x.1=none
theorem IceAt.stay {p:Addr}{j:Hp}(I:IceAt C H2 p g) (F:IceFr H p g) (f:∀a o,H2 a=some o->H a=none->j a=some o) (t:jo H2 j):IceAt C j p g :=
 ⟨f _ _ I.ob F.p,f _ _ I.va F.va,I.rs.keep t,f _ _ I.cy F.cy,I.rows.imp λ_ _ q=>t _ _ q,f _ _ I.sl F.sl,pmM I.slopes λv d w ⟨a,c,q⟩=>⟨a,c,f _ _ q (F.zs a (c ▸ d))⟩,f _ _ I.ye F.ye,f _ _ I.le F.le,λx b=>f _ _ (I.lds x b) (F.lds x b)⟩
theorem Fr3.ext {N:Addr->Prop}(f:Fr3 N M H H2) (e:Ext a H2 H3) (j:H a=none):Fr3 N M H H3:=λc o h n=>by
 have b:c≠a:=j1 h j
 rcases f c o h n with q | ⟨m,d,kvs,g,q⟩
 ·exact .inl (e _ _ q b)
 ·exact .inr ⟨m,d,kvs,g,e _ _ q b⟩
theorem Fr3.same {N:Addr->Prop}(f:Fr3 N M H H2) (e:jf H2 H3):Fr3 N M H H3:=λc o h n=>by
 rcases f c o h n with q | ⟨m,a,kvs,b,q⟩
 ·exact .inl (e _ _ q)
 ·exact .inr ⟨m,a,kvs,b,e _ _ q⟩
theorem Fr3.frz {N:Addr->Prop}{j:Obj}{kvs:List (Key×V)}(f:Fr3 N M H H2) (h:H2 a=some (.dK kvs)) (m:M a):Fr3 N M H (upd H2 a (.frz j (.dK kvs))):=λc o b n=>by
 by_cases e:c=a
 ·subst e
  rcases f c o b n with q | ⟨_,g,d,i,q⟩
  ·rw [h] at q
   cases q
   exact .inr ⟨m,j,kvs,rfl,j4⟩
  ·rw [h] at q
   cases q
 ·rw [j7 e]
  exact f c o b n
theorem Zx {H:Hp}(h:H a=some (.dK kvs)):jo H (upd H a (.frz j (.dK kvs))):=λc xs q=>by rw [j7 (jm q h ↥4)];exact q
theorem Vj (T:qx H Pt) (h:H a=some (.dK kvs)):qx (upd H a (.frz j (.dK kvs))) Pt:=by
 rcases T with q | ⟨c,q,b⟩
 ·exact .inl (by rw [j7 (jm q h ↥4)];exact q)
 ·exact .inr ⟨c,by rw [j7 (jm q h ↥4)];exact q,by rw [j7 (jm b h ↥4)];exact b⟩
theorem Jw (T:qx H Pt) (h:H a=some (.dK kvs)) (e:Ext a H H'):qx H' Pt:=by
 rcases T with q | ⟨c,q,b⟩
 ·exact .inl (e _ _ q (jm q h ↥4))
 ·exact .inr ⟨c,e _ _ q (jm q h ↥4),e _ _ b (jm b h ↥4)⟩
theorem Us {ns:List (Int×Addr)}{i:Nat}(h:(ns.map kvA)[i]? = some q):∃z,ns[i]? = some z/\q=kvA z:=by
 rw [aw] at h
 cases e:ns[i]? with
 | none=>rw [e] at h;cases h
 | some z=>rw [e] at h;cases h;exact ⟨z,rfl,rfl⟩
theorem hU:∀{ns:List (Int×Addr)},(ns.map (·.1)).Nodup->∀{z:Int×Addr},z∈ns->qe (ns.map kvA) (.inl z.1)=some (.ref z.2)
 | [],_,z,h=>by cases h
 | q::r,a,z,h=>by
  rw [aO] at a
  obtain ⟨h1,h2⟩:=List.nodup_cons.mp a
  rw [aO]
  rcases List.mem_cons.mp h with e | e
  ·subst e
   exact xx
  ·have ne:¬q.1=z.1:=λw=>h1 (by rw [w];exact bf e)
   show qe ((.inl q.1,.ref q.2)::r.map kvA) (.inl z.1)=_
   rw [js (λw=>ne (ff w))]
   exact hU h2 e
theorem YU {α:Type}{l:List (Int×α)}{y:Int}{a:α}(h:y∉l.map (·.1)):xF l y a=l++[(y,a)]:=by
 unfold xF
 rw [if_neg]
 intro z
 obtain ⟨u,b,e⟩:=List.any_eq_true.mp z
 exact h (of_decide_eq_true e ▸ bf b)
theorem Xq {α:Type}{l:List (Int×α)}(G:(l.map (·.1)).Nodup) {i:Nat}{z:Int×α}(h:l[i]? = some z):z.1∉(l.take i).map (·.1):=λm=>by
 obtain ⟨hi,e⟩:=List.getElem?_eq_some_iff.mp h
 obtain ⟨u,b,d⟩:=List.mem_map.mp m
 obtain ⟨j,c,a⟩:=List.mem_iff_getElem.mp b
 rw [aE] at c
 rw [oZ] at a
 have h1:(l.map (·.1))[j]'(by rw [aa];right)=(l.map (·.1))[i]'(by rw [aa];exact hi):=by rw [eI,eI,a,e,d]
 exact absurd h1 (List.pairwise_iff_getElem.mp G j i _ _ ())
theorem Qs {α:Type}{f:α->V}{l:List (Int×α)}(j:(l.map (·.1)).Nodup) {i:Nat}{z:Int×α}(h:l[i]? = some z):qE ((l.take i).map λz=>↥55) (.inl z.1) (f z.2)=(l.take (i+1)).map λz=>↥55:=by
 rw [wC f,YU (Xq j h),ba,h]
 rfl
structure LdN (g0:List ↥47) (cl:List ↥108) (i n:Nat) (lds:List ↥47):Prop where
 fst:lds.map (·.1)=g0.map (·.1)
 at_:∀j x,lds[j]? = some x->∃y,cl[j]? = some y/\x.2=(if j<i then y.2 else if j=i then y.2.take n else []).map kvI
theorem LdN.len {j:List ↥47}{G:List ↥108}{i n:Nat}(h:LdN z G i n j):j.length=z.length:=by
 have:=congrArg mP h.fst
 rwa [aa,aa] at this
theorem LdN.next {lds:List ↥47}{z:List ↥108}{i n:Nat}(h:LdN Y z i n lds) (G:z[i]? = some y) (U:y.2.length<=n):LdN Y z (i+1) 0 lds:=⟨h.fst,λj x d=>by
 obtain ⟨u,c,e⟩:=h.at_ j x d
 refine ⟨u,c,?_⟩
 rw [e]
 by_cases a:j<i
 ·rw [if_pos a,if_pos ()]
 ·rw [if_neg a]
  by_cases b:j=i
  ·subst b
   rw [G] at c
   cases c
   rw [if_pos rfl,if_pos (),bw U]
  ·rw [if_neg b,if_neg ()]
   split
   ·rfl
   ·rfl⟩
theorem LdN.put {G:List ↥47}{Y:List ↥108}{i n:Nat}{a:Addr}{kvs:List (Key×V)}(h:LdN g0 Y i n G) (hy:Y[i]? = some y) (nd:(y.2.map (·.1)).Nodup) (hz:y.2[n]? = some z) (U:G[i]? = some (a,kvs)):LdN g0 Y i (n+1) (yD G i (qE kvs (.inl z.1) (.int z.2))):=by
 obtain ⟨u,g,e⟩:=h.at_ i _ U
 rw [hy] at g
 cases g
 rw [if_neg (cw i),if_pos rfl] at e
 have k:qE kvs (.inl z.1) (.int z.2)=(y.2.take (n+1)).map kvI:=by
  rw [show kvs=(y.2.take n).map kvI from e]
  exact Qs (f:=V.int) nd hz
 refine ⟨?_,λj x d=>?_⟩
 ·rw [<- h.fst]
  unfold yD
  rw [aj,U]
  exact XN U
 ·unfold yD at d
  rw [i7] at d
  by_cases b:i=j
  ·subst b
   rw [if_pos rfl,if_pos (List.getElem?_eq_some_iff.mp U).1] at d
   cases d
   exact ⟨y,hy,by rw [if_neg (cw i),if_pos rfl];exact k⟩
  ·rw [if_neg b] at d
   obtain ⟨u,g,e⟩:=h.at_ j x d
   refine ⟨u,g,?_⟩
   rw [e]
   by_cases c:j<i
   ·rw [if_pos c,if_pos c]
   ·rw [if_neg c,if_neg c,if_neg (λq=>b q.symm),if_neg (λq=>b q.symm)]
theorem ScAt.fr {Pt sd:Addr}{H H':Hp}{c:ScN}(S:ScAt H sd c) (T:qx H Pt) (f:Fr3 (λa=>a=Pt) c.D H H'):ScAt H' sd c:=by
 obtain ⟨ps,g⟩:=T.ne
 have n:∀{a:Addr} {o:HO},H a=some o->(∀ps,o≠.tbl ps)->¬a=Pt:=λh q=>jm h g (q _)
 have b:∀{a:Addr} {kvs:List (Key×V)},Rd H a (.dK kvs)->¬a=Pt:=λh=>by
  rcases h with h | ⟨o,h⟩
  ·exact n h ↥3
  ·exact n h ↥3
 exact S.keep f (λa xs h=>n h ↥3) (n S.sd ↥3) S.nD (n S.p ↥3) (n S.q ↥3) (n S.gl ↥3) (n S.ll ↥3) (λa h=>by
  obtain ⟨w,i,e,q⟩:=pm S.gi _ h
  cases e
  exact n q ↥3) (b S.sg) λx d=>b (S.ld x d)
theorem ScAt.inD {sd:Addr}(S:ScAt H sd c) (h:c.D a):∃o,H a=some o:=by
 have r:∃kvs,Rd H a (.dK kvs):=by
  rcases h with h | ⟨x,b,e⟩
  ·exact ⟨_,h ▸ S.sg⟩
  ·exact ⟨_,e ▸ S.ld x b⟩
 obtain ⟨_,r | ⟨o,r⟩⟩:=r
 ·exact ⟨_,r⟩
 ·exact ⟨_,r⟩
theorem Y5 (f:Fz a kvs o H H4):jo H H4:=λc xs q=>by
 rcases f.2 with rfl | ⟨h,rfl⟩
 ·exact q
 ·exact Zx h c xs q
theorem WL (f:Fz a kvs o H2 H4) (r:Fr3 N M H H2) (m:M a):Fr3 N M H H4:=by
 rcases f.2 with rfl | ⟨h,rfl⟩
 ·exact r
 ·exact r.frz h m
theorem Uf (f:Fz a kvs o H j) (T:qx H Pt):qx j Pt:=by
 rcases f.2 with rfl | ⟨h,rfl⟩
 ·exact T
 ·exact Vj T h
structure MdI (C Pt p:Addr) (c:ScN) (H H2:Hp) (g:IceG):Prop where
 I:IceAt C H2 p g
 F:IceFr H p g
 R:Fr3 (λa=>a=Pt) c.D H H2
 T:qx H2 Pt
theorem MdI.frz {p j:Addr}{kvs:List (Key×V)}(M:MdI C Pt p c H H2 g) (S:ScAt H j c) (h:c.D a) (f:Fz a kvs o H2 z):MdI C Pt p c H z g:=by
 obtain ⟨_,e⟩:=S.inD h
 exact ⟨M.I.stay M.F (λb u d n=>f.at d (j1 e n).symm) (Y5 f),M.F,WL f M.R h,Uf f M.T⟩
theorem MdI.same {p:Addr}(M:MdI C Pt p c H H2 g) (s:jf H2 j):MdI C Pt p c H j g:=⟨M.I.same s,M.F,M.R.same s,M.T.same s⟩
theorem LdN.mem {z j:List ↥47}{U:List ↥108}{i n:Nat}(h:LdN z U i n j) {x:Addr×List (Key×V)}(G:x∈j):∃y∈z,y.1=x.1:=by
 have:x.1∈z.map (·.1):=h.fst ▸ bf G
 obtain ⟨y,a,e⟩:=List.mem_map.mp this
 exact ⟨y,a,e⟩
inductive spMade (C Pt:Addr) (vs:List V) (H:Hp) (Q:VK) (z_3:XK):Prop
 | mk (sd b:Addr) (c:ScN) (_:vs=[.ref sd]) (_:ScAt H sd c) (_:ScOk b c) (_:qx H Pt) (_:∀p H' g,IceAt C H' p g->IceFr H p g->Fr3 (λa=>a=Pt) c.D H H'->qx H' Pt->g.rs=c.rs->g.rows=c.ts->g.slopes=c.ws.map (jh c.rs)->g.kvs=c.sk.map kvA->g.lds.length=c.lds.length->(∀(l:Nat) x,g.lds[l]? = some x->∃y,c.lds[l]? = some y/\x.2=y.2.map kvI)->(∀x∈g.lds,x.1≠g.ye)->(g.lds.map (·.1)).Nodup->Q (.ref p) H')
theorem xm:FnScope ["_law_scene_here","_law_ice","_law_year_here","_law_lane","_law_leaps"] ["_law_scene_here"] (j8 vB):=by walk_at "s"
theorem V9 {CR:Addr}(nb:Nb2 mg) (ac:Cls K C) (aL:MakX P w K mg base 8 C "Ice" ["self","reaches","rows"] (spInit C CV CR Pt)) (Y:CalMX P w K mg base 2 C "tell" ["self","year","row"] (spTell C CY CW)) (U:CalMX P w K mg base 2 C "surge" ["self","lane","year","many"] (spSurge C CN CY CS)) (F:Fun K "_law_made" "_law_made" vB f fd):FnOk P w K mg base CX0 10 f fd ["_law_scene_here"] (spMade C Pt):=by
 refine F.ok xm ↥58 (λbt A outer s H vs Q E J h=>?_)
 ·obtain ⟨N,b,c,rfl,_⟩:=h
  rfl
 ·obtain ⟨N,b,c,rfl,S,O,T,k⟩:=h
  refine ⟨_,(j6 (jz 1 xm.nd (Vw aL (J.mono ⋯) J9 rfl (j0 (qd (qw K) rfl nb.b_list bY (j0 ↥98 j2)) (j0 (qd (qw K) rfl nb.b_list bY (j0 ↥98 j2)) j2))))
   (j6 (qK bj rfl (w5 ↥98) (jc (i:=2) xm.nd rfl (aU rfl)) (j9 (jU (zU (pv 1) ac Y (J.mono ⋯) J9 (j0 (pv 2) (j0 (jw (jM J) ↥98 (pv 2) (λ_ _=>rfl)) j2))))))
   (j6 (qK bj rfl (ua K rfl nb.b_enumerate (j0 ↥98 j2)) (qt (n:=2) K rfl (jn (jc (i:=3) xm.nd rfl (aU rfl)) (jn (jc (i:=4) xm.nd rfl (aU rfl)) qu))) (j9 (qK bj rfl (w5 (pv 4)) (jc (i:=2) xm.nd rfl (aU rfl)) (j9 (jU (zU (pv 1) ac U (J.mono ⋯) J9 (j0 (pv 3) (j0 (pv 2) (j0 (jw (jM J) (pv 4) (pv 2) (λ_ _=>rfl)) j2)))))))))
   (j9 (jj (pv 1)))))),?_⟩
  left
  refine ⟨N,.ref c.p,rfl,by rw [<- QG c.p c.q c.sg c.gl c.ll];exact qA.k (k:=.inr "reaches") S.sd,?_⟩
  refine ⟨_,_,rfl,.inl (SqL.of S.p),λl1 H1 bq as s1=>?_⟩
  have S1:=S.same s1
  left
  refine ⟨N,.ref c.q,rfl,by rw [<- w9 c.p c.q c.sg c.gl c.ll];exact qA.k (k:=.inr "rows") S1.sd,?_⟩
  refine ⟨_,_,rfl,.inl (SqL.of S1.q),λl2 H2 bn ap s2=>?_⟩
  have S2:=S1.same s2
  have G:=s1.trans s2
  left
  intro p dx hp hd bs
  have s3:jf H2 (upd (upd H2 dx (.own p)) p (.ins C dx [])):=λc u h=>by rw [j7 (j1 h hp),j7 (j1 h hd)];exact h
  have S3:=S2.same s3
  have bm:gr c.ts=true:=by
   have:=O.t1
   have:=O.t2
   unfold gr
   rw [decide_eq_true (),O.tg]
   rfl
  have eg:=O.gr.good O.l1 O.l8
  refine ⟨p,dx,l1,l2,c.xs,c.ys,c.rs,c.ts,rfl,j4,s3 _ _ (s2 _ _ as),S3.rv,s3 _ _ ap,S3.r3,λr J=>aI (XU O.gr r J) ⋯,aI O.l8 ⋯,aI O.t2 ⋯,(T.same G).same s3,λH4 g _ _ I e1 e2 e3 e4 T4=>?_,(λH' z _ _=>by rw [eg] at z;cases z),(λH' _ z _ _=>by rw [bm] at z;cases z)⟩
  have I:=I.made hp hd
  obtain ⟨ws,hR,ai⟩:=I.sl2
  rw [e1] at hR ai
  obtain rfl:=hR.unique O.ro
  have d:IceFr H p g:=⟨G.free hp,G.free I.va,G.free I.cy,G.free I.sl,G.free I.ye,G.free I.le,λa z=>G.free (I.zs a z),λx B=>G.free (I.lds x B).1⟩
  have M4:MdI C Pt p c H H4 g:=⟨I.at_,d,λa o h n=>.inl (I.keep a o (G _ _ h) (j1 h d.p) n),T4⟩
  have a1:g.lds.length=c.lds.length:=by rw [I.ll,ai,aa,O.ldl]
  have a0:=I.nd
  have al:=I.ny
  have a7:=I.kvs
  have a6:∀x∈g.lds,x.2=[]:=λx B=>(I.lds x B).2
  clear I S3 s3 S2 ap as S1 T4
  refine ⟨rfl,?_⟩
  have S4:=S.fr T M4.R
  left
  refine ⟨N,.ref c.sg,rfl,by rw [<- xX c.p c.q c.sg c.gl c.ll];exact qA.k (k:=.inr "single") S4.sd,?_⟩
  have an:c.D c.sg:=.inl rfl
  refine gA (kvs:=c.sk.map kvA) S4.sg (λo i σ H5=>∃x:Option V,σ=[some (.ref N),some (.ref p),x,none,none]/\H5 c.sg=some (.frz o (.dK (c.sk.map kvA)))/\MdI C Pt p c H H5 { g with kvs:=(c.sk.take i).map kvA }) ?_ ?_ ?_ ?_
  ·intro o H5 f5
   refine ⟨none,rfl,f5.1,?_⟩
   have:=M4.frz S an f5
   have e:g={ g with kvs:=(c.sk.take 0).map kvA }:=by
    show g={ g with kvs:=[] }
    rw [<- a7]
   rw [<- e]
   exact this
  ·rintro o i σ H5 hi ⟨x,rfl,h5,L⟩
   exact h5
  ·rintro o i u σ H5 hq ⟨x,rfl,h5,L⟩
   obtain ⟨z,hz,rfl⟩:=Us hq
   have X:=aB hz
   have hi:i<c.sk.length:=(List.getElem?_eq_some_iff.mp hz).1
   have bl:=O.k3
   have S5:=S.fr T L.R
   obtain ⟨r,bd,bi⟩:=S5.sk z X
   obtain ⟨y0,y1⟩:=O.k2 z X
   show uf 2 (V.int z.1) _ _ _
   left
   refine ⟨p,g.dx,_,rfl,L.I.ob,qo ∅,?_⟩
   left
   refine ⟨N,.ref c.sg,rfl,by rw [<- xX c.p c.q c.sg c.gl c.ll];exact qA.k (k:=.inr "single") S5.sd,?_⟩
   left
   refine ⟨c.sg,.ref z.2,rfl,(by rw [<- hU O.k1 X];exact .inl ⟨_,.inl z.1,.inr ⟨o,h5⟩,rfl,rfl⟩),?_⟩
   refine ⟨p,z.2,_,z.1,r,rfl,L.I,al,bd,(by rw [aa,aE];right),λH6 _ _ _ X6 I6=>?_,λM=>absurd M (),λ_ _ M=>by rw [bi] at M;cases M⟩
   have e:qE ((c.sk.take i).map kvA) (.inl z.1) (.ref z.2)=(c.sk.take (i+1)).map kvA:=Qs (f:=V.ref) O.k1 hz
   obtain ⟨_,a5⟩:=S.inD an
   refine ⟨_,rfl,X6 _ _ h5 (j1 a5 d.ye),?_⟩
   rw [<- e]
   exact ⟨I6,⟨d.p,d.va,d.cy,d.sl,d.ye,d.le,d.zs,d.lds⟩,L.R.ext X6 d.ye,Jw L.T L.I.ye X6⟩
  ·rintro o σ H5 ⟨x,rfl,h5,L⟩
   rw [aa,aX] at L
   have S5:=S.fr T L.R
   left
   refine ⟨N,.ref c.ll,rfl,by rw [<- vQ c.p c.q c.sg c.gl c.ll];exact qA.k (k:=.inr "leaps") S5.sd,?_⟩
   left
   refine ⟨⟨_,SqL.of S5.ll⟩,?_⟩
   refine wz (K:=K) (a:=c.ll) (xs:=c.lds.map λx=>V.ref x.1) (λi σ H6=>∃(x y z:Option V) (lds:List ↥47),σ=[some (.ref N),some (.ref p),x,y,z]/\MdI C Pt p c H H6 { g with kvs:=c.sk.map kvA,lds:=lds }/\LdN g.lds c.lds i 0 lds) ?_ ?_ ?_ ?_
   ·refine ⟨x,none,none,g.lds,rfl,L,rfl,λj x B=>?_⟩
    have hj:=(List.getElem?_eq_some_iff.mp B).1
    obtain ⟨y,m⟩:∃y,c.lds[j]? = some y:=⟨_,ae ()⟩
    refine ⟨y,m,?_⟩
    rw [a6 x (aB B),if_neg (mF _)]
    split <;> rfl
   ·rintro i σ H6 hi ⟨x,y,z,lds,rfl,M6,L6⟩
    exact SqL.of (S.fr T M6.R).ll
   ·rintro i v σ H6 t hv ⟨x,y,z,lds,rfl,M6,L6⟩ ht
    rw [aw] at hv
    obtain ⟨⟨a,ns⟩,m,ev⟩:=Option.map_eq_some_iff.mp hv
    subst ev
    have M7:=M6.same (jf.new (o:=.tup [.int i,.ref a]) ht)
    left
    refine ⟨t,_,rfl,SqT.of j4,rfl,?_⟩
    refine ⟨_,_,rfl,_,_,rfl,rfl,?_⟩
    left
    clear M6
    generalize upd H6 t (.tup [.int i,.ref a])=H7 at *
    have S7:=S.fr T M7.R
    have X:=aB m
    have a2:c.D a:=.inr ⟨_,X,rfl⟩
    obtain ⟨_,bk⟩:=S.inD a2
    refine gA (kvs:=ns.map kvI) (S7.ld _ X) (λo n σ H8=>∃(x:Option V) (lds:List ↥47),σ=[some (.ref N),some (.ref p),x,some (.int i),some (.ref a)]/\H8 a=some (.frz o (.dK (ns.map kvI)))/\MdI C Pt p c H H8 { g with kvs:=c.sk.map kvA,lds:=lds }/\LdN g.lds c.lds i n lds) ?_ ?_ ?_ ?_
    ·intro o H8 f8
     exact ⟨x,lds,rfl,f8.1,M7.frz S a2 f8,L6⟩
    ·rintro o n σ H8 hn ⟨x,lds,rfl,h8,Z,L8⟩
     exact h8
    ·clear L6 M7 S7
     rintro o n u σ H8 hq ⟨x,lds,rfl,h8,Z,L8⟩
     obtain ⟨z,hz,rfl⟩:=QI hq
     have am:=aB hz
     obtain ⟨y0,y1,m0,m1⟩:=O.m2 _ X z am
     have be:=L8.len
     have br:i<lds.length:=by
      have:=(List.getElem?_eq_some_iff.mp m).1
      right
     have a8:g.slopes.length=lds.length:=by rw [ai,aa,be,a1,O.ldl]
     show uf 2 (V.int z.1) _ _ _
     left
     refine ⟨p,g.dx,_,rfl,Z.I.ob,qo ∅,?_⟩
     left
     refine ⟨a,.int z.2,rfl,(by rw [<- yX (O.m1 _ X) am,<- xY ns z.1 (bf am)];exact .inl ⟨_,.inl z.1,.inr ⟨o,h8⟩,rfl,rfl⟩),?_⟩
     refine ⟨p,_,(i:Int),z.1,z.2,rfl,Z.I,a8.symm,(λx B=>by obtain ⟨y,m,e⟩:=L8.mem B;rw [<- e];exact al y m),(by show (lds.map (·.1)).Nodup;rw [L8.fst];exact a0),(λx B=>?_),λH9 a9 a4 _ _ _ _ _ _ ab X9 I9=>?_,(λM=>absurd M (by show ¬((i:Int)<0\/ ↥15<=i);right)),(λ_ _ M=>absurd M ()),λ_ _ _ _ M=>absurd M ()⟩
     ·obtain ⟨j,hj,ex⟩:=List.mem_iff_getElem.mp B
      obtain ⟨y,m,e⟩:=L8.at_ j x (by rw [ae hj,ex])
      have bl:=O.m3 y (aB m)
      rw [e,aa]
      split
      ·right
      ·split
       ·rw [aE];right
       ·exact aT _
     ·have ab:lds[i]? = some (a9,a4):=ab
      have L9:=L8.put m (O.m1 _ X) hz ab
      have a3:H a9=none:=Z.F.lds _ (aB ab)
      refine ⟨_,_,rfl,X9 _ _ h8 (j1 bk a3),⟨I9,⟨d.p,d.va,d.cy,d.sl,d.ye,d.le,d.zs,λx B=>?_⟩,Z.R.ext X9 a3,Jw Z.T (Z.I.lds _ (aB ab)) X9⟩,L9⟩
      obtain ⟨y,m,e⟩:=L9.mem B
      rw [<- e]
      exact d.lds y m
    ·rintro o σ H8 ⟨x,lds,rfl,h8,Z,L8⟩
     exact ⟨x,_,_,lds,rfl,Z,L8.next m (by rw [aa];exact ar _)⟩
   ·rintro σ H6 ⟨x,y,z,lds,rfl,M6,L6⟩
    left
    refine k p H6 _ M6.I M6.F M6.R M6.T e1 e2 ai rfl (L6.len.trans a1) (λl x B=>?_) (λx B=>?_) (by show (lds.map (·.1)).Nodup;rw [L6.fst];exact a0)
    ·obtain ⟨y,m,e⟩:=L6.at_ l x B
     refine ⟨y,m,?_⟩
     rw [e,if_pos (by rw [aa];exact (List.getElem?_eq_some_iff.mp m).1)]
    ·obtain ⟨y,m,e⟩:=L6.mem B
     rw [<- e]
     exact al y m
theorem JS (h:zB rs=true):1<=rs.length/\rs.length<=8/\ul rs=true/\∀ws,jW rs ws->∀w∈ws,(jh rs w).length<=30:=by
 unfold zB at h
 rw [bz,bz,bz] at h
 obtain ⟨h1,h2,_,d⟩:=h
 have h1:=of_decide_eq_true h1
 refine ⟨(),(),h2,λws c w b=>?_⟩
 obtain ⟨x,a,e⟩:=c.mem b
 have:=of_decide_eq_true (List.all_eq_true.mp d x a)
 have g:=wF rs w
 rw [<- e] at this
 right
theorem Qz (G:Grown rs) {ws:List (List Int)}(R:jW rs ws) {w:List Int}(j:w∈ws):1<=(jh rs w).length:=by
 obtain ⟨x,b,e⟩:=R.mem j
 have a:=xw b
 have o:=gK G.ok (ae a)
 unfold okR at o
 rw [bz,bz] at o
 have o:=of_decide_eq_true o.1.2
 have c:zK rs ((x:Int)).toNat=(rs[x]'a).2:=by
  unfold zK
  rw [aW,aj,ae a]
  rfl
 rw [e,zI (jZ G.ok) a]
 unfold jh
 rw [aO,cE,ay,c]
 right
theorem Vo (B:qg L j b) (e:Ext b j z) (T:qx j Pt):qx z Pt:=by
 obtain ⟨ns,a,r,c,d,h1,_⟩:=B
 exact T.ext h1 e
structure Lw (C L b sd p:Addr) (c:ScN) (g:IceG) (H0 H:Hp):Prop where
 B:qg L H b
 S:ScAt H sd c
 I:IceAt C H p g
 O:ScOk b c
 F:IceFr H0 p g
 B0:qg L H0 b
 S0:ScAt H0 sd c
theorem Lw.same {b j p:Addr}(W:Lw C L b j p c g H0 H) (s:jf H H'):Lw C L b j p c g H0 H':=⟨W.B.same s,W.S.same s,W.I.same s,W.O,W.F,W.B0,W.S0⟩
theorem Lw.take {b j p:Addr}(W:Lw C L b j p c g H0 H) (B:qg L H' b) (X:Ext b H H'):Lw C L b j p c g H0 H' :=
 ⟨B,W.S.ext W.O W.B X,W.I.stay W.F (λa o h n=>X a o h (W.B0.ne n)) (uj W.B X),W.O,W.F,W.B0,W.S0⟩
theorem Lw.fr {b j p:Addr}(W:Lw C L b j p c g H0 H) (f:FrM c.D H H'):Lw C L b j p c g H0 H':=by
 refine ⟨?_,?_,W.I.stay W.F (λa o h n=>?_) (λa xs h=>f.at h ↥3),W.O,W.F,W.B0,W.S0⟩
 ·obtain ⟨ns,a,r,c,d,h1,h2,i,e⟩:=W.B
  exact ⟨ns,a,r,c,d,f.at h1 ↥3,h2,f.at i ↥3,e⟩
 ·exact W.S.keep (N:=λ_=>False) (λc o h _=>f c o h) (λ_ _ _ z=>z) id W.S.nD id id id id (λ_ _=>id) id (λ_ _=>id)
 ·rcases f a o h with z | ⟨m,_⟩
  ·exact z
  ·obtain ⟨_,q⟩:=W.S0.inD m
   rw [n] at q
   cases q
theorem Lw.start {C L b G p Pt:Addr}{c:ScN}{g:IceG}{H2 H3:Hp}(Y:ScAt H2 G c) (O:ScOk b c) (B2:qg L H2 b) (U:qx H2 Pt) (I3:IceAt C H3 p g) (F3:IceFr H2 p g) (j:Fr3 (λa=>a=Pt) c.D H2 H3):Lw C L b G p c g H2 H3:=by
 refine ⟨?_,Y.fr U j,I3,O,F3,B2,Y⟩
 obtain ⟨ps,e⟩:=U.ne
 obtain ⟨ns,a,r,c,d,h1,h2,f,h⟩:=B2
 exact ⟨ns,a,r,c,d,j.at h1 (jm h1 e ↥4) ↥3,h2,j.at f (jm f e ↥4) ↥3,h⟩
structure Lk (c:ScN) (g:IceG):Prop where
 rs:g.rs=c.rs
 rows:g.rows=c.ts
 sl:g.slopes=c.ws.map (jh c.rs)
 kv:g.kvs=c.sk.map kvA
 ll:g.lds.length=c.lds.length
 ld:∀(l:Nat) x,g.lds[l]? = some x->∃y,c.lds[l]? = some y/\x.2=y.2.map kvI
 ny:∀x∈g.lds,x.1≠g.ye
 nd:(g.lds.map (·.1)).Nodup
structure LaneF (c:ScN) (g:IceG) (ln:Int) (wy:List Int) (da:Addr) (dn:List (Int×Int)):Prop where
 way:c.ws[ln.toNat]? = some wy
 sl:g.slopes.getD ln.toNat []=jh c.rs wy
 g1:1<=(jh c.rs wy).length
 g30:(jh c.rs wy).length<=30
 cd:c.lds[ln.toNat]? = some (da,dn)
 D:c.D da
 nd:(dn.map (·.1)).Nodup
 b:∀q∈dn,0<=q.1/\q.1<=99/\1<=q.2/\q.2<=9
 l10:dn.length<=10
 at_:Vc g ln dn
 l0:0<=ln
 l1:ln< ↥15
theorem Lk.lane {b:Addr}(k:Lk c g) (O:ScOk b c) {j:Int}(U:0<=j) (h1:j<(c.ws.length:Int)):∃Y G dn,LaneF c g j Y G dn:=by
 have hi:j.toNat<c.ws.length:=()
 have f:=ae hi
 have l:g.slopes[j.toNat]? = some (jh c.rs (c.ws[j.toNat]'hi)):=by rw [k.sl,aw,f];rfl
 have r:g.slopes.length=c.ws.length:=by rw [k.sl,aa]
 obtain ⟨⟨G,dn⟩,e⟩:∃z,c.lds[j.toNat]? = some z:=⟨_,ae (by rw [O.ldl];right)⟩
 have a:=aB e
 obtain ⟨⟨n,dk⟩,d⟩:∃z,g.lds[j.toNat]? = some z:=⟨_,ae (by rw [k.ll,O.ldl];right)⟩
 obtain ⟨_,h,o⟩:=k.ld _ _ d
 rw [e] at h
 cases h
 obtain rfl:dk=dn.map kvI:=o
 have i:=bL hi
 have m:dn.length<=10:=O.m3 _ a
 exact ⟨_,G,dn,f,by rw [aj,l];rfl,Qz O.gr O.ro i,(JS (O.gr.good O.l1 O.l8)).2.2.2 c.ws O.ro _ i,e,.inr ⟨_,a,rfl⟩,O.m1 _ a,O.m2 _ a,m,⟨U,(),⟨n,d⟩,O.m1 _ a,(),λq p=>by have:=O.m2 _ a q p;right⟩,U,()⟩
noncomputable def chg (t:T3) (h:Int):Int:=if t.1<=h then t.2.1 else-t.2.2
inductive spChange  (vs:List V) (H:Hp) (Q:VK) (z_3:XK):Prop
 | mk (p:Addr) (t:T3) (h:Int) (_:vs=[.ref p,.int h]) (_:H p=some (yc t)) (_:Q (.int (chg t h)) H)
theorem yZ:FnScope ["row","height","line","snow","sun"] ["row","height"] (j8 wH):=by walk_at "s"
theorem ZN (F:Fun K "change" "change" wH f fd):FnOk P w K mg base CX0 1 f fd ["row","height"] spChange:=by
 refine F.ok yZ (λa H Q E h=>?_) (λc A outer s H a Q E d h=>?_)
 ·obtain ⟨p,t,h,rfl,_⟩:=h
  rfl
 ·obtain ⟨p,t,h,rfl,b,k⟩:=h
  unfold chg at k
  refine ⟨_,(j6 (yL (pv 0) (qt (n:=3) K rfl (jn (jc (i:=2) yZ.nd rfl (aU rfl)) (jn (jc (i:=3) yZ.nd rfl (aU rfl)) (jn (jc (i:=4) yZ.nd rfl (aU rfl)) qu)))))
   (j6 (qc (jv YW (pv 1) (pv 2) (jK _)) (j9 (jj (pv 3))) jA)
   (j9 (jj (zi xh (pv 4)))))),?_⟩
  left
  refine ⟨p,_,rfl,SqT.of b,rfl,?_⟩
  refine ⟨_,_,rfl,_,_,rfl,_,_,rfl,rfl,?_⟩
  left
  refine qH (λh1=>?_) (λh1=>?_)
  ·left
   rw [if_pos h1] at k
   exact k
  ·left
   rw [if_neg h1] at k
   exact k
inductive spWish  (vs:List V) (H:Hp) (Q:VK) (z_3:XK):Prop
 | mk (p:Addr) (t:T3) (h:Int) (_:vs=[.ref p,.int h]) (_:H p=some (yc t)) (_:Q (.int (chg t h)) H)
theorem JY:FnScope ["_law_row_here","_law_height"] ["_law_row_here","_law_height"] (j8 vC):=by walk_at "s"
theorem VF (F:Fun K "_law_wish" "_law_wish" vC f fd):FnOk P w K mg base CX0 1 f fd ["_law_row_here","_law_height"] spWish:=by
 refine F.ok JY (λb H Q E h=>?_) (λc A outer s H b Q E d h=>?_)
 ·obtain ⟨p,t,h,rfl,_⟩:=h
  rfl
 ·obtain ⟨p,t,h,rfl,a,k⟩:=h
  unfold chg at k
  have a:H p=some (.tup [.int t.1,.int t.2.1,.int t.2.2]):=a
  refine ⟨_,(j6 (qc (jv vP (pv 1) ↥21 (jK _)) (j9 (jj (jk xE j5 ↥21))) jA)
   (j9 (jj ↥21))),?_⟩
  left
  refine qH (λh1=>?_) (λh1=>?_)
  ·left
   rw [if_neg (),show-t.2.2=0-t.2.2 by right] at k
   exact k
  ·left
   rw [if_pos ()] at k
   exact k
noncomputable def zR (H:Hp) (sk:List (Int×Addr)) (wr:List (Int×T3)):Prop:=cJ (λ(z:Int×Addr) (q:Int×T3)=>z.1=q.1/\H z.2=some (yc q.2)) sk wr
theorem zR.keep {sk:List (Int×Addr)}(h:zR H sk wr) (t:jo H H'):zR H' sk wr:=Paired.mapP h λ_ _ ⟨e,q⟩=>⟨e,t _ _ q⟩
theorem zR.of {H:Hp}:∀{sk:List (Int×Addr)},(∀z∈sk,∃t,H z.2=some (yc t)/\good t=true)->∃wr,zR H sk wr
 | [],_=>⟨[],.nil⟩
 | z::r,h=>by
  obtain ⟨t,c,_⟩:=h z (aK ..)
  obtain ⟨wr,a⟩:=zR.of (sk:=r) λu b=>h u (aD _ b)
  exact ⟨(z.1,t)::wr,.cons ⟨rfl,c⟩ a⟩
noncomputable def qp (wr:List (Int×T3)) (ts:List T3) (y:Int):T3 :=
 match wr.find? λq=>decide (q.1=y) with
 | some q=>q.2
 | none=>ts.getD (y % ↥68).toNat (0,0,0)
theorem k7 {H:Hp}:∀{sk:List (Int×Addr)}{wr:List (Int×T3)},zR H sk wr->∀y:Int,
  (∃a q,qe (sk.map kvA) (.inl y)=some (.ref a)/\(wr.find? λq=>decide (q.1=y))=some q/\H a=some (yc q.2))\/(qe (sk.map kvA) (.inl y)=none/\(wr.find? λq=>decide (q.1=y))=none)
 | _,_,.nil,y=>.inr ⟨rfl,rfl⟩
 | z::sk,q::wr,.cons ⟨e,h⟩ r,y=>by
  rw [aO]
  by_cases c:z.1=y
  ·subst c
   exact .inl ⟨z.2,q,xx,by rw [mw (by rw [decide_eq_true e.symm])],h⟩
  ·have d:qe (kvA z::sk.map kvA) (.inl y)=qe (sk.map kvA) (.inl y):=js λw=>c (ff w)
   have b:((q::wr).find? λq=>decide (q.1=y))=wr.find? λq=>decide (q.1=y):=mx (by rw [decide_eq_false (by rw [<- e];exact c)];exact au)
   rw [d,b]
   exact k7 r y
theorem YV (r:qM H ys ts) (h1:1<=ts.length) (y:Int):∃a,atI ys (y % (ys.length:Int))=some (.ref a)/\H a=some (yc (ts.getD (y % ↥68).toNat (0,0,0))):=by
 have e:ys.length=ts.length:=r.length
 have b:(0:Int)<ts.length:=()
 have c:=dP y (show ↥68≠0 by right)
 have h:=d6 y b
 have hi:(y % ↥68).toNat<ys.length:=()
 obtain ⟨t,d,a,g,f⟩:=r.get (ae hi)
 refine ⟨a,?_,?_⟩
 ·rw [e]
  exact qO c (by rw [ae hi,g])
 ·rw [aj,d]
  exact f
inductive spSky (C:Addr) (vs:List V) (H:Hp) (Q:VK) (z_3:XK):Prop
 | mk (p:Addr) (g:IceG) (y:Int) (sk:List (Int×Addr)) (wr:List (Int×T3)) (_:vs=[.ref p,.int y]) (_:IceAt C H p g) (_:g.kvs=sk.map kvA) (_:zR H sk wr) (_:1<=g.rows.length) (_:g.rows.length<=1000) (_:∀t,H t=some (yc (qp wr g.rows y))->Q (.ref t) H)
theorem JE:FnScope ["self","year"] ["self","year"] (j8 vm):=by walk_at "s"
theorem Q3 (z:Nb2 mg) (T:IceC K C) (F:Fun K "sky" "Ice.sky" vm f fd):FnOk P w K mg base CX0 1 f fd ["self","year"] (spSky C):=by
 refine F.ok JE (λl H Q E h=>?_) (λt A outer s H l Q E o h=>?_)
 ·obtain ⟨p,g,y,i,wr,rfl,_⟩:=h
  rfl
 ·obtain ⟨p,g,y,i,wr,rfl,I,r,n,h1,h2,k⟩:=h
  have b:H g.ye=some (.dK (i.map kvA)):=by rw [<- r];exact I.ye
  obtain ⟨m,j,c⟩:=YV I.rows h1 y
  refine ⟨_,(j9 (jj (wd (jM o) (qB K (pv 0)) (pv 1) (ji (je K) (qB K (pv 0)) (jk xi (pv 1) (jd (ja K) rfl z.b_len aH (j0 (qB K (pv 0)) j2))) (λ_ _=>rfl)) ⟨rfl,rfl,rfl,rfl⟩))),?_⟩
  left
  refine ⟨p,C,g.dx,_,_,rfl,I.ob,T.cl,T.nY,ya _ _ _ _ _,?_⟩
  left
  refine ⟨.inl ⟨_,.inl b⟩,?_⟩
  left
  refine ⟨p,C,g.dx,_,_,rfl,I.ob,T.cl,T.nC,vp _ _ _ _ _,?_⟩
  left
  refine ⟨p,C,g.dx,_,_,rfl,I.ob,T.cl,T.nC,vp _ _ _ _ _,?_⟩
  left
  refine ⟨g.cy,_,rfl,.inl (SqL.of I.cy),?_⟩
  have u:g.ys.length=g.rows.length:=I.rows.length
  left
  refine ⟨_,_,_,_,rfl,rfl,SqL.of I.cy,j,?_⟩
  rcases k7 n y with ⟨a,q,e,d,h⟩ | ⟨e,d⟩
  ·refine ⟨some (.ref a),by rw [<- e];exact qA.k (k:=.inl y) b,?_⟩
   exact k a (by unfold qp;rw [d];exact h)
  ·refine ⟨none,by rw [<- e];exact qA.k (k:=.inl y) b,?_⟩
   exact k m (by unfold qp;rw [d];exact c)
inductive spRowL  (vs:List V) (H:Hp) (Q:VK) (z_3:XK):Prop
 | mk (sd:Addr) (c:ScN) (y:Int) (wr:List (Int×T3)) (_:vs=[.ref sd,.int y]) (_:ScAt H sd c) (_:zR H c.sk wr) (_:1<=c.ts.length) (_:c.ts.length<=1000) (_:∀t,H t=some (yc (qp wr c.ts y))->Q (.ref t) H)
theorem Xh:FnScope ["_law_scene_here","_law_year_here"] ["_law_scene_here","_law_year_here"] (j8 uw):=by walk_at "s"
theorem U0 (z:Nb2 mg) (F:Fun K "_law_row" "_law_row" uw f fd):FnOk P w K mg base CX0 1 f fd ["_law_scene_here","_law_year_here"] spRowL:=by
 refine F.ok Xh (λl H Q E h=>?_) (λo A outer s H l Q E b h=>?_)
 ·obtain ⟨d,c,y,wr,rfl,_⟩:=h
  rfl
 ·obtain ⟨d,c,y,wr,rfl,S,n,h1,h2,k⟩:=h
  refine ⟨_,(j6 (qc (US (UT (jM b) (pv 1) ↥135) ↥56) (j9 (jj (jw (jM b) ↥135 (pv 1) (λ_ _=>rfl)))) jA)
   (j9 (jj (ji (je K) ↥135 (jk xi (pv 1) (jd (ja K) rfl z.b_len aH (j0 ↥135 j2))) (λ_ _=>rfl))))),?_⟩
  obtain ⟨m,j,g⟩:=YV S.r3 h1 y
  left
  refine ⟨d,.ref c.sg,rfl,by rw [<- xX c.p c.q c.sg c.gl c.ll];exact qA.k (k:=.inr "single") S.sd,?_⟩
  rcases k7 n y with ⟨a,q,e,i,h⟩ | ⟨e,i⟩
  ·refine ⟨c.sg,some (.ref a),rfl,.inl ⟨_,.inl y,S.sg,rfl,e.symm⟩,?_⟩
   left
   refine ⟨d,.ref c.sg,rfl,by rw [<- xX c.p c.q c.sg c.gl c.ll];exact qA.k (k:=.inr "single") S.sd,?_⟩
   left
   refine ⟨c.sg,.ref a,rfl,.inl ⟨_,.inl y,S.sg,rfl,e.symm⟩,?_⟩
   exact k a (by unfold qp;rw [i];exact h)
  ·refine ⟨c.sg,none,rfl,.inl ⟨_,.inl y,S.sg,rfl,e.symm⟩,?_⟩
   have r:c.ys.length=c.ts.length:=S.r3.length
   left
   refine ⟨d,.ref c.q,rfl,by rw [<- w9 c.p c.q c.sg c.gl c.ll];exact qA.k (k:=.inr "rows") S.sd,?_⟩
   left
   refine ⟨d,.ref c.q,rfl,by rw [<- w9 c.p c.q c.sg c.gl c.ll];exact qA.k (k:=.inr "rows") S.sd,?_⟩
   left
   refine ⟨c.q,_,rfl,.inl (SqL.of S.q),?_⟩
   left
   refine ⟨_,_,_,_,rfl,rfl,SqL.of S.q,j,?_⟩
   exact k m (by unfold qp;rw [i];exact g)
inductive spNews  (vs:List V) (H:Hp) (Q:VK) (z_3:XK):Prop
 | mk (sd:Addr) (c:ScN) (l:Int) (da:Addr) (dn:List (Int×Int)) (_:vs=[.ref sd,.int l]) (_:ScAt H sd c) (_:0<=l) (_:c.lds[l.toNat]? = some (da,dn)) (_:dn.length<=100) (_:c.sk.length<=100) (_:∀M H',-1<=M->(M = -1\/M∈c.sk.map (·.1)\/M∈dn.map (·.1))->(∀z∈c.sk,z.1<=M)->(∀q∈dn,q.1<=M)->jf H H'->Q (.int M) H')
theorem JV:FnScope ["_law_scene_here","_law_lane"] ["_law_scene_here","_law_lane"] (j8 vq):=by walk_at "s"
theorem VC (j:Nb2 mg) (F:Fun K "_law_news" "_law_news" vq f fd):FnOk P w K mg base CX0 1 f fd ["_law_scene_here","_law_lane"] spNews:=by
 refine F.ok JV (λG H Q E h=>?_) (λan A outer s H G Q E B h=>?_)
 ·obtain ⟨e,c,l,t,r,rfl,_⟩:=h
  rfl
 ·obtain ⟨e,c,l,t,r,rfl,S,J,d,Z,Y,k⟩:=h
  refine ⟨_,(j9 (jj (jd (Z8 K rfl) rfl j.b_max nh (j0 (jk yu (jk yu (jS (j0 (jk xE j5 j5) j2)) (qd (km K rfl) rfl j.b_list bY (j0 (jw (jM B) (pv 0) jF (λ_ _=>rfl)) j2))) (qd (km K rfl) rfl j.b_list bY (j0 (ji (je K) (jw (jM B) (pv 0) jF (λ_ _=>rfl)) (pv 1) (λ_ _=>rfl)) j2))) j2)))),?_⟩
  left
  refine ⟨by show 1<=sizeLine;decide,λX H1 am o s1=>?_⟩
  left
  refine ⟨e,.ref c.sg,rfl,by rw [<- xX c.p c.q c.sg c.gl c.ll];exact qA.k (k:=.inr "single") (S.same s1).sd,?_⟩
  left
  refine ⟨c.sg,_,c.sk.map (·.1),rfl,(S.same s1).sg,by rw [bM,bM];rfl,by rw [aa];right,λU H2 al n g=>?_⟩
  left
  refine ⟨X,U,_,_,rfl,rfl,g _ _ o,n,by rw [aa,aa];show 1+_<=_;exact c3 (jb ()),λT H3 ai m y=>?_⟩
  have u:=((S.same s1).same g).same y
  left
  refine ⟨e,.ref c.ll,rfl,by rw [<- vQ c.p c.q c.sg c.gl c.ll];exact qA.k (k:=.inr "leaps") u.sd,?_⟩
  left
  refine ⟨_,_,_,_,rfl,rfl,SqL.of u.ll,qO J (v:=V.ref t) (by rw [aw,d];rfl),?_⟩
  left
  refine ⟨t,_,r.map (·.1),rfl,u.ld _ (aB d),by rw [bM,bM];rfl,by rw [aa];right,λR H4 ac i x=>?_⟩
  left
  refine ⟨T,R,_,_,rfl,rfl,x _ _ m,i,by simp only [ay,aa];show 1+_+_<=_;exact c3 (jb ()),λC D ab a I=>?_⟩
  have a:D C=some (.lst ((-1::(c.sk.map (·.1)++r.map (·.1))).map V.int)):=by rw [a,aO,aq];rfl
  left
  refine ⟨C,_,rfl,SqL.of a,by simp,λM O b=>?_⟩
  have h1:=b (-1) (aK ..)
  refine k M D h1 ?_ (λz L=>b _ (aD _ (d9 _ (bf L)))) (λq N=>b _ (aD _ (aM _ (bf N)))) (s1.trans (g.trans (y.trans (x.trans I))))
  rcases List.mem_cons.mp O with h | h
  ·exact .inl h
  ·rcases List.mem_append.mp h with h | h
   ·exact .inr (.inl h)
   ·exact .inr (.inr h)
theorem gh:∀(sk:List (Int×Addr)) (y:Int),y∈sk.map (·.1)->∃r,qe (sk.map kvA) (.inl y)=some (.ref r)
 | [],y,h=>by cases h
 | q::r,y,h=>by
  rw [aO]
  unfold qe
  by_cases e:q.1=y
  ·subst e
   exact ⟨q.2,by simp [kvA,ow]⟩
  ·have h':y∈r.map (·.1):=by
    rcases List.mem_cons.mp h with z | z
    ·exact absurd z.symm e
    ·exact z
   obtain ⟨a,b⟩:=gh r y h'
   unfold qe at b
   refine ⟨a,?_⟩
   simp [kvA,ow,e] at b ⊢
   exact b
inductive spToldI (C:Addr) (vs:List V) (H:Hp) (Q:VK) (z_3:XK):Prop
 | mk (p:Addr) (g:IceG) (sk:List (Int×Addr)) (_:vs=[.ref p]) (_:IceAt C H p g) (_:g.kvs=sk.map kvA) (_:sk.length<64) (_:∀o H' out (ks:List Int),H o=none->H' o=some (.lst out)->cJ (λv (y:Int)=>∃b r,v=V.ref b/\H' b=some (.tup [.int y,.ref r])) out ks->jf H H'->ks.Perm (sk.map (·.1))->Q (.ref o) H')
theorem Jc:FnScope ["self"] ["self"] (j8 zx):=by walk_at "s"
theorem gZ (nb:Nb2 mg) (T:IceC K C) (F:Fun K "told" "Ice.told" zx f fd):FnOk P w K mg base CX0 2 f fd ["self"] (spToldI C):=by
 refine F.ok Jc ↥58 (λal A outer s H vs Q E hr h=>?_)
 ·obtain ⟨p,g,t,rfl,_⟩:=h
  rfl
 ·obtain ⟨p,g,t,rfl,I,ek,J,k⟩:=h
  have Z:H g.ye=some (.dK (t.map kvA)):=by rw [<- ek];exact I.ye
  refine ⟨_,(j9 (jj (jE (osc:=(j8 zx)) (ON:=["self"]) (N:=["year","self"]) (own:=1) (caps:=[0]) ⟨rfl,∅,∅,∅,rfl,∅⟩ rfl rfl rfl (jN K (jd (vG K rfl) rfl nb.b_sorted mY (j0 (qB K (pv 0)) j2))) (λ_ _ _ _ _=>(jc (i:=0) (show aS (["year","self"]:List Str) by decide +kernel) rfl (aU rfl))) ↥14 (λ_ _ _ _ _=>(xV (j0 (pv 0) (j0 (jw (jM hr) (qB K (pv 1)) (pv 0) (λ_ _=>rfl)) j2))))))),?_⟩
  left
  refine ⟨p,C,g.dx,_,_,rfl,I.ob,T.cl,T.nY,ya _ _ _ _ _,?_⟩
  left
  refine ⟨g.ye,t.map kvA,t.map (·.1),rfl,Z,by rw [bM,bM];rfl,by rw [aa];exact J,λo H1 ks ho D s1 O hs=>?_⟩
  have ac:ks.length<64:=by rw [O.length_eq,aa];exact J
  refine ⟨o,rfl,⟨_,SqL.of D⟩,λacc j=>?_⟩
  refine jJ (K:=K) (a:=o) (xs:=ks.map V.int) (acc:=acc) (λi σ H2=>∃(x:Option V) (d:List V),σ=[x,some (.ref p)]/\H2 acc=some (.lst d)/\d.length=i/\cJ (λv (y:Int)=>∃b r,v=V.ref b/\H2 b=some (.tup [.int y,.ref r])) d (ks.take i)/\Ext acc H1 H2) ?_ ?_ ?_ ?_
  ·exact ⟨none,[],rfl,j4,rfl,.nil,Ext.put⟩
  ·rintro i σ H2 hi ⟨x,d,rfl,h2,L,B,u⟩
   exact SqL.of (u _ _ D (j1 D j))
  ·rintro i v σ H2 hv ⟨x,d,rfl,h2,L,B,u⟩
   obtain ⟨y,rfl,M⟩:=xj hv
   have ai:=(List.getElem?_eq_some_iff.mp M).1
   have X:y∈t.map (·.1):=O.mem_iff.mp (aB M)
   obtain ⟨U,Y⟩:=gh t y X
   have S:jf H H2:=λc o l=>u _ _ (s1 _ _ l) (j1 (s1 _ _ l) j)
   have I2:=I.same S
   left
   refine ⟨p,C,g.dx,_,_,rfl,I2.ob,T.cl,T.nY,ya _ _ _ _ _,?_⟩
   left
   refine ⟨g.ye,.ref U,rfl,by rw [<- Y];exact qA.k (k:=.inl y) (S _ _ Z),?_⟩
   left
   refine ⟨by show 2<=sizeLine;decide,λb H3 hb ab G=>?_⟩
   have h3:=G _ _ h2
   have R:b≠acc:=(j1 h2 hb).symm
   refine ⟨d,h3,jb (),some (.int y),d++[.ref b],rfl,j4,by rw [ay,L];rfl,?_,λc o l n=>by rw [j7 n];exact G _ _ (u c o l n)⟩
   rw [ba,M]
   exact cZ (Paired.mapP B λv m ⟨c,r,e,q⟩=>⟨c,r,e,by rw [j7 (jm (G _ _ q) h3 ↥4)];exact G _ _ q⟩) ⟨b,U,rfl,by rw [j7 R];exact ab⟩
  ·rintro σ H2 ⟨x,d,rfl,h2,L,B,u⟩
   rw [aa,aX] at B
   exact k acc H2 d ks (s1.free j) h2 B (λc o l=>u _ _ (s1 _ _ l) (j1 (s1 _ _ l) j)) O
theorem zu:∀{l:List Int},l.Pairwise (· <= ·)->l.Nodup->l.Pairwise (· < ·)
 | [],_,_=>.nil
 | x::r,p,n=>by
  rw [oz] at p ⊢
  obtain ⟨c,b⟩:=List.nodup_cons.mp n
  refine ⟨λy a=>?_,zu p.2 b⟩
  have:=p.1 y a
  have:x≠y:=λe=>c (e ▸ a)
  right
theorem uJ:∀{xs ys:List (Int×Int)},xs.Perm ys->(xs.map (·.1)).Pairwise (· < ·)->(ys.map (·.1)).Pairwise (· < ·)->xs=ys
 | [],ys,p,_,_=>p.nil_eq
 | x::r,[],p,_,_=>absurd p.length_eq (by simp)
 | x::r,y::t,p,d,c=>by
  rw [aO,oz] at d c
  have e:x=y:=by
   rcases List.mem_cons.mp (p.mem_iff.mpr (aK (a:=y) (l:=t))) with e | e
   ·exact e.symm
   ·rcases List.mem_cons.mp (p.mem_iff.mp (aK (a:=x) (l:=r))) with e2 | e2
    ·exact e2
    ·have a:=d.1 _ (bf e)
     have b:=c.1 _ (bf e2)
     right
  subst e
  rw [uJ (oq p) d.2 c.2]
theorem kE {ns ms os:List (Int×Int)}(j:(ns.map (·.1)).Nodup) (p:ms.Perm ns) (s:(ms.map (·.1)).Pairwise (· <= ·)) (q:os.Perm ns) (t:(os.map (·.1)).Pairwise (· <= ·)):os=ms :=
 uJ (q.trans p.symm) (zu t ((q.map (·.1)).nodup_iff.mpr j)) (zu s ((p.map (·.1)).nodup_iff.mpr j))
theorem uk:∀(ns:List (Int×Int)) (y:Int),(qe (ns.map kvI) (.inl y)).getD (.int 0) = .int (jL ns y)
 | [],y=>rfl
 | q::r,y=>by
  rw [aO]
  unfold jL
  by_cases e:q.1=y
  ·subst e
   rw [if_pos rfl,show qe (kvI q::r.map kvI) (.inl q.1)=some (.int q.2) from xx]
   rfl
  ·rw [if_neg e,show qe (kvI q::r.map kvI) (.inl y)=qe (r.map kvI) (.inl y) from js λw=>e (ff w)]
   exact uk r y
inductive spSettled (C:Addr) (vs:List V) (H:Hp) (Q:VK) (z_3:XK):Prop
 | mk (p:Addr) (g:IceG) (l:Int) (sk:List (Int×Addr)) (ns:List (Int×Int)) (_:vs=[.ref p,.int l]) (_:IceAt C H p g) (_:g.lds.length=g.slopes.length) (_:g.kvs=sk.map kvA) (_:sk.length<64) (_:(∀z∈sk,0<=z.1)) (_:Vc g l ns) (_:(∀q∈ns,0<=q.1)) (_:∀M H',-1<=M->(M = -1\/M∈sk.map (·.1)\/M∈ns.map (·.1))->(∀z∈sk,z.1<=M)->(∀q∈ns,q.1<=M)->jf H H'->Q (.int (M+1+ ↥57)) H')
theorem wW:FnScope ["ice","lane","told"] ["ice","lane"] (j8 zX):=by walk_at "s"
theorem Xk (nb:Nb2 mg) (U:Cls K C) (Y:CalM P w K mg base 2 C "told" ["self"] (spToldI C)) (j:CalMX P w K mg base 2 C "surges" ["self","lane"] (spSurgesI C CN)) (G:CalMX P w K mg base 2 C "length" ["self","lane"] (spLengthI C CN))
  (F:Fun K "settled" "settled" zX f fd):FnOk P w K mg base (CX1 P w) 3 f fd ["ice","lane"] (spSettled C):=by
 refine Fun.okX F wW ↥58 (λbe A outer s H vs Q E hr h=>?_)
 ·obtain ⟨p,g,l,sk,ns,rfl,_⟩:=h
  rfl
 ·obtain ⟨p,g,l,sk,ns,rfl,I,a2,ek,ai,a3,⟨l0,l1,⟨a,ha⟩,nd,ap,h9⟩,a1,k⟩:=h
  refine ⟨_,(j6 (jz 2 wW.nd (jk yu (jE (osc:=(j8 zX)) (ON:=["ice","lane","told"]) (N:=["year","row"]) (own:=2) (caps:=[]) ⟨rfl,∅,∅,∅,rfl,∅⟩ rfl rfl rfl (jN K (VP (pv 0) U Y (hr.mono ⋯))) (λ_ _ _ _ _=>(qt (n:=2) K rfl (jn (jc (i:=0) (show aS (["year","row"]:List Str) by decide +kernel) rfl (aU rfl)) (jn (jc (i:=1) (show aS (["year","row"]:List Str) by decide +kernel) rfl (aU rfl)) qu)))) ↥14 ↥106) (jE (osc:=(j8 zX)) (ON:=["ice","lane","told"]) (N:=["year","many"]) (own:=2) (caps:=[]) ⟨rfl,∅,∅,∅,rfl,∅⟩ rfl rfl rfl (jN K (zU (pv 0) U j (hr.mono ⋯) qX ↥42)) (λ_ _ _ _ _=>(qt (n:=2) K rfl (jn (jc (i:=0) (show aS (["year","many"]:List Str) by decide +kernel) rfl (aU rfl)) (jn (jc (i:=1) (show aS (["year","many"]:List Str) by decide +kernel) rfl (aU rfl)) qu)))) ↥14 ↥106)))
   (j9 (jj (jk jO (jk jO (VM K rfl rfl nb.b_max ↥91 (zi xh j5)) j5) (zU (pv 0) U G (hr.mono ⋯) qX ↥42))))),?_⟩
  left
  refine ⟨p,g.dx,_,rfl,I.ob,qo ∅,?_⟩
  left
  refine ⟨p,g,sk,rfl,I,ek,ai,λo1 H1 Z ks a6 u r1 s1 am=>?_⟩
  have aL:Z.length=ks.length:=aZ r1
  have a8:ks.length<64:=by rw [am.length_eq,aa];exact ai
  left
  refine ⟨⟨_,SqL.of u⟩,λacc B=>?_⟩
  refine jJ (K:=K) (a:=o1) (xs:=Z) (acc:=acc) (λi σ H2=>∃d b:Option V,σ=[d,b]/\H2 acc=some (.lst ((ks.take i).map V.int))/\Ext acc H1 H2) ?_ ?_ ?_ ?_
  ·exact ⟨none,none,rfl,j4,Ext.put⟩
  ·rintro i σ H2 hi ⟨d,b,rfl,h2,T⟩
   exact SqL.of (T _ _ u (j1 u B))
  ·rintro i v σ H2 hv ⟨d,b,rfl,h2,T⟩
   obtain ⟨y,hy,bq,rr,rfl,e⟩:=Paired.get r1 hv
   have hi:i<ks.length:=(List.getElem?_eq_some_iff.mp hy).1
   have x:=T _ _ e (j1 e B)
   left
   refine ⟨bq,_,rfl,SqT.of x,rfl,?_⟩
   refine ⟨_,_,rfl,_,_,rfl,rfl,?_⟩
   left
   refine ⟨_,h2,by rw [aa,aE];exact jb (),_,_,rfl,?_,T.trans Ext.put⟩
   rw [j4,ba,hy,aq]
   rfl
  rintro σ H2 ⟨d,b,rfl,h2,T⟩
  have s2:jf H1 H2:=λc o hc=>T c o hc (j1 hc B)
  rw [aL,aX] at h2
  have t2:=s1.trans s2
  left
  refine ⟨p,g.dx,_,rfl,t2 _ _ I.ob,qo ∅,?_⟩
  left
  refine ⟨p,g,l,rfl,I.same t2,a2,(λhb=>absurd hb ()),λ_ _=>⟨a,ns,ha,nd,ap,λo3 H3 X m a4 t r3 s3 hp hs=>?_⟩⟩
  have as:X.length=m.length:=aZ r3
  have a7:m.length<64:=by rw [hp.length_eq];exact ap
  left
  refine ⟨⟨_,SqL.of t⟩,λL D=>?_⟩
  refine jJ (K:=K) (a:=o3) (xs:=X) (acc:=L) (λi σ H4=>∃d b:Option V,σ=[d,b]/\H4 L=some (.lst (((m.take i).map (·.1)).map V.int))/\Ext L H3 H4) ?_ ?_ ?_ ?_
  ·exact ⟨none,none,rfl,j4,Ext.put⟩
  ·rintro i σ H4 hi ⟨d,b,rfl,h4,S⟩
   exact SqL.of (S _ _ t (j1 t D))
  ·rintro i v σ H4 hv ⟨d,b,rfl,h4,S⟩
   obtain ⟨q,R,bq,rfl,e⟩:=Paired.get r3 hv
   have hi:i<m.length:=(List.getElem?_eq_some_iff.mp R).1
   have x:=S _ _ e (j1 e D)
   left
   refine ⟨bq,_,rfl,SqT.of x,rfl,?_⟩
   refine ⟨_,_,rfl,_,_,rfl,rfl,?_⟩
   left
   refine ⟨_,h4,by rw [aa,aa,aE];exact jb (),_,_,rfl,?_,S.trans Ext.put⟩
   rw [j4,ba,R,aq,aq]
   rfl
  rintro σ H4 ⟨d,b,rfl,h4,S⟩
  have s4:jf H3 H4:=λc o hc=>S c o hc (j1 hc D)
  rw [as,aX] at h4
  refine ⟨acc,L,_,_,rfl,rfl,s4 _ _ (s3 _ _ h2),h4,by rw [aa,aa,aa];exact c3 (jb ()),λa5 H5 a9 J s5=>?_⟩
  have J:H5 a5=some (.lst ((ks++m.map (·.1)).map V.int)):=by rw [J,aq]
  have O:jf H H5:=t2.trans (s3.trans (s4.trans s5))
  have ac:∀y,y∈ks↔y∈sk.map (·.1):=λy=>am.mem_iff
  have ab:∀y,y∈m.map (·.1)↔y∈ns.map (·.1):=λy=>(hp.map (·.1)).mem_iff
  left
  refine ⟨a5,ks++m.map (·.1),_,rfl,rfl,SqL.of J,λa0=>?_,λM hM al=>?_⟩
  ·left
   refine ⟨p,g.dx,_,rfl,O _ _ I.ob,qo ∅,?_⟩
   left
   refine ⟨p,g,l,rfl,I.same O,λ_ _=>?_,λhb=>absurd hb ()⟩
   left
   obtain ⟨h1,h2⟩:=List.append_eq_nil_iff.mp a0
   refine k (-1) H5 (pY _) (.inl rfl) (λz r=>?_) (λq R=>?_) O
   ·have:=(ac z.1).mpr (bf r)
    rw [h1] at this
    cases this
   ·have:=(ab q.1).mpr (bf R)
    rw [h2] at this
    cases this
  ·left
   refine ⟨p,g.dx,_,rfl,O _ _ I.ob,qo ∅,?_⟩
   left
   refine ⟨p,g,l,rfl,I.same O,λ_ _=>?_,λhb=>absurd hb ()⟩
   left
   have an:M∈sk.map (·.1)\/M∈ns.map (·.1):=(List.mem_append.mp hM).imp (ac M).mp (ab M).mp
   have bd:0<=M:=by
    rcases an with h | h
    ·obtain ⟨z,r,rfl⟩:=List.mem_map.mp h
     exact a3 z r
    ·obtain ⟨z,r,rfl⟩:=List.mem_map.mp h
     exact a1 z r
   exact k M H5 () (.inr an) (λz r=>al _ (d9 _ ((ac z.1).mpr (bf r)))) (λq R=>al _ (aM _ ((ab q.1).mpr (bf R)))) O
theorem kC (ns:List (Int×Int)):∃j:List (Int×Int),j.Perm ns/\(j.map (·.1)).Pairwise (· <= ·):=by
 refine ⟨ns.mergeSort (λa b=>decide (a.1<=b.1)),List.mergeSort_perm _ _,?_⟩
 rw [pe]
 exact (List.pairwise_mergeSort (λa b c h1 h2=>by simp at *;right) (λa b=>by simp;right) ns).imp λh=>by simpa using h
theorem zR.good :∀{sk:List (Int×Addr)}{wr:List (Int×T3)},zR H sk wr->(∀z∈sk,∃t,H z.2=some (yc t)/\good t=true)->∀q∈wr,good q.2=true
 | _,_,.nil,_,q,f=>by cases f
 | z::r,x::t,.cons ⟨_,h⟩ tl,g,q,f=>by
  rcases List.mem_cons.mp f with e | e
  ·subst e
   obtain ⟨u,i,k⟩:=g z (aK ..)
   rw [h] at i
   have:yc q.2=yc u:=aJ i
   have n:q.2.1=u.1:=by injection this with this;injection this with a b;exact V.int.inj a
   have m:q.2.2.1=u.2.1:=by injection this with this;injection this with a b;injection b with b c;exact V.int.inj b
   have l:q.2.2.2=u.2.2:=by injection this with this;injection this with a b;injection b with b c;injection c with c d;exact V.int.inj c
   rw [show q.2=u from Prod.ext n (Prod.ext m l)]
   exact k
  ·exact zR.good tl (λz j=>g z (aD _ j)) q e
theorem Y8 {wr:List (Int×T3)}{ts:List T3}(h1:∀q∈wr,good q.2=true) (h2:ts.all good=true) (j:1<=ts.length) (y:Int):good (qp wr ts y)=true:=by
 unfold qp
 cases e:wr.find? λq=>decide (q.1=y) with
 | some q=>exact h1 q (List.mem_of_find?_eq_some e)
 | none =>
  have b:=dP y (show ↥68≠0 by right)
  have a:=d6 y (show (0:Int)<ts.length by right)
  have hi:(y % ↥68).toNat<ts.length:=()
  show good (ts.getD (y % ↥68).toNat (0,0,0))=true
  rw [aj,ae hi]
  exact List.all_eq_true.mp h2 _ (bL hi)
theorem YB (g:good t=true) (h:Int):chg t h<=9:=by
 unfold good at g
 have:=of_decide_eq_true g
 unfold chg
 split <;> right
noncomputable abbrev QC:=Int×Int×Int×List Int
noncomputable def yg (t:T3) (d gd:List Int):List Int:=cV (λx h=>if chg t h > -x then chg t h else -x) d gd
noncomputable def jB (s:Nat) (d:List Int):List Int:=aP s 0++d.take (d.length-s)
noncomputable def ui (gd:List Int) (t:T3) (s:Nat) (d:List Int):QC :=
 (((yg t (jB s d) gd).filter λx=>decide (0<x)).sum,((yg t (jB s d) gd).filter λx=>decide (0<x)).sum-(yg t (jB s d) gd).sum,(d.drop (d.length-s)).sum,cV (· + ·) (jB s d) (yg t (jB s d) gd))
noncomputable def jI (ns:List (Int×Int)) (len:Nat) (y:Int):Nat:=(min (1+jL ns y) (len:Int)).toNat
noncomputable def qj (ns:List (Int×Int)) (gd:List Int) (wr:List (Int×T3)) (ts:List T3) (fst:Int):Nat->List Int
 | 0=>aP gd.length 0
 | i+1=>(ui gd (qp wr ts (fst+(i:Int))) (jI ns gd.length (fst+(i:Int))) (qj ns gd wr ts fst i)).2.2.2
noncomputable def yd (ns:List (Int×Int)) (gd:List Int) (wr:List (Int×T3)) (ts:List T3) (fst:Int) (i:Nat):QC:=ui gd (qp wr ts (fst+(i:Int))) (jI ns gd.length (fst+(i:Int))) (qj ns gd wr ts fst i)
noncomputable def qR (ns:List (Int×Int)) (gd:List Int) (wr:List (Int×T3)) (ts:List T3) (fst:Int) (n:Nat):List QC:=(aG n).map (yd ns gd wr ts fst)
theorem yi {s:Nat}{d:List Int}(h:s<=d.length):(jB s d).length=d.length:=by
 unfold jB
 rw [ay,bE,aE]
 right
theorem wN {d gd:List Int}(h:d.length=gd.length):(yg t d gd).length=gd.length:=by
 unfold yg
 rw [eC]
 right
theorem wB (ns:List (Int×Int)) (len:Nat) (y:Int):jI ns len y<=len:=by
 unfold jI
 right
theorem qC (ns:List (Int×Int)) (gd:List Int) (wr:List (Int×T3)) (ts:List T3) (fst:Int):∀i,(qj ns gd wr ts fst i).length=gd.length
 | 0=>bE
 | i+1=>by
  have a:=qC ns gd wr ts fst i
  have h1:=wB ns gd.length (fst+(i:Int))
  show (cV (· + ·) (jB _ _) (yg _ (jB _ _) gd)).length=_
  rw [eC,wN (by rw [yi (),a]),yi (),a,Nat.min_self]
theorem yU {s:Nat}{x:Int}(h:x∈jB s d):x=0\/x∈d:=by
 rcases List.mem_append.mp h with z | z
 ·exact .inl (List.mem_replicate.mp z).2
 ·exact .inr (iB z)
theorem XM {t:T3}(j:good t=true) {B:Int}:∀{d gd:List Int},(∀x∈d,0<=x/\x<=B)->∀z∈yg t d gd,- B<=z/\z<=9\/(0<=z/\z<=9)
 | [],_,_,z,a=>by cases a
 | _::_,[],_,z,a=>by cases a
 | x::d,h::gd,b,z,a=>by
  have f:=b x (aK ..)
  have g:=YB j h
  rcases List.mem_cons.mp (show z∈(if chg t h > -x then chg t h else -x)::yg t d gd from a) with e | e
  ·rw [e]
   refine .inl ?_
   split <;> right
  ·exact XM j (λy c=>b y (aD _ c)) z e
theorem Xy {t:T3}(j:good t=true) {B:Int}:∀{d gd:List Int},(∀x∈d,0<=x/\x<=B)->∀z∈cV (· + ·) d (yg t d gd),0<=z/\z<=B+9
 | [],_,_,z,a=>by cases a
 | _::_,[],_,z,a=>by cases a
 | x::d,h::gd,b,z,a=>by
  have f:=b x (aK ..)
  have g:=YB j h
  rcases List.mem_cons.mp (show z∈(x+(if chg t h > -x then chg t h else -x))::cV (· + ·) d (yg t d gd) from a) with e | e
  ·rw [e]
   split <;> right
  ·exact Xy j (λy c=>b y (aD _ c)) z e
theorem Jq {ns:List (Int×Int)}{gd:List Int}{wr:List (Int×T3)}{ts:List T3}{fst:Int}(j:∀z,good (qp wr ts z)=true):∀i,∀x∈qj ns gd wr ts fst i,0<=x/\x<=9*(i:Int)
 | 0,x,a=>by rw [(List.mem_replicate.mp a).2];right
 | i+1,x,a=>by
  have b:=Jq (ns:=ns) (gd:=gd) (fst:=fst) j i
  have:=Xy (j (fst+(i:Int))) (B:=9*(i:Int)) (gd:=gd) (d:=jB (jI ns gd.length (fst+(i:Int))) (qj ns gd wr ts fst i)) (λy c=>by
   rcases yU c with e | e
   ·right
   ·exact b y e) x a
  right
theorem ue (ns:List (Int×Int)) (gd:List Int) (wr:List (Int×T3)) (ts:List T3) (fst:Int) (n:Nat):qR ns gd wr ts fst (n+1)=qR ns gd wr ts fst n++[yd ns gd wr ts fst n]:=by
 unfold qR
 rw [bW,aq]
 rfl
theorem Yg {xs:List V}{s:Nat}(h:1<=s) (h2:s<=xs.length):vT xs (some (- (s:Int))) none=xs.drop (xs.length-s):=by
 unfold vT
 rw [HT.sIx_none,show HT.sIx xs.length 0 (some (- (s:Int)))=xs.length-s by show (if-(s:Int)<0 then (- (s:Int)+(xs.length:Int)).toNat else _)=_;rw [if_pos ()];right]
 exact bw (by rw [fq];exact ar _)
theorem JZ {xs:List V}{s:Nat}(h:1<=s) (h2:s<=xs.length):vT xs none (some (- (s:Int)))=xs.take (xs.length-s):=by
 unfold vT
 rw [HT.sIx_none,show HT.sIx xs.length xs.length (some (- (s:Int)))=xs.length-s by show (if-(s:Int)<0 then (- (s:Int)+(xs.length:Int)).toNat else _)=_;rw [if_pos ()];right,sG,Nat.sub_zero]
noncomputable def WD (H:Hp) (j:List V) (qs:List QC):Prop:=cJ (λv (q:QC)=>∃b dl,v=V.ref b/\H b=some (.tup [.int q.1,.int q.2.1,.int q.2.2.1,.ref dl])/\H dl=some ↥60) j qs
theorem uX:∀{ns:List (Int×Int)},(∀q∈ns,0<=q.2/\q.2<=9)->∀y,0<=jL ns y/\jL ns y<=9
 | [],_,y=>by unfold jL;right
 | q::r,h,y=>by
  have c:=h q (aK ..)
  have b:=uX (λz a=>h z (aD _ a)) y
  unfold jL
  split <;> right
theorem Yt {α β γ:Type}(f:α->β->γ) {xs:List α}{ys:List β}{i:Nat}{x:α}{y:β}(h1:xs[i]? = some x) (h2:ys[i]? = some y):(cV f xs ys).take (i+1)=(cV f xs ys).take i++[f x y]:=by
 rw [ba,cG,h1,h2]
 rfl
inductive spCourse (C:Addr) (vs:List V) (H:Hp) (Q:VK) (z_3:XK):Prop
 | mk (p:Addr) (g:IceG) (l fst last:Int) (sk:List (Int×Addr)) (wr:List (Int×T3)) (ns ms:List (Int×Int)) (gd:List Int) (_:vs=[.ref p,.int l,.int fst,.int last]) (_:IceAt C H p g) (_:g.lds.length=g.slopes.length) (_:g.kvs=sk.map kvA) (_:zR H sk wr) (_:1<=g.rows.length) (_:g.rows.length<=1000) (_:(∀z,good (qp wr g.rows z)=true)) (_:Vc g l ns) (_:ms.Perm ns) (_:(ms.map (·.1)).Pairwise (· <= ·)) (_:g.slopes.getD l.toNat []=gd) (_:1<=gd.length) (_:gd.length<=100) (_:(last+1-fst).toNat<=900) (_:∀o out H',H o=none->H' o=some (.lst out)->WD H' out (qR ms gd wr g.rows fst (last+1-fst).toNat)->jf H H'->Q (.ref o) H')
theorem qf:FnScope ["ice","lane","first","last","slope","leaps","depths","rows","year","steps","gone","weather","moved","fallen"] ["ice","lane","first","last"] (j8 xA):=by walk_at "s"
theorem ZD (nb:Nb2 mg) (cl:mg "dict" = none) (U:Cls K C) (Y:CalMX P w K mg base 2 C "surges" ["self","lane"] (spSurgesI C CN)) (ab:CalMX P w K mg base 2 C "length" ["self","lane"] (spLengthI C CN)) (a5:Cal P w K mg base 1 "change" ["row","height"] spChange) (ap:CalM P w K mg base 1 C "sky" ["self","year"] (spSky C)) (ac:CalMX P w K mg base 3 C "height" ["self","lane","place"] (spHeightI C CN CP))
  (F:Fun K "course" "course" xA f fd):FnOk P w K mg base (CX1 P w) 4 f fd ["ice","lane","first","last"] (spCourse C):=by
 refine Fun.okX F qf ↥58 (λe2 A outer s H vs Q E hr h=>?_)
 ·obtain ⟨p,g,l,fst,b1,sk,wr,ns,ms,gd,rfl,_⟩:=h
  rfl
 ·obtain ⟨p,g,l,fst,b1,sk,wr,ns,ms,gd,rfl,I,en,ek,hw,ej,ei,sg,⟨l0,l1,⟨a,ha⟩,nd,db,h9⟩,hp,hs,b6,g1,ex,hn,k⟩:=h
  have ec:(ms.map (·.1)).Nodup:=(hp.map (·.1)).nodup_iff.mpr nd
  have eD:ms.length<64:=by rw [hp.length_eq];exact db
  refine ⟨_,(j6 (zG (j:=4) (osc:=(j8 xA)) (ON:=["ice","lane","first","last","slope","leaps","depths","rows","year","steps","gone","weather","moved","fallen"]) (N:=["place","lane","ice"]) (own:=1) (caps:=[1,0]) ⟨rfl,∅,∅,∅,rfl,∅⟩ qf.nd rfl (aU rfl) rfl rfl rfl (jY rfl nb.b_range (j0 (zU (pv 0) U ab (hr.mono ⋯) qX ↥42) j2)) (λ_ _ _ _ _=>(jc (i:=0) (show aS (["place","lane","ice"]:List Str) by decide +kernel) rfl (aU rfl))) ↥14 (λ_ _ _ _ _=>(zU (pv 2) U ac (hr.mono ⋯) J9 (j0 (pv 1) ↥33))))
   (j6 (jz 5 qf.nd (qd (Xm K rfl) rfl cl PyProof.Rows.boot_dict (j0 (zU (pv 0) U Y (hr.mono ⋯) qX ↥42) j2)))
   (j6 (zG (j:=6) (osc:=(j8 xA)) (ON:=["ice","lane","first","last","slope","leaps","depths","rows","year","steps","gone","weather","moved","fallen"]) (N:=["height"]) (own:=1) (caps:=[]) ⟨rfl,∅,∅,∅,rfl,∅⟩ qf.nd rfl (aU rfl) rfl rfl rfl (jN K (pv 4)) (λ_ _ _ _ _=>(jc (i:=0) (show aS (["height"]:List Str) by decide +kernel) rfl (aU rfl))) ↥14 (λ_ _ _ _ _=>j5))
   (j6 (jz 7 qf.nd (jS j2))
   (j6 (Yk (qK bj rfl (Ze rfl nb.b_range (j0 (pv 2) (j0 (jk jO (pv 3) j5) j2))) (jc (i:=8) qf.nd rfl (aU rfl)) (j6 (jz 9 qf.nd (jd (uv rfl) rfl nb.b_min tH (j0 (jk jO j5 (wd (jM hr) (pv 5) (pv 8) j5 ⟨rfl,rfl,rfl,rfl⟩)) (j0 (jd (ja K) rfl nb.b_len aH (j0 (pv 4) j2)) j2))))
   (j6 (jz 10 qf.nd (jd (yY K rfl) rfl nb.b_sum ni (j0 (xQ (xl K) (pv 6) (zy (zi xh (pv 9))) zA) j2)))
   (j6 (jz 6 qf.nd (jk yu (jE (osc:=(j8 xA)) (ON:=["ice","lane","first","last","slope","leaps","depths","rows","year","steps","gone","weather","moved","fallen"]) (N:=["step"]) (own:=1) (caps:=[]) ⟨rfl,∅,∅,∅,rfl,∅⟩ rfl rfl rfl (jY rfl nb.b_range (j0 (pv 9) j2)) (λ_ _ _ _ _=>(jc (i:=0) (show aS (["step"]:List Str) by decide +kernel) rfl (aU rfl))) ↥14 (λ_ _ _ _ _=>j5)) (xQ (xl K) (pv 6) zA (zy (zi xh (pv 9))))))
   (j6 (zc (i:=11) qf.nd rfl (fI rfl) (pe_m (pv 0) U ap (hr.mono ⋯) (j0 (pv 8) j2)))
   (j6 (zG (j:=12) (osc:=(j8 xA)) (ON:=["ice","lane","first","last","slope","leaps","depths","rows","year","steps","gone","weather","moved","fallen"]) (N:=["lying","height","weather"]) (own:=2) (caps:=[11]) ⟨rfl,∅,∅,∅,rfl,∅⟩ qf.nd rfl (aU rfl) rfl rfl rfl (XE K rfl nb.b_zip (j0 (pv 6) (j0 (pv 4) j2))) (λ_ _ _ _ _=>(qt (n:=2) K rfl (jn (jc (i:=0) (show aS (["lying","height","weather"]:List Str) by decide +kernel) rfl (aU rfl)) (jn (jc (i:=1) (show aS (["lying","height","weather"]:List Str) by decide +kernel) rfl (aU rfl)) qu)))) ↥14 (λ_ _ _ _ _=>(jd (ux rfl) rfl nb.b_max nh (j0 (zi xh (pv 0)) (j0 (jg a5 (hr.mono ⋯) rfl (j0 (pv 2) ↥42)) j2)))))
   (j6 (zG (j:=6) (osc:=(j8 xA)) (ON:=["ice","lane","first","last","slope","leaps","depths","rows","year","steps","gone","weather","moved","fallen"]) (N:=["lying","hands"]) (own:=2) (caps:=[]) ⟨rfl,∅,∅,∅,rfl,∅⟩ qf.nd rfl (aU rfl) rfl rfl rfl (XE K rfl nb.b_zip (j0 (pv 6) (j0 (pv 12) j2))) (λ_ _ _ _ _=>(qt (n:=2) K rfl (jn (jc (i:=0) (show aS (["lying","hands"]:List Str) by decide +kernel) rfl (aU rfl)) (jn (jc (i:=1) (show aS (["lying","hands"]:List Str) by decide +kernel) rfl (aU rfl)) qu)))) ↥14 (λ_ _ _ _ _=>(jk jO (pv 0) (pv 1))))
   (j6 (jz 13 qf.nd (jd (yY K rfl) rfl nb.b_sum ni (j0 (jE (osc:=(j8 xA)) (ON:=["ice","lane","first","last","slope","leaps","depths","rows","year","steps","gone","weather","moved","fallen"]) (N:=["hands"]) (own:=1) (caps:=[]) ⟨rfl,∅,∅,∅,rfl,∅⟩ rfl rfl rfl (jN K (pv 12)) (λ_ _ _ _ _=>(jc (i:=0) (show aS (["hands"]:List Str) by decide +kernel) rfl (aU rfl))) (λ_ _ _ _ _=>(zj (jv uL (pv 0) j5 (jK _)))) ↥106) j2)))
   (j9 (jU (zM K bC bG bH qk (pv 7) (j0 (xV (j0 (pv 13) (j0 (jk xE (pv 13) (jd (yY K rfl) rfl nb.b_sum ni (j0 (pv 12) j2))) (j0 (pv 10) (j0 (pv 6) j2))))) j2)))))))))))))
   (j9 (jj (pv 7)))))))),?_⟩
  left
  refine ⟨p,g.dx,_,rfl,I.ob,qo ∅,?_⟩
  left
  refine ⟨p,g,l,rfl,I,λ_ _=>?_,λhb=>absurd hb ()⟩
  rw [b6]
  left
  refine ⟨(),(),λsl ct=>?_⟩
  refine qq (lo:=0) (n:=((gd.length:Nat):Int).toNat) (acc:=sl) (λi σ H1=>∃x:Option V,σ=[x,some (.int l),some (.ref p)]/\H1 sl=some (.lst ((gd.take i).map V.int))/\Ext sl H H1) ?_ ?_ ?_
  ·exact ⟨none,rfl,j4,Ext.put⟩
  ·rintro i σ H1 hi ⟨x,rfl,h1,e1⟩
   have c2:i<gd.length:=by rw [aW] at hi;exact hi
   have s1:jf H H1:=λc o m=>e1 c o m (j1 m ct)
   left
   refine ⟨p,g.dx,_,rfl,s1 _ _ I.ob,qo ∅,?_⟩
   left
   refine ⟨p,g,l,0+(i:Int),rfl,I.same s1,λ_ _ _ _=>?_,(λhb=>absurd hb ()),λ_ _ hb=>absurd hb (by rw [b6];right)⟩
   rw [b6]
   refine ⟨_,h1,by rw [aa,aE];exact jb (),_,rfl,?_,e1.trans Ext.put⟩
   rw [j4,ba,ae c2,aq,show (0+(i:Int)).toNat=i by right,aj,ae c2]
   rfl
  rintro σ H1 ⟨x,rfl,h1,e1⟩
  have s1:jf H H1:=λc o m=>e1 c o m (j1 m ct)
  rw [aW,aX] at h1
  left
  refine ⟨p,g.dx,_,rfl,s1 _ _ I.ob,qo ∅,?_⟩
  left
  refine ⟨p,g,l,rfl,I.same s1,en,(λhb=>absurd hb ()),λ_ _=>⟨a,ns,ha,nd,db,λso H2 eb r ey dk el s2 em a6=>?_⟩⟩
  obtain rfl:=kE nd hp hs em a6
  left
  refine ⟨so,eb,r,rfl,SqL.of dk,el,ec,(),λd H3 hd cb s3=>?_⟩
  have cb:H3 d=some (.dK (r.map kvI)):=cb
  have h3:=s3 _ _ (s2 _ _ h1)
  left
  refine ⟨⟨_,SqL.of h3⟩,λd0 da=>?_⟩
  refine jJ (K:=K) (a:=sl) (xs:=gd.map V.int) (acc:=d0) (λi σ H4=>∃x:Option V,σ=[x]/\H4 d0=some (.lst ((aP i (0:Int)).map V.int))/\Ext d0 H3 H4) ?_ ?_ ?_ ?_
  ·exact ⟨none,rfl,j4,Ext.put⟩
  ·rintro i σ H4 hi ⟨x,rfl,h4,e4⟩
   exact SqL.of (e4 _ _ h3 (j1 h3 da))
  ·rintro i v σ H4 hv ⟨x,rfl,h4,e4⟩
   have hi:i<gd.length:=by have:=(List.getElem?_eq_some_iff.mp hv).1;rw [aa] at this;exact this
   left
   refine ⟨_,h4,by rw [aa,bE];exact jb (),_,rfl,?_,e4.trans Ext.put⟩
   rw [j4,iE,aq]
   rfl
  rintro σ H4 ⟨x,rfl,h4,e4⟩
  have s4:jf H3 H4:=λc o m=>e4 c o m (j1 m da)
  rw [aa] at h4
  have t4:jf H H4:=s1.trans (s2.trans (s3.trans s4))
  have dn:=s4 _ _ h3
  have dF:=s4 _ _ cb
  left
  refine ⟨aT _,λrw_ H5 a8 ds s5=>?_⟩
  have ea:H rw_=none:=t4.free a8
  left
  refine ⟨_,_,rfl,?_⟩
  refine xk (λi σ H6=>∃(x8 x9 bq bn bm bl:Option V) (dl:Addr) (G:List V),σ=[some (.ref p),some (.int l),some (.int fst),some (.int b1),some (.ref sl),some (.ref d),some (.ref dl),some (.ref rw_),x8,x9,bq,bn,bm,bl]/\dl≠rw_/\H6 dl=some (.lst ((qj r gd wr g.rows fst i).map V.int))/\H6 rw_=some (.lst G)/\G.length=i/\cJ (λv (q:QC)=>∃b dl,v=V.ref b/\H6 b=some (.tup [.int q.1,.int q.2.1,.int q.2.2.1,.ref dl])/\H6 dl=some ↥60/\dl≠rw_) G (qR r gd wr g.rows fst i)/\Ext rw_ H4 H6) ?_ ?_ ?_
  ·exact ⟨_,_,_,_,_,_,d0,[],rfl,j1 h4 a8,s5 _ _ h4,ds,rfl,.nil,λc o m _=>s5 _ _ m⟩
  ·rintro i σ H6 hi ⟨x8,x9,bq,bn,bm,bl,dl,G,rfl,er,b9,h6,c1,r6,e6⟩
   have be:=qC r gd wr g.rows fst i
   have c9:=Jq (ns:=r) (gd:=gd) (fst:=fst) sg i
   have s6:jf H4 H6:=λc o m=>e6 c o m (j1 m a8)
   have I6:=I.same (t4.trans s6)
   have eg:zR H6 sk wr:=hw.keep (jo.same (t4.trans s6))
   have b3:=s6 _ _ dn
   have ca:=s6 _ _ dF
   have eq:∀q∈r,0<=q.2/\q.2<=9:=λq hq=>h9 q (hp.mem_iff.mp hq)
   have vb:=uX eq (fst+(i:Int))
   have ep:yd r gd wr g.rows fst i=ui gd ↥64 (jI r gd.length (fst+(i:Int))) (qj r gd wr g.rows fst i):=rfl
   have eo:qj r gd wr g.rows fst (i+1)=(ui gd ↥64 (jI r gd.length (fst+(i:Int))) (qj r gd wr g.rows fst i)).2.2.2:=rfl
   have es:(if ((gd.length:Nat):Int)<1+jL r (fst+(i:Int)) then ((gd.length:Nat):Int) else 1+jL r (fst+(i:Int)))=((jI r gd.length (fst+(i:Int)):Nat):Int):=by
    unfold jI
    split <;> right
   have cy:1<=jI r gd.length (fst+(i:Int)):=by unfold jI;right
   have a6:=wB r gd.length (fst+(i:Int))
   have dV:=sg (fst+(i:Int))
   generalize jI r gd.length (fst+(i:Int))=S at *
   generalize qj r gd wr g.rows fst i=D at *
   have et:i<900:=()
   left
   refine ⟨.inl ⟨_,.inl ca⟩,?_⟩
   left
   refine ⟨_,qA.k (k:=.inl (fst+(i:Int))) ca,?_⟩
   rw [uk]
   left
   refine ⟨_,_,rfl,.inl (SqL.of b3),?_⟩
   rw [aa]
   left
   refine ⟨_,_,rfl,?_⟩
   rw [es]
   left
   refine ⟨_,_,rfl,SqL.of b9,λa7 H7 e0 ch s7=>?_⟩
   rw [Yg cy (by rw [aa,be];exact a6),aa,<- sU] at ch
   left
   refine ⟨a7,_,rfl,SqL.of ch,by rw [fq];right,λn a0=>by have:=c9 n (nj a0);right,?_⟩
   left
   refine ⟨(),(),λz0 ed=>?_⟩
   refine qq (lo:=0) (n:=((S:Nat):Int).toNat) (acc:=z0) (λj σ H8=>∃x:Option V,σ=[x]/\H8 z0=some (.lst ((aP j (0:Int)).map V.int))/\Ext z0 H7 H8) ?_ ?_ ?_
   ·exact ⟨none,rfl,j4,Ext.put⟩
   ·rintro j σ H8 hj ⟨x,rfl,h8,e8⟩
    rw [aW] at hj
    left
    refine ⟨_,h8,by rw [aa,bE];exact jb (),_,rfl,?_,e8.trans Ext.put⟩
    rw [j4,iE,aq]
    rfl
   rintro σ H8 ⟨x,rfl,h8,e8⟩
   have s8:jf H7 H8:=λc o m=>e8 c o m (j1 m ed)
   rw [aW] at h8
   have dD:=s8 _ _ (s7 _ _ b9)
   left
   refine ⟨_,_,rfl,SqL.of dD,λa9 H9 eT ce s9=>?_⟩
   rw [JZ cy (by rw [aa,be];exact a6),aa,<- eX] at ce
   refine ⟨z0,a9,_,_,rfl,rfl,s9 _ _ h8,ce,by rw [aa,aa,bE,aE];exact c3 (jb ()),λd1 H10 eH L d3=>?_⟩
   have L:H10 d1=some (.lst ((jB S D).map V.int)):=by rw [L,<- aq];rfl
   have ai:jf H6 H10:=s7.trans (s8.trans (s9.trans d3))
   have dd:=I6.same ai
   left
   refine ⟨p,g.dx,_,rfl,dd.ob,qo ∅,?_⟩
   left
   refine ⟨p,g,fst+(i:Int),sk,wr,rfl,dd,ek,eg.keep (jo.same ai),ej,ei,λtr cs=>?_⟩
   have an:=ai _ _ b3
   have ev:=yi (d:=D) (s:=S) ()
   have dp:∀x∈jB S D,0<=x/\x<=9*(i:Int):=λx hx=>by
    rcases yU hx with e | e
    ·right
    ·exact c9 x e
   have ew:=wN (t:=qp wr g.rows (fst+(i:Int))) (d:=jB S D) (gd:=gd) ()
   have dy:=XM dV (B:=9*(i:Int)) (gd:=gd) dp
   have eu:∀x h:Int,(if chg ↥64 h > -x then chg ↥64 h else -x)=(λx h=>if chg ↥64 h > -x then chg ↥64 h else -x) x h:=λ_ _=>rfl
   left
   refine ⟨false,false,_,_,rfl,⟨_,SqL.of L⟩,⟨_,SqL.of an⟩,λmo bd=>?_⟩
   refine kX (K:=K) (t0:=false) (u0:=false) (a:=d1) (b:=sl) (xs:=(jB S D).map V.int) (ys:=gd.map V.int) (acc:=mo) (by rw [aa,aa];right) (λj σ H11=>∃x0 x1:Option V,σ=[x0,x1,some (.ref tr)]/\H11 mo=some (.lst (((yg ↥64 (jB S D) gd).take j).map V.int))/\Ext mo H10 H11) ?_ ?_ ?_ ?_
   ·exact ⟨none,none,rfl,j4,Ext.put⟩
   ·rintro j σ H11 hj ⟨x0,x1,rfl,O,am⟩
    exact ⟨SqL.of (am _ _ L (j1 L bd)),SqL.of (am _ _ an (j1 an bd))⟩
   ·rintro j x y σ H11 tp hx hy ⟨x0,x1,rfl,O,am⟩ aL
    obtain ⟨Z,rfl,b2⟩:=xj hx
    obtain ⟨X,rfl,as⟩:=xj hy
    have hj:j<gd.length:=(List.getElem?_eq_some_iff.mp as).1
    have J:Ext mo H10 (upd H11 tp ↥97):=λc o m n=>(jf.new aL) _ _ (am c o m n)
    have al:=(jf.new (o:=.tup [.int Z,.int X]) aL) _ _ O
    have a2:upd H11 tp ↥97 tp=some ↥97:=j4
    generalize upd H11 tp ↥97=H12 at *
    have cm:=J _ _ cs (j1 cs bd)
    left
    refine ⟨tp,_,rfl,SqT.of a2,rfl,?_⟩
    refine ⟨_,_,rfl,_,_,rfl,rfl,?_⟩
    left
    refine ⟨tr,_,_,rfl,cm,?_⟩
    left
    refine ⟨_,_,rfl,?_⟩
    refine ⟨_,al,by rw [aa,aE];exact jb (),_,_,rfl,?_,J.trans Ext.put⟩
    rw [j4]
    unfold yg
    rw [Yt _ b2 as,aq]
    rfl
   rintro σ H11 ⟨x0,x1,rfl,O,am⟩
   have bv:jf H10 H11:=λc o m=>am c o m (j1 m bd)
   rw [aa,bw ()] at O
   generalize b4:yg ↥64 (jB S D) gd=u at *
   have a3:=bv _ _ L
   left
   refine ⟨false,false,_,_,rfl,⟨_,SqL.of a3⟩,⟨_,SqL.of O⟩,λd2 bi=>?_⟩
   refine kX (K:=K) (t0:=false) (u0:=false) (a:=d1) (b:=mo) (xs:=(jB S D).map V.int) (ys:=u.map V.int) (acc:=d2) (by rw [aa,aa];right) (λj σ H12=>∃x0 x1:Option V,σ=[x0,x1]/\H12 d2=some (.lst (((cV (· + ·) (jB S D) u).take j).map V.int))/\Ext d2 H11 H12) ?_ ?_ ?_ ?_
   ·exact ⟨none,none,rfl,j4,Ext.put⟩
   ·rintro j σ H12 hj ⟨x0,x1,rfl,al,J⟩
    exact ⟨SqL.of (J _ _ a3 (j1 a3 bi)),SqL.of (J _ _ O (j1 O bi))⟩
   ·rintro j x y σ H12 tp hx hy ⟨x0,x1,rfl,al,J⟩ aL
    obtain ⟨Z,rfl,b2⟩:=xj hx
    obtain ⟨X,rfl,as⟩:=xj hy
    have hj:j<u.length:=(List.getElem?_eq_some_iff.mp as).1
    have R:Ext d2 H11 (upd H12 tp ↥97):=λc o m n=>(jf.new aL) _ _ (J c o m n)
    have M:=(jf.new (o:=.tup [.int Z,.int X]) aL) _ _ al
    have a2:upd H12 tp ↥97 tp=some ↥97:=j4
    generalize upd H12 tp ↥97=H13 at *
    left
    refine ⟨tp,_,rfl,SqT.of a2,rfl,?_⟩
    refine ⟨_,_,rfl,_,_,rfl,rfl,?_⟩
    left
    refine ⟨_,M,by rw [aa,aE];exact jb (by rw [eC];right),_,_,rfl,?_,R.trans Ext.put⟩
    rw [j4,Yt _ b2 as,aq]
    rfl
   rintro σ H12 ⟨x0,x1,rfl,al,J⟩
   have cr:jf H11 H12:=λc o m=>J c o m (j1 m bi)
   rw [aa,bw (by rw [eC];right)] at al
   have T:=cr _ _ O
   left
   refine ⟨⟨_,SqL.of T⟩,λfa c4=>?_⟩
   refine jJ (K:=K) (a:=mo) (xs:=u.map V.int) (acc:=fa) (λj σ H13=>∃x:Option V,σ=[x]/\H13 fa=some (.lst (((u.take j).filter λx=>decide (0<x)).map V.int))/\Ext fa H12 H13) ?_ ?_ ?_ ?_
   ·exact ⟨none,rfl,j4,Ext.put⟩
   ·rintro j σ H13 hj ⟨x,rfl,M,R⟩
    exact SqL.of (R _ _ T (j1 T c4))
   ·rintro j v σ H13 hv ⟨x,rfl,M,R⟩
    obtain ⟨mv,rfl,cL⟩:=xj hv
    have hj:j<u.length:=(List.getElem?_eq_some_iff.mp cL).1
    have dc:u.take (j+1)=u.take j++[mv]:=by rw [ba,cL];rfl
    left
    refine qH (λb5=>?_) (λb5=>?_)
    ·left
     refine ⟨_,M,by rw [aa];exact bZ (bO _ _) (jb (by rw [aE];right)),_,rfl,?_,R.trans Ext.put⟩
     rw [j4,dc,bP,cq (by rw [decide_eq_true b5]),aq]
     rfl
    ·refine ⟨_,rfl,?_,R⟩
     rw [dc,bP,cp (by rw [decide_eq_false b5];exact au),iM,b0]
     exact M
   rintro σ H13 ⟨x,rfl,M,R⟩
   have bt:jf H12 H13:=λc o m=>R c o m (j1 m c4)
   rw [aa,bw (ar _)] at M
   have bN:∀n∈u,-(2 ^ 20)<=n/\n<=2 ^ 20:=λn a0=>by have:=dy n a0;right
   left
   refine ⟨fa,_,rfl,SqL.of M,aI (bO _ _) (),λn a0=>bN n (List.mem_filter.mp a0).1,?_⟩
   have br:jf H6 H13:=ai.trans (bv.trans (cr.trans bt))
   have a4:=br _ _ h6
   left
   refine ⟨.inl ⟨rfl,_,SqL.of a4⟩,?_⟩
   left
   refine ⟨mo,u,rfl,SqL.of (bt _ _ T),(),bN,?_⟩
   left
   refine ⟨by show 4<=sizeLine;decide,λtq e3 eh dg bs=>?_⟩
   refine ⟨_,_,_,rfl,rfl,bs _ _ a4,jb (),?_⟩
   have a1:=br.trans bs
   have cd:=bs _ _ (bt _ _ al)
   have bk:d2≠rw_:=(j1 (bv _ _ (ai _ _ h6)) bi).symm
   have dT:tq≠rw_:=(j1 a4 eh).symm
   have dt:yd r gd wr g.rows fst i=((u.filter λx=>decide (0<x)).sum,(u.filter λx=>decide (0<x)).sum-u.sum,(D.drop (D.length-S)).sum,cV (· + ·) (jB S D) u):=by
    rw [ep,<- b4]
    rfl
   refine ⟨_,_,_,_,_,_,d2,G++[.ref tq],rfl,bk,?_,j4,by rw [ay,c1];rfl,?_,λc o m n=>by rw [j7 n];exact a1 _ _ (e6 c o m n)⟩
   ·rw [j7 bk,cd,eo,<- b4]
    rfl
   ·rw [ue,dt]
    refine cZ (Paired.mapP r6 λv q ⟨b',ci,e,q1,q2,q3⟩=>⟨b',ci,e,?_,?_,q3⟩) ⟨tq,d2,rfl,by rw [j7 dT];exact dg,by rw [j7 bk];exact cd,bk⟩
    ·rw [j7 (jm q1 h6 ↥4)]
     exact a1 _ _ q1
    ·rw [j7 q3]
     exact a1 _ _ q2
  ·rintro σ H6 ⟨x8,x9,bq,bn,bm,bl,dl,G,rfl,er,b9,h6,c1,r6,e6⟩
   left
   exact k rw_ G H6 ea h6 (Paired.mapP r6 λv q ⟨b',ci,e,q1,q2,_⟩=>⟨b',ci,e,q1,q2⟩) (t4.trans λc o m=>e6 c o m (j1 m a8))
theorem ScAt.frM {sd:Addr}(S:ScAt H sd c) (f:FrM c.D H H'):ScAt H' sd c:=S.keep (N:=λ_=>False) (λc o h _=>f c o h) (λ_ _ _ z=>z) id S.nD id id id id (λ_ _=>id) id (λ_ _=>id)
theorem FrM.keepT (f:FrM M H H'):jo H H':=λa xs h=>f.at h ↥3
theorem FrM.put (f:FrM M H H') (n:H c=none):FrM M H (upd H' c o):=λd u a=>by
 have:d≠c:=λe=>by rw [e,n] at a;cases a
 rw [j7 this]
 exact f d u a
theorem FrM.no (f:FrM M H H') (n:H' c=none):H c=none:=by
 cases e:H c with
 | none=>rfl
 | some o =>
  rcases f c o e with h | ⟨_,_,_,_,h⟩
  ·rw [n] at h;cases h
  ·rw [n] at h;cases h
theorem Yo {l y:Int}{Q:VK}(S:ScAt H z c) (j:LaneF c g l U da G) (k:∀H',FrM c.D H H'->Q (.int (y+qy G y)) H'):spRide [.ref z,.int l,.int y] H Q E:=by
 have a:=aB j.cd
 have d:c.lds.map (λx=>V.ref x.1)=(c.lds.map (·.1)).map V.ref:=by rw [bM];rfl
 have e:(c.lds.map (·.1))[l.toNat]? = some da:=by rw [aw,j.cd];rfl
 have l10:=j.l10
 exact ⟨c.D,z,c.p,c.q,c.sg,c.gl,c.ll,da,c.lds.map (·.1),l,_,G,rfl,S.sd,(by rw [<- d];exact S.ll),j.l0,e,S.ld _ a,j.D,S.nD,(),j.nd,λq f=>by have:=j.b q f;right,k⟩
theorem vi:∀{ns:List (Int×Int)},(ns.map (·.1)).Nodup->∀y:Int,qy ns (y+1)=qy ns y+jL ns (y+1)
 | [],_,y=>rfl
 | q::r,c,y=>by
  rw [aO] at c
  obtain ⟨h1,h2⟩:=List.nodup_cons.mp c
  have f:=vi h2 y
  rw [qP,qP]
  unfold jL
  by_cases e:q.1=y+1
  ·have z:jL r (y+1)=0:=by
    have:∀{l:List (Int×Int)} {y:Int},y∉l.map (·.1)->jL l y=0:=λ{l}=>by
     induction l with
     | nil=>intro _ _;rfl
     | cons a t d =>
      intro y b
      rw [aO,eW,not_or] at b
      unfold jL
      rw [if_neg (λz=>b.1 z.symm)]
      exact d b.2
    exact this (by rw [<- e];exact h1)
   rw [if_pos e,if_pos (),if_neg ()]
   right
  ·rw [if_neg e]
   by_cases l:q.1<=y
   ·rw [if_pos l,if_pos ()];right
   ·rw [if_neg l,if_neg ()];right
theorem FrM.dk (f:FrM M H H') (h:H c=some o) (n:¬M c):H' c=some o:=by
 rcases f c o h with z | ⟨m,_⟩
 ·exact z
 ·exact absurd m n
theorem ScAt.D_none {sd:Addr}(S:ScAt H sd c) (h:H a=none):¬c.D a:=by
 rintro (rfl | ⟨x,b,rfl⟩)
 ·rcases S.sg with z | ⟨o,z⟩ <;> (rw [h] at z;cases z)
 ·rcases S.ld x b with z | ⟨o,z⟩ <;> (rw [h] at z;cases z)
theorem ScAt.gnd {sd:Addr}{l:Int}(S:ScAt H sd c) (z:LaneF c g l G Y U):∃j,atI c.zs l=some (V.ref j)/\H j=some (.lst ((jh c.rs G).map V.int)):=by
 have b:c.zs.length=c.ws.length:=(aZ S.gi).trans (aa _)
 have hi:l.toNat<c.zs.length:=by rw [b];exact (List.getElem?_eq_some_iff.mp z.way).1
 obtain ⟨f,a,j,e,d⟩:=Paired.get S.gi (ae hi)
 rw [aw,z.way] at a
 have a:=aJ a
 subst a
 exact ⟨j,qO z.l0 (by rw [ae hi,e]),d⟩
noncomputable def xf (R:Int) (n:Nat):List Int:=(aG n).map λp:Nat=>R-(p:Int)
theorem Zo {R k:Int}{n:Nat}:k∈xf R n↔R-(n:Int)<k/\k<=R:=by
 unfold xf
 rw [List.mem_map]
 constructor
 ·rintro ⟨p,c,rfl⟩
  have:=List.mem_range.mp c
  right
 ·rintro ⟨a,b⟩
  exact ⟨(R-k).toNat,List.mem_range.mpr (),()⟩
theorem za (R:Int) (n:Nat):(xf R n).length=n:=by
 unfold xf
 rw [aa,bg]
theorem Qr {R:Int}{n p:Nat}(h:p<n):(xf R n)[p]? = some (R-(p:Int)):=by
 unfold xf
 rw [aw,cY h]
 rfl
inductive spMarks  (vs:List V) (H:Hp) (Q:VK) (z_3:XK):Prop
 | mk (sd:Addr) (c:ScN) (g:IceG) (l y:Int) (wy:List Int) (da:Addr) (dn:List (Int×Int)) (_:vs=[.ref sd,.int l,.int y]) (_:ScAt H sd c) (_:LaneF c g l wy da dn) (_:∀o H',H o=none->H' o=some (.lst ((xf (y+qy dn y) (jh c.rs wy).length).map V.int))->FrM c.D H H'->Q (.ref o) H')
theorem vK:FnScope ["_law_scene_here","_law_lane","_law_year_here","_law_ride_here"] ["_law_scene_here","_law_lane","_law_year_here"] (j8 zJ):=by walk_at "s"
theorem Yz (z:Nb2 mg) (j:Cal P w K mg base 1 "_law_ride" ["_law_scene_here","_law_lane","_law_year_here"] spRide)
  (F:Fun K "_law_marks" "_law_marks" zJ f fd):FnOk P w K mg base CX0 2 f fd ["_law_scene_here","_law_lane","_law_year_here"] spMarks:=by
 refine F.ok vK (λG H Q E h=>?_) (λM A outer s H G Q E v h=>?_)
 ·obtain ⟨u,c,g,l,y,t,J,e,rfl,_⟩:=h
  rfl
 ·obtain ⟨u,c,g,l,y,t,J,e,rfl,S,r,k⟩:=h
  have L:=r.g30
  refine ⟨_,(j6 (zc (i:=3) vK.nd rfl (fI rfl) (jg j (v.mono ⋯) rfl (j0 (pv 0) (j0 (pv 1) ↥91))))
   (j9 (jj (jE (osc:=(j8 zJ)) (ON:=["_law_scene_here","_law_lane","_law_year_here","_law_ride_here"]) (N:=["_law_place","_law_ride_here"]) (own:=1) (caps:=[3]) ⟨rfl,∅,∅,∅,rfl,∅⟩ rfl rfl rfl (jY rfl z.b_range (j0 (jd (ja K) rfl z.b_len aH (j0 (ji (je K) (jw (jM v) (pv 0) jF (λ_ _=>rfl)) (pv 1) (λ_ _=>rfl)) j2)) j2)) (λ_ _ _ _ _=>(jc (i:=0) (show aS (["_law_place","_law_ride_here"]:List Str) by decide +kernel) rfl (aU rfl))) ↥14 (λ_ _ _ _ _=>(jk xE (pv 1) (pv 0))))))),?_⟩
  left
  simp only [gU,b0]
  refine Yo S r λH1 b=>?_
  have m:=S.frM b
  obtain ⟨I,D,B⟩:=m.gnd r
  left
  refine ⟨u,.ref c.gl,rfl,by rw [<- yl c.p c.q c.sg c.gl c.ll];exact qA.k (k:=.inr "grounds") m.sd,?_⟩
  left
  refine ⟨_,_,_,_,rfl,rfl,SqL.of m.gl,D,?_⟩
  left
  refine ⟨I,_,rfl,.inl (SqL.of B),?_⟩
  rw [aa]
  left
  refine ⟨(),(),λacc a=>?_⟩
  refine qq (lo:=0) (n:=(((jh c.rs t).length:Nat):Int).toNat) (acc:=acc) (λi σ H2=>∃x:Option V,σ=[x,some (.int (y+qy e y))]/\H2 acc=some (.lst ((xf (y+qy e y) i).map V.int))/\Ext acc H1 H2) ?_ ?_ ?_
  ·exact ⟨none,rfl,j4,Ext.put⟩
  ·rintro i σ H2 hi ⟨x,rfl,h2,d⟩
   left
   refine ⟨_,h2,by rw [aa,za];exact jb (),_,rfl,?_,d.trans Ext.put⟩
   unfold xf
   rw [j4,bW,aq,aq,dW]
   rfl
  ·rintro σ H2 ⟨x,rfl,h2,d⟩
   rw [aW] at h2
   left
   exact k acc H2 (b.no a) h2 (b.trans (FrM.of_same λc o C=>d c o C (j1 C a)))
noncomputable def kvD:Int->List Int->List (Int×Int)
 | _,[]=>[]
 | R,x::d=>(R,x)::kvD (R-1) d
theorem uW:∀(R:Int) (d:List Int),(kvD R d).length=d.length
 | _,[]=>rfl
 | R,x::d=>congrArg Nat.succ (uW (R-1) d)
theorem J5:∀(R:Int) (d:List Int) (p:Nat),(kvD R d)[p]? = d[p]?.map λx=>(R-(p:Int),x)
 | _,[],p=>rfl
 | R,x::d,0=>by
  show some (R,x)=some (R-((0:Nat):Int),x)
  rw [show R-((0:Nat):Int)=R by right]
 | R,x::d,p+1=>by
  show (kvD (R-1) d)[p]? = d[p]?.map _
  rw [J5 (R-1) d p,show R-1-(p:Int)=R-((p+1:Nat):Int) by right]
theorem Jn:∀(R:Int) (d:List Int) (k:Int),jL (kvD R d) k=if k<=R then d.getD (R-k).toNat 0 else 0
 | R,[],k=>by
  show (0:Int)=_
  split <;> rfl
 | R,x::d,k=>by
  have a:=Jn (R-1) d k
  show (if R=k then x else jL (kvD (R-1) d) k)=_
  by_cases e:R=k
  ·rw [if_pos e,if_pos (),show (R-k).toNat=0 by right]
   rfl
  ·rw [if_neg e,a]
   by_cases z:k<=R
   ·rw [if_pos z,if_pos (),show (R-k).toNat=(R-1-k).toNat+1 by right]
    rfl
   ·rw [if_neg z,if_neg ()]
theorem Qt:∀(R B:Int) (d:List Int),((kvD R d).filter λq=>decide (q.1<=B)).map (·.2)=d.drop (R-B).toNat
 | R,B,[]=>by rw [List.drop_nil];rfl
 | R,B,x::d=>by
  have a:=Qt (R-1) B d
  show (((R,x)::kvD (R-1) d).filter _).map _=_
  by_cases z:R<=B
  ·rw [cq (by rw [decide_eq_true (show (R,x).1<=B from z)]),aO,a,show (R-B).toNat=0 by right,show (R-1-B).toNat=0 by right]
   rfl
  ·rw [cp (by rw [decide_eq_false (show ¬(R,x).1<=B from z)];exact au),a,show (R-B).toNat=(R-1-B).toNat+1 by right]
   rfl
theorem QZ:∀{R:Int}{d:List Int}{q:Int×Int},q∈kvD R d->q.1<=R/\q.2∈d
 | _,[],_,h=>by cases h
 | R,x::d,q,h=>by
  rcases List.mem_cons.mp (show q∈(R,x)::kvD (R-1) d from h) with rfl | h
  ·exact ⟨pY _,aK ..⟩
  ·have:=QZ h
   exact ⟨(),aD _ this.2⟩
theorem Jx:∀(R:Int) (d:List Int) (x:Int),kvD R (d++[x])=kvD R d++[(R-(d.length:Int),x)]
 | R,[],x=>by
  show [(R,x)]=[(R-((0:Nat):Int),x)]
  rw [show R-((0:Nat):Int)=R by right]
 | R,y::d,x=>by
  show (R,y)::kvD (R-1) (d++[x])=(R,y)::(kvD (R-1) d++_)
  rw [Jx (R-1) d x,show R-1-(d.length:Int)=R-((y::d).length:Int) by rw [bc];right]
theorem Qx {R k:Int}:∀{d:List Int},k∈(kvD R d).map (·.1)->R-(d.length:Int)<k/\k<=R:=λ{d} h=>by
 obtain ⟨q,f,rfl⟩:=List.mem_map.mp h
 obtain ⟨p,c,e⟩:=List.mem_iff_getElem.mp f
 have a:=J5 R d p
 rw [ae c,e] at a
 have b:p<d.length:=by rw [<- uW R d];exact c
 rw [ae b] at a
 have:=aJ a
 rw [this]
 show R-(d.length:Int)<R-(p:Int)/\R-(p:Int)<=R
 right
theorem wJ:∀{ns:List (Int×Int)}{k:Int},¬k∈ns.map (·.1)->qe (ns.map kvI) (.inl k)=none
 | [],k,_=>rfl
 | q::r,k,h=>by
  rw [aO,show qe (kvI q::r.map kvI) (.inl k)=qe (r.map kvI) (.inl k) from js λw=>h (by rw [aO,ff w];exact aK ..)]
  exact wJ λz=>h (by rw [aO];exact aD _ z)
noncomputable def wP (z:List (Int×Int)) (gd:List Int) (wr:List (Int×T3)) (ts:List T3) (i:Nat) (ps:List (Int×Int)):Prop :=
 (i=0/\ps=[])\/∃j:Nat,i=j+1/\ps=kvD ((j:Int)+qy z (j:Int)) (qj z gd wr ts 0 i)
theorem wP.len {ts:List T3}{i:Nat}(h:wP z gd wr ts i ps):ps.length<=gd.length:=by
 rcases h with ⟨_,rfl⟩ | ⟨j,_,rfl⟩
 ·exact aT _
 ·rw [uW,qC]
  exact ar _
theorem wP.mem {ts:List T3}{i:Nat}(h:wP G gd wr ts i ps) {q:Int×Int}(z:q∈ps):q.2∈qj G gd wr ts 0 i:=by
 rcases h with ⟨_,rfl⟩ | ⟨j,_,rfl⟩
 ·cases z
 ·exact (QZ z).2
theorem wP.nodup {ts:List T3}{i:Nat}(h:wP G gd wr ts i ps):(ps.map (·.1)).Nodup:=by
 have go:∀(d:List Int) (R:Int),((kvD R d).map (·.1)).Nodup:=λd=>by
  induction d with
  | nil=>exact λ_=>.nil
  | cons x d a =>
   intro R
   show (R::(kvD (R-1) d).map (·.1)).Nodup
   exact List.nodup_cons.mpr ⟨λz=>by have:=Qx z;right,a _⟩
 rcases h with ⟨_,rfl⟩ | ⟨j,_,rfl⟩
 ·exact .nil
 ·exact go _ _
theorem QR {s:Nat}{d:List Int}(j:∀x∈d,x=0) (p:Nat):(jB s d).getD p 0=0:=by
 rw [aj]
 cases e:(jB s d)[p]? with
 | none=>rfl
 | some x =>
  rcases yU (aB e) with z | z
  ·exact z
  ·exact j x z
theorem gx (j:List (Int×Int)) (gd:List Int) (wr:List (Int×T3)) (ts:List T3):∀x∈qj j gd wr ts 0 0,x=0:=λx a=>(List.mem_replicate.mp a).2
theorem wP.high {G:List (Int×Int)}{ts:List T3}(U:(G.map (·.1)).Nodup) (Y:∀y,0<=jL G y) {i:Nat}(h:wP G gd wr ts i ps) {p:Nat}(hp:p<gd.length) :
  jL ps ((i:Int)+qy G (i:Int)-(p:Int))=(jB (jI G gd.length (0+(i:Int))) (qj G gd wr ts 0 i)).getD p 0:=by
 rcases h with ⟨rfl,rfl⟩ | ⟨j,rfl,rfl⟩
 ·rw [QR (gx G gd wr ts)]
  rfl
 ·have st:=vi U (j:Int)
  rw [show (j:Int)+1=↥49 by right] at st
  have a:=Y ↥49
  have b:=qC G gd wr ts 0 (j+1)
  have c:jI G gd.length (0+ ↥49)=(min (1+jL G ↥49) (gd.length:Int)).toNat:=by unfold jI;rw [dW]
  rw [Jn]
  generalize qj G gd wr ts 0 (j+1)=d at *
  generalize jI G gd.length (0+ ↥49)=s at *
  unfold jB
  by_cases z:p<s
  ·rw [if_neg (),aj,cB (by rw [bE];exact z),fL,if_pos z]
   rfl
  ·rw [if_pos (),aj,aj,cu (by rw [bE];right),bE,eP,if_pos (),show ((j:Int)+qy G (j:Int)-(↥49+qy G ↥49-(p:Int))).toNat=p-s by right]
theorem wP.gone {z:List (Int×Int)}{gd:List Int}{wr:List (Int×T3)}{ts:List T3}(G:(z.map (·.1)).Nodup) (U:∀y,0<=jL z y) {i:Nat}(h:wP z gd wr ts i ps) :
  ((ps.filter λq=>decide (¬q.1∈xf ((i:Int)+qy z (i:Int)) gd.length)).map (·.2)).sum=((qj z gd wr ts 0 i).drop ((qj z gd wr ts 0 i).length-jI z gd.length (0+(i:Int)))).sum:=by
 rcases h with ⟨rfl,rfl⟩ | ⟨j,rfl,rfl⟩
 ·show (0:Int)=_
  have:∀{l:List Int},(∀x∈l,x=0)->l.sum=0:=λ{l} a=>by
   induction l with
   | nil=>rfl
   | cons x r b=>rw [ir,a x (aK ..),b λy c=>a y (aD _ c)];rfl
  exact (this λx f=>gx z gd wr ts x (nj f)).symm
 ·have st:=vi G (j:Int)
  rw [show (j:Int)+1=↥49 by right] at st
  have k:=U ↥49
  have m:=qC z gd wr ts 0 (j+1)
  have n:jI z gd.length (0+ ↥49)=(min (1+jL z ↥49) (gd.length:Int)).toNat:=by unfold jI;rw [dW]
  generalize qj z gd wr ts 0 (j+1)=d at *
  generalize jI z gd.length (0+ ↥49)=s at *
  have e:(kvD ((j:Int)+qy z (j:Int)) d).filter (λq=>decide (¬q.1∈xf (↥49+qy z ↥49) gd.length))=(kvD ((j:Int)+qy z (j:Int)) d).filter λq=>decide (q.1<=↥49+qy z ↥49-(gd.length:Int)):=by
   refine List.filter_congr λq g=>?_
   have h1:=(QZ g).1
   rw [decide_eq_decide,Zo]
   right
  rw [e,Qt,show ((j:Int)+qy z (j:Int)-(↥49+qy z ↥49-(gd.length:Int))).toNat=d.length-s by right]
noncomputable def W9 (H:Hp) (j:List V) (qs:List QC):Prop:=cJ (λv (q:QC)=>∃b dl,v=V.ref b/\H b=some ↥28/\H dl=some ↥60) j qs
theorem FrM.two {H2:Hp}(f:FrM M H H1) (z:H la=none) (j:H mv=none) (e:∀a o,H1 a=some o->a≠la->a≠mv->H2 a=some o):FrM M H H2:=λa o b=>by
 have d:a≠la:=j1 b z
 have c:a≠mv:=j1 b j
 rcases f a o b with h | ⟨m,g,kvs,i,h⟩
 ·exact .inl (e a o h d c)
 ·exact .inr ⟨m,g,kvs,i,e a _ h d c⟩
theorem Zk {m:List Int}{p:Nat}{x:Int}(h:m[p]? = some x):((m.take (p+1)).filter λx=>decide (0<x)).sum=(↥48).sum+(if 0<x then x else 0):=by
 rw [ba,h,bP,rn]
 show _+(fk _ [x]).sum=_
 by_cases z:0<x
 ·rw [cq (by rw [decide_eq_true z]),if_pos z]
  show _+(x+0)=_
  right
 ·rw [cp (by rw [decide_eq_false z];exact au),if_neg z]
  rfl
theorem YO {m:List Int}{p:Nat}{x:Int}(h:m[p]? = some x):(m.take (p+1)).sum=(m.take p).sum+x:=by
 rw [ba,h,rn]
 show _+(x+0)=_
 right
theorem Zh {A S G j:Int}(Y:0<=G) (U:j<0):A+(if 0<(if j > -G then j else -G) then (if j > -G then j else -G) else 0)=A/\A-(S+(if j > -G then j else -G))=A-S+(if (if G+j > 0 then G+j else 0)-G<0 then -((if G+j > 0 then G+j else 0)-G) else (if G+j > 0 then G+j else 0)-G):=by
 by_cases z:j > -G
 ·rw [if_pos z,if_pos (show G+j > 0 by right),if_neg (show ¬0<j by right),if_pos (show G+j-G<0 by right)]
  right
 ·rw [if_neg z,if_neg (show ¬G+j > 0 by right),if_neg (show ¬0 < -G by right)]
  refine ⟨(),?_⟩
  split <;> right
theorem Z1 {A S j wsh:Int}(G:0<=j) (z:¬wsh<0):A+(if 0< ↥92 then ↥92 else 0)=A+(if (if j+wsh > 0 then j+wsh else 0)-j<0 then -((if j+wsh > 0 then j+wsh else 0)-j) else (if j+wsh > 0 then j+wsh else 0)-j)/\A+(if 0< ↥92 then ↥92 else 0)-(S+ ↥92)=A-S:=by
 have c: ↥92=wsh:=by split <;> right
 have b:(if j+wsh > 0 then j+wsh else 0)=j+wsh:=by split <;> right
 have a:(if 0<wsh then wsh else 0)=wsh:=by split <;> right
 rw [c,b,a,if_neg (show ¬j+wsh-j<0 by right)]
 right
inductive spDepths  (vs:List V) (H:Hp) (Q:VK) (z_3:XK):Prop
 | mk (sd:Addr) (c:ScN) (g:IceG) (l last:Int) (wy:List Int) (da:Addr) (dn ms:List (Int×Int)) (wr:List (Int×T3)) (_:vs=[.ref sd,.int l,.int last]) (_:ScAt H sd c) (_:LaneF c g l wy da dn) (_:ms.Perm dn) (_:zR H c.sk wr) (_:1<=c.ts.length) (_:c.ts.length<=1000) (_:(∀z,good (qp wr c.ts z)=true)) (_ : -1<=last) (_:last<900) (_:∀o out H',H o=none->H' o=some (.lst out)->W9 H' out (qR ms (jh c.rs wy) wr c.ts 0 (last+1).toNat)->FrM c.D H H'->Q (.ref o) H')
theorem jD:FnScope ["_law_scene_here","_law_lane","_law_last","_law_piles","_law_found","_law_year_here","_law_marks_here","_law_gone","_law_later","_law_moves","_law_place","_law_one","_law_high","_law_wish_here"] ["_law_scene_here","_law_lane","_law_last"] (j8 xp):=by walk_at "s"
theorem Za (nb:Nb2 mg) (dF:mg "abs" = none) (a5:Cal P w K mg base 2 "_law_marks" ["_law_scene_here","_law_lane","_law_year_here"] spMarks) (bq:Cal P w K mg base 1 "_law_wish" ["_law_row_here","_law_height"] spWish) (bv:Cal P w K mg base 1 "_law_row" ["_law_scene_here","_law_year_here"] spRowL)
  (F:Fun K "_law_depths" "_law_depths" xp f fd):FnOk P w K mg base CX0 3 f fd ["_law_scene_here","_law_lane","_law_last"] spDepths:=by
 refine F.ok jD ↥58 (λgf A outer s H vs Q E hr h=>?_)
 ·obtain ⟨sd,c,g,l,b2,wy,da,dn,d,wr,rfl,_⟩:=h
  rfl
 ·obtain ⟨sd,c,g,l,b2,wy,da,dn,d,wr,rfl,S,LF,hp,hw,t1,t2,sg,fy,fx,k⟩:=h
  have ge:=LF.g30
  have g1:=LF.g1
  have d1:(d.map (·.1)).Nodup:=(hp.map (·.1)).nodup_iff.mpr LF.nd
  have hv:∀z,0<=jL d z:=λz=>(uX (λq hq=>by have:=LF.b q (hp.mem_iff.mp hq);right) z).1
  have er:=λy=>Xd hp y
  have fu:=λ{H':Hp} (S':ScAt H' sd c)=>S'.gnd LF
  generalize e8:jh c.rs wy=gd at *
  refine ⟨_,(j6 (zc (i:=3) jD.nd rfl (fI rfl) y3)
   (j6 (jz 4 jD.nd (jS j2))
   (j6 (qK bj rfl (jY rfl nb.b_range (j0 (jk jO (pv 2) j5) j2)) (jc (i:=5) jD.nd rfl (aU rfl)) (j6 (zc (i:=6) jD.nd rfl (fI rfl) (jg a5 (hr.mono ⋯) rfl (j0 (pv 0) (j0 (pv 1) (j0 (pv 5) j2)))))
   (j6 (jz 7 jD.nd (jd (yY K rfl) rfl nb.b_sum ni (j0 (jE (osc:=(j8 xp)) (ON:=["_law_scene_here","_law_lane","_law_last","_law_piles","_law_found","_law_year_here","_law_marks_here","_law_gone","_law_later","_law_moves","_law_place","_law_one","_law_high","_law_wish_here"]) (N:=["_law_one","_law_piles","_law_marks_here"]) (own:=1) (caps:=[3,6]) ⟨rfl,∅,∅,∅,rfl,∅⟩ rfl rfl rfl (w5 (pv 3)) (λ_ _ _ _ _=>(jc (i:=0) (show aS (["_law_one","_law_piles","_law_marks_here"]:List Str) by decide +kernel) rfl (aU rfl))) (λ_ _ _ _ _=>(zj (jv (xG K) (pv 0) (pv 2) ↥56))) (λ_ _ _ _ _=>(jw (jM hr) (pv 1) (pv 0) (λ_ _=>rfl)))) j2)))
   (j6 (jz 8 jD.nd y3)
   (j6 (jz 9 jD.nd (jS ↥132))
   (j6 (qK bj rfl (ua K rfl nb.b_enumerate (j0 (pv 6) j2)) (qt (n:=2) K rfl (jn (jc (i:=10) jD.nd rfl (aU rfl)) (jn (jc (i:=11) jD.nd rfl (aU rfl)) qu))) (j6 (jz 12 jD.nd (wd (jM hr) (pv 3) (pv 11) j5 ⟨rfl,rfl,rfl,rfl⟩))
   (j6 (jz 13 jD.nd (jg bq (hr.mono ⋯) rfl (j0 (jg bv (hr.mono ⋯) rfl (j0 (pv 0) (j0 (pv 5) j2))) (j0 (ji (je K) (ji (je K) (jw (jM hr) (pv 0) jF (λ_ _=>rfl)) (pv 1) (λ_ _=>rfl)) (pv 10) (λ_ _=>rfl)) j2))))
   (j6 (yn (jM hr) (pv 8) (pv 11) (jd (ux rfl) rfl nb.b_max nh (j0 j5 (j0 (jk jO (pv 12) (pv 13)) j2))) rfl)
   (j9 (Vv (pv 9) (qd Zy rfl nb.b_int mK (j0 (ym vP (pv 13) j5 (jK _)) j2)) (YG K) (jd Yr rfl dF boot_abs (j0 (jk xE (jw (jM hr) (pv 8) (pv 11) (λ_ _=>rfl)) (pv 12)) j2)) U7 yE))))))
   (j6 (zc (i:=3) jD.nd rfl (fI rfl) (pv 8))
   (j9 (jU (zM K bC bG bH qk (pv 4) (j0 (xV (j0 (jE (osc:=(j8 xp)) (ON:=["_law_scene_here","_law_lane","_law_last","_law_piles","_law_found","_law_year_here","_law_marks_here","_law_gone","_law_later","_law_moves","_law_place","_law_one","_law_high","_law_wish_here"]) (N:=["_law_one","_law_piles"]) (own:=1) (caps:=[3]) ⟨rfl,∅,∅,∅,rfl,∅⟩ rfl rfl rfl (jN K (pv 6)) (λ_ _ _ _ _=>(jc (i:=0) (show aS (["_law_one","_law_piles"]:List Str) by decide +kernel) rfl (aU rfl))) ↥14 (λ_ _ _ _ _=>(jw (jM hr) (pv 1) (pv 0) (λ_ _=>rfl)))) (j0 (ji (je K) (pv 9) j5 (λ_ _=>rfl)) (j0 (ji (je K) (pv 9) j5 (λ_ _=>rfl)) (j0 (pv 7) j2))))) j2)))))))))))
   (j9 (jj (pv 4)))))),?_⟩
  left
  intro d0 c2
  left
  refine ⟨aT _,λfo H2 ei ds s2=>?_⟩
  have f1:FrM c.D H (upd H d0 (.dK [])):=(FrM.of_same (jf.refl H)).put c2
  have dc:H fo=none:=f1.no ei
  left
  refine ⟨(),(),?_⟩
  refine xk (λi σ H6=>∃(x5 x6 x7 x8 x9 an am al ai:Option V) (O:Addr) (ps:List (Int×Int)) (Y:List V),σ=[some (.ref sd),some (.int l),some (.int b2),some (.ref O),some (.ref fo),x5,x6,x7,x8,x9,an,am,al,ai]/\H O=none/\H6 O=some (.dK (ps.map kvI))/\wP d gd wr c.ts i ps/\H6 fo=some (.lst Y)/\Y.length=i/\cJ (λv (q:QC)=>∃b dl,v=V.ref b/\H6 b=some ↥28/\H6 dl=some ↥60/\dl≠fo) Y (qR d gd wr c.ts 0 i)/\FrM c.D H H6) ?_ ?_ ?_
  ·exact ⟨_,_,_,_,_,_,_,_,_,d0,[],[],rfl,c2,s2 _ _ j4,.inl ⟨rfl,rfl⟩,ds,rfl,.nil,f1.trans (FrM.of_same s2)⟩
  ·clear f1 ei ds s2
   rintro i σ H6 hi ⟨x5,x6,x7,x8,x9,an,am,al,ai,O,ps,Y,rfl,b4,b6,a2,bl,eg,r6,f6⟩
   have gb:i<900:=()
   have S6:=S.frM f6
   left
   refine ⟨sd,c,g,l,_,wy,da,dn,rfl,S6,LF,λmk H7 e6 b9 f7=>?_⟩
   rw [e8,<- er,dW] at b9
   have b5:=f7.dk b6 (S.D_none b4)
   have dp:=f7.at bl ↥3
   have r7:cJ (λv (q:QC)=>∃b dl,v=V.ref b/\H7 b=some ↥28/\H7 dl=some ↥60/\dl≠fo) Y (qR d gd wr c.ts 0 i):=Paired.mapP r6 λv q ⟨b,dl,e,J,M,q3⟩=>⟨b,dl,e,f7.at J ↥3,f7.at M ↥3,q3⟩
   have en:=f6.trans f7
   clear b6 bl r6 S6
   have hR:(i:Int)+qy d (i:Int)=(i:Int)+qy d (i:Int):=rfl
   have dD:=a2.gone d1 hv
   have dy:=λ{p:Nat} (h:p<gd.length)=>a2.high d1 hv h
   have f4:=a2.len
   have ea:=λ{q:Int×Int} (h:q∈ps)=>Jq (ns:=d) (gd:=gd) (fst:=0) sg i _ (a2.mem h)
   have e4:=a2.nodup
   clear a2
   have fl:=qC d gd wr c.ts 0 i
   have f3:=wB d gd.length (0+(i:Int))
   have el:yd d gd wr c.ts 0 i=ui gd ↥83 (jI d gd.length (0+(i:Int))) (qj d gd wr c.ts 0 i):=rfl
   have ek:qj d gd wr c.ts 0 (i+1)=(ui gd ↥83 (jI d gd.length (0+(i:Int))) (qj d gd wr c.ts 0 i)).2.2.2:=rfl
   have ew: (↥43).length=gd.length:=by rw [yi (),fl]
   have ex:∀x∈jB (jI d gd.length (0+(i:Int))) (qj d gd wr c.ts 0 i),0<=x:=λx hx=>by
    rcases yU hx with e | e
    ·right
    ·exact (Jq (ns:=d) (gd:=gd) (fst:=0) sg i x e).1
   have f9:=wN (t:=qp wr c.ts (0+(i:Int))) ew
   generalize fr:(i:Int)+qy d (i:Int)=R at *
   clear hR
   unfold ui at el ek
   generalize ec:yg ↥83 ↥43 gd=m at *
   have db:∀{p:Nat},p<gd.length->m[p]? = some (if chg ↥83 (gd.getD p 0) > - (↥43).getD p 0 then chg ↥83 (gd.getD p 0) else- (↥43).getD p 0):=λ{p} h=>by
    rw [<- ec]
    unfold yg
    rw [cG,ae (),ae h,aj,aj,ae h,ae (show p< (↥43).length by right)]
    rfl
   clear ec
   generalize gc:((qj d gd wr c.ts 0 i).drop ((qj d gd wr c.ts 0 i).length-jI d gd.length (0+(i:Int)))).sum=fs at *
   generalize jB (jI d gd.length (0+(i:Int))) (qj d gd wr c.ts 0 i)=sh at *
   generalize c4:cV (· + ·) sh m=I at *
   have f8:I.length=gd.length:=by rw [<- c4,eC];right
   have ey:∀{p:Nat},p<gd.length->I[p]? = some (if sh.getD p 0+chg ↥83 (gd.getD p 0) > 0 then sh.getD p 0+chg ↥83 (gd.getD p 0) else 0):=λ{p} h=>by
    rw [<- c4,cG,db h,ae (show p<sh.length by right)]
    show some (sh[p]+_)=_
    have e:sh.getD p 0=sh[p]:=by rw [aj,ae (show p<sh.length by right)];rfl
    rw [e]
    congr 1
    split <;> split <;> right
   clear c4
   have fp:∀q∈ps,-(2 ^ 20)<=q.2/\q.2<=2 ^ 20:=λq hq=>by have:=ea hq;right
   clear ea
   left
   refine ⟨O,_,rfl,.inl ⟨b5,λob acc a4=>?_⟩⟩
   have n8:∀{a:Addr} {o:HO},H7 a=some o->(∀kvs,o≠.dK kvs)->(upd H7 O ↥78) a=some o:=λh n=>by rw [j7 (jm h b5 (n _))];exact h
   have ac:(upd H7 O ↥78) O=some ↥78:=j4
   have a9:=n8 b9 ↥3
   have dd:=n8 dp ↥3
   have r8:cJ (λv (q:QC)=>∃b dl,v=V.ref b/\(upd H7 O ↥78) b=some ↥28/\(upd H7 O ↥78) dl=some ↥60/\dl≠fo) Y (qR d gd wr c.ts 0 i):=Paired.mapP r7 λv q ⟨b,dl,e,J,M,q3⟩=>⟨b,dl,e,n8 J ↥3,n8 M ↥3,q3⟩
   have em:FrM c.D H (upd H7 O ↥78):=en.put b4
   clear n8 b5 b9 dp r7 en f7 e6
   generalize upd H7 O ↥78=H8 at *
   refine kZ (a:=O) (acc:=acc) (o:=ob) (kvs:=ps.map kvI) (λj σ H9=>∃x:Option V,σ=[x,some (.ref O),some (.ref mk)]/\H9 acc=some (.lst ((((ps.take j).filter λq=>decide (¬q.1∈xf R gd.length)).map (·.2)).map V.int))/\Ext acc H8 H9) ⟨none,rfl,j4,Ext.put⟩ ?_ ?_ ?_
   ·rintro j σ H9 hj ⟨x,rfl,h9,e9⟩
    exact e9 _ _ ac (j1 ac a4)
   ·rintro j q σ H9 hq ⟨x,rfl,h9,e9⟩
    obtain ⟨z,hz,rfl⟩:=QI hq
    have d2:=aB hz
    have hj:j<ps.length:=(List.getElem?_eq_some_iff.mp hz).1
    have ab:=e9 _ _ ac (j1 ac a4)
    have e7:((((ps.take j).filter λq=>decide (¬q.1∈xf R gd.length)).map (·.2)).map V.int).length<=100:=by
     rw [aa,aa]
     exact aI (bO _ _) (by rw [aE];right)
    show uf 0 (V.int z.1) _ _ _
    left
    refine ⟨mk,_,rfl,.inl (SqL.of (e9 _ _ a9 (j1 a9 a4))),rfl,zZ _,?_⟩
    left
    rw [yI]
    refine zS (λbr=>?_) (λbr=>?_)
    ·left
     refine ⟨O,V.int z.2,rfl,?_,_,h9,bZ e7 ⋯,_,rfl,?_,e9.trans Ext.put⟩
     ·have:=xY ps z.1 (bf d2)
      rw [yX e4 d2] at this
      rw [<- this]
      exact .inl ⟨_,.inl z.1,.inr ⟨ob,ab⟩,rfl,rfl⟩
     ·rw [j4,ba,hz,dE,bP,cq (by rw [decide_eq_true br]),aq,aq]
      rfl
    ·refine ⟨_,rfl,?_,e9⟩
     rw [ba,hz,dE,bP,cp (by rw [decide_eq_false (λw=>w br)];exact au),iM,b0]
     exact h9
   rintro σ H9 ⟨x,rfl,h9,e9⟩
   have s9:jf H8 H9:=λc o hc=>e9 c o hc (j1 hc a4)
   rw [aa,aX] at h9
   left
   refine ⟨acc,_,rfl,SqL.of h9,by rw [aa];exact aI (bO _ _) (),λn hn=>?_,?_⟩
   ·obtain ⟨q,hq,rfl⟩:=List.mem_map.mp hn
    exact fp q (List.mem_filter.mp hq).1
   rw [dD]
   have dt:=em.trans (FrM.of_same s9)
   have ab:=s9 _ _ ac
   have a8:=s9 _ _ a9
   have bk:=s9 _ _ dd
   have r9:=Paired.mapP r8 (G:=λv (q:QC)=>∃b dl,v=V.ref b/\H9 b=some ↥28/\H9 dl=some ↥60/\dl≠fo) λv q ⟨b,dl,e,J,M,q3⟩=>⟨b,dl,e,s9 _ _ J,s9 _ _ M,q3⟩
   clear em ac a9 dd r8 h9 e9 s9 a4
   left
   intro la a6
   have be:=dt.no a6
   have a1:jf H9 (upd H9 la (.dK [])):=jf.new a6
   left
   refine ⟨by show 2<=sizeLine;decide,λmv bN ap cm ce=>?_⟩
   have cb:FrM c.D H (upd H9 la (.dK [])):=dt.put be
   have c9:=cb.no ap
   have aL:=ce _ _ (j4 (H:=H9) (a:=la) (o:=.dK []))
   have Z:=a1.trans ce
   have ca:=cb.trans (FrM.of_same ce)
   have ci:=Z _ _ ab
   have as:=Z _ _ a8
   have cs:=Z _ _ bk
   have dV:=Paired.mapP r9 (G:=λv (q:QC)=>∃b dl,v=V.ref b/\bN b=some ↥28/\bN dl=some ↥60/\dl≠fo/\dl≠mv/\b≠mv) λv q ⟨b,dl,e,J,M,q3⟩=>⟨b,dl,e,Z _ _ J,Z _ _ M,q3,j1 (a1 _ _ M) ap,j1 (a1 _ _ J) ap⟩
   have b1:mv≠la:=(j1 j4 ap).symm
   have cL:mk≠la:=j1 a8 a6
   have cy:mk≠mv:=j1 (a1 _ _ a8) ap
   have et:O≠la:=j1 ab a6
   have es:O≠mv:=j1 (a1 _ _ ab) ap
   have eH:fo≠la:=j1 bk a6
   have eD:fo≠mv:=j1 (a1 _ _ bk) ap
   clear dt ab a8 bk r9 a1 cb Z ce a6 ap
   left
   refine ⟨⟨_,SqL.of as⟩,?_⟩
   refine wz (K:=K) (a:=mk) (xs:=(xf R gd.length).map V.int) (λp σ C=>∃an am al ai:Option V,σ=[some (.ref sd),some (.int l),some (.int b2),some (.ref O),some (.ref fo),some (.int (0+(i:Int))),some (.ref mk),some (.int fs),some (.ref la),some (.ref mv),an,am,al,ai]/\C la=some (.dK ((kvD R (I.take p)).map kvI))/\C mv=some (.lst [.int (↥48).sum,.int ((↥48).sum-(m.take p).sum)])/\∀a o,bN a=some o->a≠la->a≠mv->C a=some o) ?_ ?_ ?_ ?_
   ·exact ⟨_,_,_,_,rfl,aL,cm,λa o h _ _=>h⟩
   ·rintro p σ C f5 ⟨an,am,al,ai,rfl,r,B,U⟩
    exact SqL.of (U _ _ as cL cy)
   ·rintro p v σ C t c1 ⟨an,am,al,ai,rfl,r,B,U⟩ ht
    obtain ⟨one,rfl,u⟩:=xj c1
    have a3:p<gd.length:=by have:=(List.getElem?_eq_some_iff.mp u).1;rw [za] at this;exact this
    rw [Qr a3] at u
    have u:=aJ u
    subst u
    have f2:t≠la:=(j1 r ht).symm
    have f0:t≠mv:=(j1 B ht).symm
    have sT:jf C (upd C t (.tup [.int (p:Int),.int (R-(p:Int))])):=jf.new ht
    have cr:=sT _ _ r
    have cl:=sT _ _ B
    have T:∀a o,bN a=some o->a≠la->a≠mv->(upd C t (.tup [.int (p:Int),.int (R-(p:Int))])) a=some o:=λa o h n1 n2=>sT _ _ (U a o h n1 n2)
    left
    refine ⟨t,_,rfl,SqT.of j4,rfl,?_⟩
    refine ⟨_,_,rfl,_,_,rfl,rfl,?_⟩
    left
    clear r B U ht
    generalize upd C t (.tup [.int (p:Int),.int (R-(p:Int))])=H13 at *
    have ch:=T _ _ ci et es
    have dx:=ca.two be c9 T
    have ct:=S.frM dx
    have eu:=hw.keep (FrM.keepT dx)
    obtain ⟨ga,fv,fa⟩:=fu ct
    refine ⟨.inl ⟨_,.inr ⟨ob,ch⟩⟩,?_⟩
    left
    refine ⟨_,.inl ⟨_,.inl (R-(p:Int)),.inr ⟨ob,ch⟩,rfl,rfl⟩,?_⟩
    rw [uk,dy a3]
    left
    refine ⟨sd,c,0+(i:Int),wr,rfl,ct,eu,t1,t2,λtr e2=>?_⟩
    left
    refine ⟨sd,.ref c.gl,rfl,by rw [<- yl c.p c.q c.sg c.gl c.ll];exact qA.k (k:=.inr "grounds") ct.sd,?_⟩
    left
    refine ⟨_,_,_,_,rfl,rfl,SqL.of ct.gl,fv,?_⟩
    left
    refine ⟨_,_,_,_,rfl,rfl,SqL.of fa,qO (v:=V.int (gd.getD p 0)) () (by rw [aW,aw,aj,ae a3];rfl),?_⟩
    left
    refine ⟨tr,_,_,rfl,e2,?_⟩
    left
    have ed:=db a3
    have e5:=ey a3
    have eh:0<=sh.getD p 0:=by
     rw [aj,ae (show p<sh.length by right)]
     exact ex _ (bL _)
    generalize chg ↥83 (gd.getD p 0)=X at *
    generalize sh.getD p 0=hg at *
    refine ⟨_,_,rfl,?_⟩
    left
    refine ⟨la,_,rfl,wA.k (k:=.inl (R-(p:Int))) cr (by rw [aa,uW,aE];exact jb ()),?_⟩
    rw [zV _ (wJ λz=>by have:=Qx z;rw [aE] at this;right)]
    have bt:(kvD R (I.take p)).map kvI++[((.inl (R-(p:Int)):Key),V.int (if hg+X > 0 then hg+X else 0))]=(kvD R (I.take (p+1))).map kvI:=by
     rw [ba,e5,dE,Jx,aq,aE,iN ()]
     rfl
    have bt:(kvD R (I.take p)).map kvI++[((.inl (R-(p:Int)):Key),V.int (if hg+X > 0 then hg+X else 0))]=(kvD R (I.take (p+1))).map kvI:=bt
    rw [bt]
    have ej:=Zk ed
    have d3:=YO ed
    have b3:qe ↥81 (.inl (R-(p:Int)))=some (.int (if hg+X > 0 then hg+X else 0)):=by
     rw [<- bt]
     exact (kU _ _ _ _ (wJ λz=>by have:=Qx z;rw [aE] at this;right)).trans (if_pos rfl)
    have fz:(upd H13 la (.dK ↥81)) mv=some (.lst [.int (↥48).sum,.int ((↥48).sum-(m.take p).sum)]):=by rw [j7 b1];exact cl
    have eo:∀a o,bN a=some o->a≠la->a≠mv->(upd H13 la (.dK ↥81)) a=some o:=λa o h n1 n2=>by rw [j7 n1];exact T a o h n1 n2
    have bi:(upd H13 la (.dK ↥81)) la=some (.dK ↥81):=j4
    clear cr cl T bt
    generalize upd H13 la (.dK ↥81)=eq at *
    left
    have dg:qA eq la (.int (R-(p:Int))) (some (.int (if hg+X > 0 then hg+X else 0))):=by
     rw [<- b3]
     exact qA.k (k:=.inl (R-(p:Int))) bi
    refine fI ⟨_,rfl,?_⟩
    by_cases a7:X<0
    ·rw [if_pos (decide_eq_true a7)]
     left
     refine ⟨la,_,rfl,dg,?_⟩
     left
     refine ⟨_,_,_,_,rfl,?_,?_,λa o h n1 n2=>by rw [j7 n2];exact eo a o h n1 n2⟩
     ·rw [j7 b1.symm]
      exact bi
     ·obtain ⟨J,M⟩:=Zh (A:=(↥48).sum) (S:=(m.take p).sum) eh a7
      rw [j4,ej,d3,J,M]
      rfl
    ·rw [if_neg (by rw [decide_eq_false a7];exact au)]
     left
     refine ⟨la,_,rfl,dg,?_⟩
     left
     refine ⟨_,_,_,_,rfl,?_,?_,λa o h n1 n2=>by rw [j7 n2];exact eo a o h n1 n2⟩
     ·rw [j7 b1.symm]
      exact bi
     ·obtain ⟨J,M⟩:=Z1 (A:=(↥48).sum) (S:=(m.take p).sum) eh a7
      rw [j4,ej,d3,M,J]
      rfl
   rintro σ C ⟨an,am,al,ai,rfl,r,B,U⟩
   rw [aa,za,bw ()] at r
   rw [aa,za,bw ()] at B
   have bd:=U _ _ as cL cy
   have a0:=U _ _ cs eH eD
   have eT:=ca.two be c9 U
   have e1:=Paired.mapP dV (G:=λv (q:QC)=>∃b dl,v=V.ref b/\C b=some ↥28/\C dl=some ↥60/\dl≠fo) λv q ⟨b,dl,e,J,M,q3,q4,q5⟩=>⟨b,dl,e,U _ _ J (jm J aL ↥4) q5,U _ _ M (jm M aL ↥4) q4,q3⟩
   clear U as cs dV ci ca aL cm
   left
   refine ⟨.inl ⟨rfl,_,SqL.of a0⟩,?_⟩
   left
   refine ⟨⟨_,SqL.of bd⟩,λdl bn=>?_⟩
   refine jJ (K:=K) (a:=mk) (xs:=(xf R gd.length).map V.int) (acc:=dl) (λj σ H13=>∃x:Option V,σ=[x,some (.ref la)]/\H13 dl=some (.lst ((I.take j).map V.int))/\Ext dl C H13) ?_ ?_ ?_ ?_
   ·exact ⟨none,rfl,j4,Ext.put⟩
   ·rintro j σ H13 hj ⟨x,rfl,bs,T⟩
    exact SqL.of (T _ _ bd (j1 bd bn))
   ·rintro j v σ H13 c1 ⟨x,rfl,bs,T⟩
    obtain ⟨one,rfl,u⟩:=xj c1
    have hj:j<gd.length:=by have:=(List.getElem?_eq_some_iff.mp u).1;rw [za] at this;exact this
    rw [Qr hj] at u
    have u:=aJ u
    subst u
    have eb:I[j]? = some (I.getD j 0):=by rw [aj,ae ()];rfl
    have b3:qe ((kvD R I).map kvI) (.inl (R-(j:Int)))=some (.int (I.getD j 0)):=by
     have br:R-(j:Int)∈(kvD R I).map (·.1):=List.mem_map.mpr ⟨(R-(j:Int),I.getD j 0),aB (i:=j) (by rw [J5,eb];rfl),rfl⟩
     rw [xY _ _ br,Jn,if_pos (),show (R-(R-(j:Int))).toNat=j by right]
    left
    refine ⟨la,_,rfl,(by rw [<- b3];exact qA.k (k:=.inl (R-(j:Int))) (T _ _ r (j1 r bn))),?_⟩
    refine ⟨_,bs,by rw [aa,aE];exact jb (),_,rfl,?_,T.trans Ext.put⟩
    rw [j4,ba,eb,aq]
    rfl
   rintro σ H13 ⟨x,rfl,bs,T⟩
   have cd:jf C H13:=λc o hc=>T c o hc (j1 hc bn)
   rw [aa,za,bw ()] at bs
   left
   refine ⟨_,_,_,_,rfl,rfl,SqL.of (cd _ _ B),rfl,?_⟩
   left
   refine ⟨_,_,_,_,rfl,rfl,SqL.of (cd _ _ B),rfl,?_⟩
   left
   refine ⟨by show 4<=sizeLine;decide,λtq eq e3 ev dT=>?_⟩
   have L:=cd.trans dT
   have bm:=L _ _ a0
   refine ⟨_,_,_,rfl,rfl,bm,jb (),?_⟩
   have e0:tq≠fo:=(j1 (cd _ _ a0) e3).symm
   have ep:dl≠fo:=(j1 a0 bn).symm
   refine ⟨_,_,_,_,_,_,_,_,_,la,kvD R I,Y++[.ref tq],rfl,be,?_,.inr ⟨i,rfl,by rw [fr,ek]⟩,j4,by rw [ay,eg];rfl,?_,(eT.trans (FrM.of_same L)).put dc⟩
   ·rw [j7 (jm (L _ _ r) bm ↥4)]
    exact L _ _ r
   ·rw [ue,el]
    refine cZ (Paired.mapP e1 λv q ⟨b,fw,e,J,M,q3⟩=>⟨b,fw,e,?_,?_,q3⟩) ⟨tq,dl,rfl,by rw [j7 e0];exact ev,by rw [j7 ep];exact dT _ _ bs,ep⟩
    ·rw [j7 (jm (L _ _ J) bm ↥4)]
     exact L _ _ J
    ·rw [j7 q3]
     exact L _ _ M
  ·rintro σ H6 ⟨x5,x6,x7,x8,x9,an,am,al,ai,O,ps,Y,rfl,b4,b6,a2,bl,eg,r6,f6⟩
   left
   exact k fo Y H6 dc bl (Paired.mapP r6 λv q ⟨b,dl,e,J,M,_⟩=>⟨b,dl,e,J,M⟩) f6
theorem Zm {len:Nat}{y:Int}(h:0<=jL ns y) (j:1<=len):1<=jI ns len y:=by
 unfold jI
 right
theorem YR {s:Nat}{d d':List Int}(j:d.length=d'.length) (G:1<=s) {i p:Nat}(U:p<i+1) (h:∀q,q<i->d[q]? = d'[q]?):(jB s d)[p]? = (jB s d')[p]?:=by
 unfold jB
 rw [nk,nk,bE]
 by_cases z:p<s
 ·rw [if_pos z,if_pos z]
 ·rw [if_neg z,if_neg z,j,eP,eP,h (p-s) ()]
theorem Uh {s:Nat}{d d':List Int}(G:d.length=d'.length) (j:1<=s) {i p:Nat}(z:p<i+1) (h:∀q,q<i->d[q]? = d'[q]?):(ui gd t s d).2.2.2[p]? = (ui gd t s d').2.2.2[p]?:=by
 have e:=YR G j z h
 show (cV (· + ·) (jB s d) (yg t (jB s d) gd))[p]? = (cV (· + ·) (jB s d') (yg t (jB s d') gd))[p]?
 unfold yg
 rw [cG,cG,cG,cG,e]
theorem wM {gd:List Int}(j:∀y,0<=jL ns y) (h1:1<=gd.length) (fst:Int) (a:Nat):∀i p:Nat,p<i->(qj ns gd wr ts (fst+(a:Int)) i)[p]? = (qj ns gd wr ts fst (a+i))[p]?
 | 0,p,b=>absurd b (mF _)
 | i+1,p,b=>by
  have c:=wM (wr:=wr) (ts:=ts) j h1 fst a i
  have e:fst+(a:Int)+(i:Int)=fst+((a+i:Nat):Int):=()
  show (ui gd (qp wr ts (fst+(a:Int)+(i:Int))) _ _).2.2.2[p]? = (ui gd (qp wr ts (fst+((a+i:Nat):Int))) _ _).2.2.2[p]?
  rw [e]
  exact Uh (by rw [qC,qC]) (Zm (j _) h1) b c
theorem uI {gd:List Int}(j:∀y,0<=jL ns y) (h1:1<=gd.length) (fst:Int) (a i:Nat) (hi:gd.length<=i):qj ns gd wr ts (fst+(a:Int)) i=qj ns gd wr ts fst (a+i):=by
 refine fe λp=>?_
 by_cases z:p<i
 ·exact wM j h1 fst a i p z
 ·rw [fb (by rw [qC];right),fb (by rw [qC];right)]
section
variable {ns:List (Int×Int)}{gd:List Int}{wr:List (Int×T3)}{ts:List T3}{M:Int}{c:Nat}
theorem vk:∀{ns:List (Int×Int)},(∀q∈ns,q.1<=M)->∀{y:Int},M<y->jL ns y=0
 | [],_,y,_=>rfl
 | q::r,h,y,c=>by
  have d:=h q (aK ..)
  have a:=vk (λz b=>h z (aD _ b)) c
  unfold jL
  rw [if_neg (),a]
theorem hV (j:∀q∈ns,q.1<=M) (G:∀z,M<z->qp wr ts (z+(c:Int))=qp wr ts z) {fst:Int}(U:M<fst):∀i,qj ns gd wr ts (fst+(c:Int)) i=qj ns gd wr ts fst i
 | 0=>rfl
 | i+1=>by
  have a:=hV j G U i
  show (ui gd (qp wr ts (fst+(c:Int)+(i:Int))) (jI ns gd.length (fst+(c:Int)+(i:Int))) (qj ns gd wr ts (fst+(c:Int)) i)).2.2.2=(ui gd (qp wr ts (fst+(i:Int))) (jI ns gd.length (fst+(i:Int))) (qj ns gd wr ts fst i)).2.2.2
  unfold jI
  rw [a,vk j (show M<fst+(c:Int)+(i:Int) by right),vk j (show M<fst+(i:Int) by right),show fst+(c:Int)+(i:Int)=fst+(i:Int)+(c:Int) by right,G _ ()]
theorem ZH (j:∀y,0<=jL ns y) (h1:1<=gd.length) (U:∀q∈ns,q.1<=M) (G:∀z,M<z->qp wr ts (z+(c:Int))=qp wr ts z) {i:Nat}(hi:M+1+(gd.length:Int)<=(i:Int)) (Y : -1<=M):qj ns gd wr ts 0 (i+c)=qj ns gd wr ts 0 i:=by
 have b:=uI (wr:=wr) (ts:=ts) j h1 0 (i-gd.length) gd.length (ar _)
 have a:=uI (wr:=wr) (ts:=ts) j h1 0 (i-gd.length+c) gd.length (ar _)
 rw [show i-gd.length+gd.length=i by right] at b
 rw [show i-gd.length+c+gd.length=i+c by right] at a
 rw [<- b,<- a,show (0:Int)+((i-gd.length+c:Nat):Int)=0+((i-gd.length:Nat):Int)+(c:Int) by right]
 exact hV U G () _
end
theorem Q6 {wr:List (Int×T3)}{M y:Int}(j:∀q∈wr,q.1<=M) (G:M<y):qp wr ts y=ts.getD (y % ↥68).toNat (0,0,0):=by
 unfold qp
 rw [List.find?_eq_none.mpr λq a z=>by have:=j q a;have:=of_decide_eq_true z;right]
theorem Zq {wr:List (Int×T3)}{ts:List T3}{M y k:Int}(j:∀q∈wr,q.1<=M) (z:M<y) (G:0<=k* ↥68):qp wr ts (y+k* ↥68)=qp wr ts y:=by
 rw [Q6 j (),Q6 j z,Int.add_mul_emod_self_right]
theorem zR.keys :∀{sk:List (Int×Addr)}{wr:List (Int×T3)},zR H sk wr->wr.map (·.1)=sk.map (·.1)
 | _,_,.nil=>rfl
 | _,_,.cons ⟨h,_⟩ r=>by rw [aO,aO,zR.keys r,h]
theorem wb (xs:List V) (k:Nat):vT xs none (some (k:Int))=xs.take k:=by
 unfold vT
 rw [HT.sIx_none,HT.sIx_nat,sG,Nat.sub_zero]
 by_cases h:k<=xs.length
 ·rw [iN h]
 ·rw [pL (),bw (ar _)]
  exact (bw ()).symm
theorem Z0 (xs:List V) (k:Nat):vT xs (some (k:Int)) none=xs.drop k:=by
 unfold vT
 rw [HT.sIx_none,HT.sIx_nat]
 by_cases h:k<=xs.length
 ·rw [iN h]
  exact bw (by rw [fq];right)
 ·rw [pL (),my (ar _),List.take_nil]
  exact (my ()).symm
noncomputable def kl (d:List Int):List Int:=((aG d.length).filter λp=>decide (0<d.getD p 0)).map λp:Nat=>(p:Int)
noncomputable def kz (d:List Int):V:=match (kl d).getLast? with
 | none=>.non
 | some x=>.int x
theorem JG (d:List Int):(kl d).Pairwise (· < ·):=by
 unfold kl
 rw [pe]
 exact (List.Pairwise.filter _ List.pairwise_lt_range).imp λh=>()
noncomputable def kD (d:List Int) (j:Nat):List Int:=((aG j).filter λp=>decide (0<d.getD p 0)).map λp:Nat=>(p:Int)
theorem JU {d:List Int}{j:Nat}(h:0<d.getD j 0):kD d (j+1)=kD d j++[(j:Int)]:=by
 unfold kD
 rw [bW,bP,cq (by rw [decide_eq_true h]),aq]
 rfl
theorem Qv {d:List Int}{j:Nat}(h:¬0<d.getD j 0):kD d (j+1)=kD d j:=by
 unfold kD
 rw [bW,bP,cp (by rw [decide_eq_false h];exact au),iM,b0]
theorem wc (d:List Int) (j:Nat):(kD d j).length<=j:=by
 unfold kD
 rw [aa]
 exact aI (bO _ _) (by rw [bg];exact ar _)
theorem YT {ks:List Int}{M:Int}(G:ks.Pairwise (· < ·)) (j:M∈ks) (U:∀x∈ks,x<=M):ks.getLast? = some M:=by
 have ne:ks≠[]:=λz=>by rw [z] at j;cases j
 rw [cF ne]
 have e:=dr ne
 have h1:=U _ (List.getLast_mem ne)
 rw [<- e] at G j
 congr 1
 rcases List.mem_append.mp j with z | z
 ·have:=(List.pairwise_append.mp G).2.2 M z _ (List.mem_singleton.mpr rfl)
  right
 ·exact (List.mem_singleton.mp z).symm
inductive spLowest  (vs:List V) (H:Hp) (Q:VK) (z_3:XK):Prop
 | mk (b dl:Addr) (x1 x2 x3:V) (d:List Int) (_:vs=[.ref b]) (_:H b=some (.tup [x1,x2,x3,.ref dl])) (_:H dl=some (.lst (d.map V.int))) (_:d.length<=100) (_:∀H',jf H H'->Q (kz d) H')
theorem qZ:FnScope ["row","fallen","melted","gone","depths"] ["row"] (j8 xT):=by walk_at "s"
theorem kK (G:Nb2 mg) (F:Fun K "lowest_ice" "lowest_ice" xT f fd):FnOk P w K mg base CX0 1 f fd ["row"] spLowest:=by
 refine F.ok qZ (λJ H Q E h=>?_) (λY A outer s H J Q E Z h=>?_)
 ·obtain ⟨b,dl,e,I,D,d,rfl,_⟩:=h
  rfl
 ·obtain ⟨b,dl,e,I,D,d,rfl,S,u,U,k⟩:=h
  refine ⟨_,(j6 (yL (pv 0) (qt (n:=4) K rfl (jn (jc (i:=1) qZ.nd rfl (aU rfl)) (jn (jc (i:=2) qZ.nd rfl (aU rfl)) (jn (jc (i:=3) qZ.nd rfl (aU rfl)) (jn (jc (i:=4) qZ.nd rfl (aU rfl)) qu))))))
   (j9 (jj (Vp K rfl rfl G.b_max (j0 (jE (osc:=(j8 xT)) (ON:=["row","fallen","melted","gone","depths"]) (N:=["place","lying"]) (own:=2) (caps:=[]) ⟨rfl,∅,∅,∅,rfl,∅⟩ rfl rfl rfl (ua K rfl G.b_enumerate (j0 (pv 4) j2)) (λ_ _ _ _ _=>(qt (n:=2) K rfl (jn (jc (i:=0) (show aS (["place","lying"]:List Str) by decide +kernel) rfl (aU rfl)) (jn (jc (i:=1) (show aS (["place","lying"]:List Str) by decide +kernel) rfl (aU rfl)) qu)))) (λ_ _ _ _ _=>(zj (jv uL (pv 1) j5 (jK _)))) ↥106) j2) Xu)))),?_⟩
  left
  refine ⟨b,_,rfl,SqT.of S,rfl,?_⟩
  refine ⟨_,_,rfl,_,_,rfl,_,_,rfl,_,_,rfl,rfl,?_⟩
  left
  refine ⟨⟨_,SqL.of u⟩,λacc m=>?_⟩
  refine hX (K:=K) (a:=dl) (xs:=d.map V.int) (acc:=acc) (λj σ H1=>∃p e:Option V,σ=[p,e]/\H1 acc=some (.lst ((kD d j).map V.int))/\Ext acc H H1) ?_ ?_ ?_ ?_
  ·exact ⟨none,none,rfl,j4,Ext.put⟩
  ·rintro j σ H1 R ⟨p,e,rfl,h1,l⟩
   exact SqL.of (l _ _ u (j1 u m))
  ·rintro j v σ H1 t O ⟨p,e,rfl,h1,l⟩ B
   obtain ⟨x,rfl,y⟩:=xj O
   have R:j<d.length:=(List.getElem?_eq_some_iff.mp y).1
   have ex:d.getD j 0=x:=by rw [aj,y];rfl
   have L:t≠acc:=(j1 h1 B).symm
   have q:jf H1 (upd H1 t (.tup [.int (j:Int),.int x])):=jf.new B
   have X:=wc d j
   left
   refine ⟨t,_,rfl,SqT.of j4,rfl,?_⟩
   refine ⟨_,_,rfl,_,_,rfl,rfl,?_⟩
   left
   refine qH (λz=>?_) (λz=>?_)
   ·left
    refine ⟨_,q _ _ h1,by rw [aa];exact jb (),_,_,rfl,?_,λc o g n=>by rw [j7 n];exact q _ _ (l c o g n)⟩
    rw [j4,JU (by rw [ex];exact z),aq]
    rfl
   ·exact ⟨_,_,rfl,by rw [Qv (by rw [ex];exact z)];exact q _ _ h1,λc o g n=>q _ _ (l c o g n)⟩
  rintro σ H1 ⟨p,e,rfl,h1,l⟩
  have s1:jf H H1:=λc o g=>l c o g (j1 g m)
  rw [aa] at h1
  have h1:H1 acc=some (.lst ((kl d).map V.int)):=h1
  refine ⟨acc,kl d,rfl,SqL.of h1,λr=>?_,λM T C=>?_⟩
  ·have:kz d = .non:=by unfold kz;rw [r];rfl
   rw [this] at k
   left
   exact k H1 s1
  ·have:kz d = .int M:=by unfold kz;rw [YT (JG d) T C]
   rw [this] at k
   exact k H1 s1
inductive spLowL  (vs:List V) (H:Hp) (Q:VK) (z_3:XK):Prop
 | mk (dl:Addr) (d:List Int) (_:vs=[.ref dl]) (_:H dl=some (.lst (d.map V.int))) (_:d.length<=100/\∀H',jf H H'->Q (kz d) H')
theorem kH:FnScope ["_law_depths_here"] ["_law_depths_here"] (j8 xU):=by walk_at "s"
theorem Vz (G:Nb2 mg) (F:Fun K "_law_lowest" "_law_lowest" xU f fd):FnOk P w K mg base CX0 1 f fd ["_law_depths_here"] spLowL:=by
 refine F.ok kH (λu H Q E h=>?_) (λO A outer s H u Q E R h=>?_)
 ·obtain ⟨dl,d,rfl,_⟩:=h
  rfl
 ·obtain ⟨dl,d,rfl,C,D,k⟩:=h
  refine ⟨_,(j9 (jj (ji (je K) (jk yu (jS (j0 Xu j2)) (jE (osc:=(j8 xU)) (ON:=["_law_depths_here"]) (N:=["_law_place","_law_depths_here"]) (own:=1) (caps:=[0]) ⟨rfl,∅,∅,∅,rfl,∅⟩ rfl rfl rfl (jY rfl G.b_range (j0 ↥107 j2)) (λ_ _ _ _ _=>(jc (i:=0) (show aS (["_law_place","_law_depths_here"]:List Str) by decide +kernel) rfl (aU rfl))) (λ_ _ _ _ _=>(zj (jv uL (ji (je K) (pv 1) (pv 0) (λ_ _=>rfl)) j5 (jK _)))) ↥106)) (zi xh j5) (λ_ _=>rfl)))),?_⟩
  left
  refine ⟨by show 1<=sizeLine;decide,λB H1 L m s1=>?_⟩
  have g:=s1 _ _ C
  left
  refine ⟨dl,_,rfl,.inl (SqL.of g),?_⟩
  rw [aa]
  left
  refine ⟨(),(),λacc l=>?_⟩
  refine qq (lo:=0) (n:=((d.length:Nat):Int).toNat) (acc:=acc) (λj σ H2=>∃x:Option V,σ=[x,some (.ref dl)]/\H2 acc=some (.lst ((kD d j).map V.int))/\Ext acc H1 H2) ?_ ?_ ?_
  ·exact ⟨none,rfl,j4,Ext.put⟩
  ·rintro j σ H2 S ⟨x,rfl,h2,a⟩
   have r:j<d.length:=()
   have b:=wc d j
   left
   refine ⟨_,_,_,_,rfl,rfl,SqL.of (a _ _ g (j1 g l)),qO (v:=V.int (d.getD j 0)) () (by rw [show (0+(j:Int)).toNat=j by right,aw,aj,ae r];rfl),?_⟩
   left
   refine qH (λz=>?_) (λz=>?_)
   ·left
    refine ⟨_,h2,by rw [aa];exact jb (),_,rfl,?_,a.trans Ext.put⟩
    rw [j4,JU z,aq,dW]
    rfl
   ·exact ⟨_,rfl,by rw [Qv z];exact h2,a⟩
  rintro σ H2 ⟨x,rfl,h2,a⟩
  have q:jf H1 H2:=λc o t=>a c o t (j1 t l)
  rw [aW] at h2
  have h2:H2 acc=some (.lst ((kl d).map V.int)):=h2
  have b:=wc d d.length
  have b:(kl d).length<=d.length:=b
  refine ⟨B,acc,_,_,rfl,rfl,q _ _ m,h2,by rw [aa];show 1+_<=_;exact c3 (jb ()),λI J M p y=>?_⟩
  left
  refine ⟨I,_,-1,kz d,rfl,rfl,SqL.of p,?_,?_⟩
  ·unfold kz
   cases e:(kl d).getLast? with
   | none =>
    rw [List.getLast?_eq_none_iff.mp e]
    exact zk [] _
   | some z =>
    have ne:kl d≠[]:=λw=>by rw [w] at e;cases e
    have a:=dr ne
    rw [cF ne] at e
    rw [<- a,aJ e,aq,List.singleton_append,<- pI]
    exact zk _ _
  ·exact k J (s1.trans (q.trans y))
noncomputable def oV:Option Int->V
 | none=>.non
 | some x=>.int x
noncomputable def oD:Option Int->fg
 | none=>.none
 | some x=>.int x
theorem Y1:∀{a b:Option Int},oV a=oV b->a=b
 | none,none,_=>rfl
 | some _,some _,h=>congrArg some (V.int.inj h)
theorem Ju (a b:Option Int):U6 (oV a) (oV b)=true:=by cases a <;> cases b <;> rfl
theorem Wr (H:Hp):∀a,Dat H (oV a) (oD a)
 | none=>.non
 | some x=>.int x
theorem k9 (H:Hp):∀xs:List (Option Int),DatL H (xs.map oV) (xs.map oD)
 | []=>.nil
 | x::r=>.cons (Wr H x) (k9 H r)
theorem YE:∀xs:List (Option Int),lH (xs.map oD)=true/\mH (xs.map oD)=0
 | []=>by simp [lH,mH]
 | x::r=>by
  obtain ⟨h1,h2⟩:=YE r
  rw [aO]
  cases x <;> simp [lH,mH,oD,sH,PyData.depth,h1,h2]
theorem yV (xs:List (Option Int)):ml (.list (xs.map oD))=true:=by
 obtain ⟨h1,h2⟩:=YE xs
 simp [ml,sH,PyData.depth,h1,h2]
theorem XV:∀xs ys:List (Option Int),iz (xs.map oD) (ys.map oD)=decide (xs=ys)
 | [],[]=>by simp [iz]
 | [],_::_=>by simp [iz]
 | _::_,[]=>by simp [iz]
 | x::xs,y::ys=>by
  have a:=XV xs ys
  rw [aO,aO,dO]
  cases x <;> cases y <;> simp [iz,oi,oD,a]
theorem Yj (xs ys:List (Option Int)):oi (.list (xs.map oD)) (.list (ys.map oD))=decide (xs=ys):=by
 simp only [oi]
 exact XV xs ys
noncomputable def QV (d:List Int):Option Int:=(kl d).getLast?
theorem ZZ (d:List Int):kz d=oV (QV d):=by
 unfold kz QV
 cases (kl d).getLast? <;> rfl
theorem VX {xs:List (Option Int)}{i:Nat}(h:(xs.map oV)[i]? = some v):∃o,v=oV o/\xs[i]? = some o:=by
 rw [aw] at h
 cases e:xs[i]? with
 | none=>rw [e] at h;cases h
 | some o=>rw [e] at h;exact ⟨o,(aJ h).symm,rfl⟩
noncomputable def Per (xs:List (Option Int)) (d:Nat):Prop:=xs.length % d=0/\xs=(aP (xs.length / d) (xs.take d)).flatten
theorem Xg {ys:List (Option Int)}(j:0<ys.length):∀(k i:Nat),i<k*ys.length->(aP k ys).flatten[i]? = ys[i % ys.length]?
 | 0,i,h=>absurd h ()
 | k+1,i,h=>by
  rw [cX,cE]
  by_cases z:i<ys.length
  ·rw [cB z,pM z]
  ·rw [cu (),Xg j k (i-ys.length) (by rw [me] at h;right)]
   conv=>rhs;rw [show i=i-ys.length+ys.length by right,pf]
theorem XH (ys:List (Option Int)):∀k,(aP k ys).flatten.length=k*ys.length
 | 0=>by rw [Nat.zero_mul];rfl
 | k+1=>by rw [cX,cE,ay,XH ys k,me,Nat.add_comm]
theorem gP {xs:List (Option Int)}{d:Nat}(j:0<d) (z:d<=xs.length):Per xs d↔xs.length % d=0/\∀i,i<xs.length->xs[i]? = xs[i % d]?:=by
 have a:(xs.take d).length=d:=by rw [aE];right
 have c:∀i,i<d->(xs.take d)[i]? = xs[i]?:=λi hi=>by rw [eP,if_pos hi]
 unfold Per
 constructor
 ·rintro ⟨h1,h2⟩
  refine ⟨h1,λi hi=>?_⟩
  have b:xs.length / d*d=xs.length:=by have:=rp xs.length d;rw [h1] at this;rw [mf];right
  have e:=Xg (ys:=xs.take d) () (xs.length / d) i (by rw [a,b];exact hi)
  rw [<- h2,a] at e
  rw [e,c _ (lu _ j)]
 ·rintro ⟨h1,h2⟩
  have b:xs.length / d*d=xs.length:=by have:=rp xs.length d;rw [h1] at this;rw [mf];right
  refine ⟨h1,fe λi=>?_⟩
  by_cases hi:i<xs.length
  ·rw [Xg () _ i (by rw [a,b];exact hi),a,c _ (lu _ j)]
   exact h2 i hi
  ·rw [fb (),fb (by rw [XH,a,b];right)]
theorem YS {xs:List (Option Int)}(h:1<=xs.length):Per xs xs.length:=(gP () (ar _)).mpr ⟨Nat.mod_self _,λi hi=>by rw [pM hi]⟩
structure SnF (lo:Nat->Option Int) (R:Nat) (bs as:List (Option Int)):Prop where
 a1:1<=as.length
 aR:as.length<=R
 b1:bs.length<=200
 bat:∀y,y<bs.length->bs[y]? = some (lo y)
 aat:∀y,bs.length<=y->as[(y-bs.length) % as.length]? = some (lo y)
 min:∀d,1<=d->d<as.length->¬Per as d
 end_:bs=[]\/bs.getLast?≠as.getLast?
section
variable {lo:Nat->Option Int}
theorem QK {s m:Nat}(j:0<m) (h:∀y,s<=y->lo (y+m)=lo y) (r:Nat):lo (s+r)=lo (s+r % m):=by
 have:∀k r,lo (s+(r+k*m))=lo (s+r):=λk=>by
  induction k with
  | zero=>intro r;rw [Nat.zero_mul,Nat.add_zero]
  | succ k a =>
   intro r
   rw [me,show s+(r+(k*m+m))=s+(r+k*m)+m by right,h _ (),a]
 have e:=this (r / m) (r % m)
 rw [show r % m+r / m*m=r by rw [mf];exact Nat.mod_add_div r m] at e
 exact e
theorem YM {s m d:Nat}{z:List (Option Int)}(hl:z.length=m) (j:∀i,i<m->z[i]? = some (lo (s+i))) (Y:∀y,s<=y->lo (y+m)=lo y) (hd:1<=d) (G:d<=m) (U:Per z d):m % d=0/\∀y,s<=y->lo (y+d)=lo y:=by
 obtain ⟨h1,h2⟩:=(gP () ()).mp U
 rw [hl] at h1
 have key:∀r,lo (s+r)=lo (s+r % d):=λr=>by
  have a:r % m<m:=lu _ ()
  have e:=h2 (r % m) ()
  have b:r % m % d<m:=aQ (lu _ ()) G
  rw [j _ a,j _ b] at e
  rw [QK () Y r,aJ e,Nat.mod_mod_of_dvd _ (i8 h1)]
 refine ⟨h1,λy c=>?_⟩
 obtain ⟨r,rfl⟩:∃r,y=s+r:=⟨y-s,()⟩
 rw [Nat.add_assoc,key (r+d),pf,<- key r]
theorem UX {s m d:Nat}{z:List (Option Int)}(G:z.length=m) (j:∀i,i<m->z[i]? = some (lo (s+i))) (Y:1<=d) (U:d<=m) (h1:m % d=0) (h:∀y,s<=y->lo (y+d)=lo y):Per z d :=
 (gP () ()).mpr ⟨by rw [G];exact h1,λi hi=>by
  rw [G] at hi
  rw [j i hi,j (i % d) (aQ (lu _ ()) U),QK () h i]⟩
end
inductive spShortest  (vs:List V) (H:Hp) (Q:VK) (z_3:XK):Prop
 | mk (p:Addr) (xs:List (Option Int)) (_:vs=[.ref p]) (_:H p=some (.lst (xs.map oV))) (_:1<=xs.length/\xs.length<=1000/\∀l m H',(l=p\/H l=none)->H' l=some (.lst ((xs.take m).map oV))->1<=m->m<=xs.length->Per xs m->(∀d,1<=d->d<m->¬Per xs d)->jf H H'->Q (.ref l) H')
theorem uK:FnScope ["places","many"] ["places"] (j8 vg):=by walk_at "s"
theorem Qg (G:Nb2 mg) (F:Fun K "shortest" "shortest" vg f fd):FnOk P w K mg base CX0 1 f fd ["places"] spShortest:=by
 refine F.ok uK (λI H Q E h=>?_) (λU A outer s H I Q E L h=>?_)
 ·obtain ⟨p,xs,rfl,_⟩:=h
  rfl
 ·obtain ⟨p,xs,rfl,r,t,l,k⟩:=h
  refine ⟨_,(j6 (qK bj rfl (ut rfl G.b_range (j0 j5 (j0 ↥107 j2))) (jc (i:=1) uK.nd rfl (aU rfl)) (j9 (qc (PW.pt (wS (jv vZ (jk xi ↥107 (pv 1)) j5 (jK _)) (vX (jv (XR K L.units) (pv 0) (jk YQ (xQ (xl K) (pv 0) zA (zy (pv 1))) (jk zY ↥107 (pv 1))) (jK _))))) (j9 (jj (xQ (xl K) (pv 0) zA (zy (pv 1))))) jA)))
   (j9 (jj (pv 0)))),?_⟩
  left
  refine ⟨p,_,rfl,.inl (SqL.of r),?_⟩
  rw [aa]
  refine ⟨_,_,rfl,⟨(),(),(),()⟩,?_⟩
  refine xk (λj σ H1=>∃x:Option V,σ=[some (.ref p),x]/\jf H H1/\∀d,1<=d->d<j+1->¬Per xs d) ?_ ?_ ?_
  ·exact ⟨_,rfl,jf.refl H,λd h1 h2=>absurd h2 ()⟩
  ·rintro j σ H1 Y ⟨x,rfl,s1,no⟩
   have b:=s1 _ _ r
   have N:(1:Int)+(j:Int)=↥49:=()
   have next:¬Per xs (j+1)->∀d,1<=d->d<j+1+1->¬Per xs d:=λM d h1 h2=>by
    by_cases e:d=j+1
    ·rw [e];exact M
    ·exact no d h1 ()
   left
   refine ⟨p,_,rfl,.inl (SqL.of b),?_⟩
   rw [aa,N]
   left
   refine qH (λz=>?_) (λz=>?_)
   ·have z:=V.int.inj z
    have D:xs.length % (j+1)=0:=by
     have e:((xs.length % (j+1):Nat):Int)=0:=by rw [ik];exact z
     right
    left
    refine ⟨_,_,rfl,SqL.of b,λR H2 T g v=>?_⟩
    rw [wb,<- eX] at g
    have n:=v _ _ b
    left
    refine ⟨p,_,rfl,.inl (SqL.of n),?_⟩
    rw [aa]
    left
    rw [<- pN]
    have X:xs.length / (j+1)<=xs.length:=rA _ _
    have y:(xs.take (j+1)).length*(xs.length / (j+1))<=xs.length:=by
     rw [aE]
     exact aI (nu _ (rC _ _)) (sI _ _)
    refine ⟨R,_,_,rfl,rfl,g,(),(),by rw [aa,aW];exact aI y (c3 (jb l)),λZ C=>?_⟩
    rw [aW,show (aP (xs.length / (j+1)) ((xs.take (j+1)).map oV)).flatten=((aP (xs.length / (j+1)) (xs.take (j+1))).flatten).map oV by rw [pO,oA]]
    have u:=jf.new (o:=.lst (((aP (xs.length / (j+1)) (xs.take (j+1))).flatten).map oV)) C
    have m:=u _ _ n
    refine ⟨λ_=>False,λ_=>False,_,_,Dat.rep (λ_=>id) (.lst m (k9 _ xs)),Dat.rep (λ_=>id) (.lst j4 (k9 _ _)),yV _,yV _,?_⟩
    rw [Yj]
    have a:=s1.trans (v.trans u)
    left
    refine qH (λw=>?_) (λw=>?_)
    ·left
     refine ⟨_,_,rfl,SqL.of m,λO S B c J=>?_⟩
     rw [wb,<- eX] at c
     exact k O (j+1) S (.inr (a.free B)) c () () ⟨D,w⟩ no (a.trans J)
    ·exact ⟨_,rfl,a,next λq=>w q.2⟩
   ·refine ⟨_,rfl,s1,next λq=>z ?_⟩
    have e:((xs.length % (j+1):Nat):Int)=0:=by rw [q.1];rfl
    rw [ik] at e
    exact congrArg V.int e
  ·rintro σ H1 ⟨x,rfl,s1,no⟩
   left
   exact k p xs.length H1 (.inl rfl) (by rw [aX];exact s1 _ _ r) t (ar _) (YS t) (λd h1 h2=>no d h1 ()) s1
inductive spSnouts (C CN:Addr) (vs:List V) (H:Hp) (Q:VK) (E:XK):Prop
 | mk (p:Addr) (g:IceG) (l:Int) (sk:List (Int×Addr)) (wr:List (Int×T3)) (_:vs=[.ref p,.int l]) (_:IceAt C H p g) (_:g.ys.length=g.rows.length) (_:g.lds.length=g.slopes.length) (_:g.kvs=sk.map kvA) (_:sk.length<64) (_:(∀z∈sk,0<=z.1/\z.1<=99)) (_:zR H sk wr) (_:1<=g.rows.length) (_:g.rows.length<=600) (_:(∀z,good (qp wr g.rows z)=true)) (_: ↥52) (_:(0<=l->l< ↥15 ->
  ∃(ns ms:List (Int×Int)) (gd:List Int),Vc g l ns/\(∀q∈ns,0<=q.1/\q.1<=99)/\ms.Perm ns/\(ms.map (·.1)).Pairwise (· <= ·)/\(∀z,0<=jL ms z)/\g.slopes.getD l.toNat []=gd/\1<=gd.length/\gd.length<=100 /\
  ∀(t bl al:Addr) (bs as:List (Option Int)) (H':Hp),H bl=none->H al=none->bl≠al->H' t=some (.tup [.ref bl,.ref al])->H' bl=some (.lst (bs.map oV))->H' al=some (.lst (as.map oV))->SnF (λy=>QV (qj ms gd wr g.rows 0 (y+1))) g.rows.length bs as->(∀N:Int,-1<=N->(∀z∈sk,z.1<=N)->(∀q∈ns,q.1<=N)->(bs.length:Int)<=N+1+(gd.length:Int))->jf H H'->Q (.ref t) H'))
theorem xZ:FnScope ["ice","lane","start","places","beginning","again"] ["ice","lane"] (j8 vI):=by walk_at "s"
theorem UH {lo:Nat->Option Int}{R st s m:Nat}{as:List (Option Int)}(ab:st<=200) (hs:s<=st) (m1:1<=m) (mR:m<=R) (G:as.length=m) (j:∀i,i<m->as[i]? = some (lo (s+i))) (U:∀y,s<=y->lo (y+m)=lo y) (hmin:∀d,1<=d->d<m->m % d=0->¬ ∀y,st<=y->lo (y+d)=lo y) (Y:s=0\/∃z,s=z+1/\lo z≠lo (z+m)):SnF lo R ((aG s).map lo) as:=by
 have b:((aG s).map lo).length=s:=by rw [aa,bg]
 refine ⟨(),(),(),λy a=>?_,λy a=>?_,λd h1 h2 h=>?_,?_⟩
 ·rw [b] at a
  rw [aw,cY a]
  rfl
 ·rw [b] at a ⊢
  rw [G,j _ (lu _ ()),<- QK () U,show s+(y-s)=y by right]
 ·rw [G] at h2
  obtain ⟨f,c⟩:=YM G j U h1 () h
  exact hmin d h1 h2 f λy a=>c y ()
 ·rcases Y with rfl | ⟨z,rfl,g⟩
  ·exact .inl rfl
  ·refine .inr ?_
   rw [bW,aq]
   show (_++[lo z]).getLast?≠_
   rw [List.getLast?_concat,ly,G,j (m-1) (),show z+1+(m-1)=z+m by right]
   exact λe=>g (aJ e)
theorem XZ (nb:Nb2 mg) (ap:Cls K C) (G:CalMX P w K mg base 1 C "check_lane" ["self","lane"] (spCheckLane C CN)) (aL:CalX P w K mg base 3 "settled" ["ice","lane"] (spSettled C)) (Y:CalM P w K mg base 1 C "rows" ["self"] (spRowsI C)) (a4:CalX P w K mg base 4 "course" ["ice","lane","first","last"] (spCourse C)) (U:Cal P w K mg base 1 "lowest_ice" ["row"] spLowest) (an:Cal P w K mg base 1 "shortest" ["places"] spShortest)
  (F:Fun K "snouts" "snouts" vI f fd):FnOk P w K mg base (CX1 P w) 5 f fd ["ice","lane"] (spSnouts C CN):=by
 refine Fun.okX F xZ ↥58 (λec A outer s H vs Q E hr h=>?_)
 ·obtain ⟨p,g,l,sk,wr,rfl,_⟩:=h
  rfl
 ·obtain ⟨p,g,l,sk,wr,rfl,I,dd,ch,ek,c4,ci,hw,dg,d3,sg,kx,k⟩:=h
  refine ⟨_,(j6 (jU (zU (pv 0) ap G (hr.mono ⋯) qX ↥42))
   (j6 (jz 2 xZ.nd (y8 aL (hr.mono ⋯) qX rfl (j0 (pv 0) ↥42)))
   (j6 (zG (j:=3) (osc:=(j8 vI)) (ON:=["ice","lane","start","places","beginning","again"]) (N:=["row"]) (own:=1) (caps:=[]) ⟨rfl,∅,∅,∅,rfl,∅⟩ xZ.nd rfl (aU rfl) rfl rfl rfl (jN K (y8 a4 (hr.mono ⋯) qX rfl (j0 (pv 0) (j0 (pv 1) (j0 j5 (j0 (jk xE (jk jO (pv 2) (jd (ja K) rfl nb.b_len aH (j0 (VP (pv 0) ap Y (hr.mono ⋯)) j2))) j5) j2)))))) (λ_ _ _ _ _=>(jc (i:=0) (show aS (["row"]:List Str) by decide +kernel) rfl (aU rfl))) ↥14 (λ_ _ _ _ _=>(jg U (hr.mono ⋯) rfl ↥33)))
   (j6 (jz 4 xZ.nd (xQ (xl K) (pv 3) zA (zy (pv 2))))
   (j6 (jz 5 xZ.nd (jg an (hr.mono ⋯) rfl (j0 (xQ (xl K) (pv 3) (zy (pv 2)) zA) j2)))
   (j6 (Yk (wn bj (PW.pt (wS (Z4 K (pv 4)) (vX (jv vZ (ji (je K) (pv 4) (zi xh j5) (λ_ _=>rfl)) (ji (je K) (pv 5) (zi xh j5) (λ_ _=>rfl)) (jK _))))) (j9 (jz 5 xZ.nd (jk yu (jS (j0 (VA K bC PySem.F.slot_list_pop PySem.F.type_list_pop Um (pv 4)) j2)) (xQ (xl K) (pv 5) zA (zy (zi xh j5))))))))
   (j9 (jj (xV (j0 (pv 4) (j0 (pv 5) j2))))))))))),?_⟩
  left
  refine ⟨p,g.dx,_,rfl,I.ob,qo ∅,?_⟩
  left
  refine ⟨p,g,l,rfl,I,λl0 l1=>?_,kx⟩
  obtain ⟨ns,ms,gd,LD,ce,hp,hs,hv,cl,g1,da,k⟩:=k l0 l1
  left
  refine ⟨p,g,l,sk,ns,rfl,I,ch,ek,c4,(λz D=>(ci z D).1),LD,(λq L=>(ce q L).1),λM H1 dy cy dp ds s1=>?_⟩
  have d2:M<=99:=by
   rcases cy with h | h | h
   ·right
   ·obtain ⟨z,D,rfl⟩:=List.mem_map.mp h
    exact (ci z D).2
   ·obtain ⟨z,D,rfl⟩:=List.mem_map.mp h
    exact (ce z D).2
  have dt:∀N:Int,-1<=N->(∀z∈sk,z.1<=N)->(∀q∈ns,q.1<=N)->M<=N:=λN h1 h2 h3=>by
   rcases cy with h | h | h
   ·right
   ·obtain ⟨z,D,rfl⟩:=List.mem_map.mp h
    exact h2 z D
   ·obtain ⟨z,D,rfl⟩:=List.mem_map.mp h
    exact h3 z D
  obtain ⟨st,dD⟩:∃st:Nat,M+1+(gd.length:Int)=(st:Int):=⟨(M+1+(gd.length:Int)).toNat,()⟩
  rw [cl,dD]
  have hR:∀y,st<=y->QV (qj ms gd wr g.rows 0 (y+g.rows.length+1))=QV (qj ms gd wr g.rows 0 (y+1)):=λy hy=>by
   have hW:∀q∈wr,q.1<=M:=λq L=>by
    have:q.1∈sk.map (·.1):=by rw [<- hw.keys];exact bf L
    obtain ⟨z,D,e⟩:=List.mem_map.mp this
    rw [<- e]
    exact dp z D
   have e:=ZH (ns:=ms) (gd:=gd) (wr:=wr) (ts:=g.rows) (M:=M) (c:=g.rows.length) hv g1 (λq L=>ds q (hp.mem_iff.mp L)) (λz D=>by
    have:=Zq (ts:=g.rows) (k:=1) hW D ()
    rw [Int.one_mul] at this
    exact this) (i:=y+1) () dy
   rw [show y+g.rows.length+1=y+1+g.rows.length by right,e]
  have I1:=I.same s1
  left
  refine ⟨p,g.dx,_,rfl,I1.ob,qo ∅,?_⟩
  left
  refine ⟨p,g,rfl,I1,λlr H2 dn bq s2=>?_⟩
  have I2:=I1.same s2
  left
  refine ⟨lr,_,rfl,.inl (SqL.of bq),?_⟩
  rw [dd]
  left
  simp only [gU,b0]
  refine ⟨p,g,l,0,(st:Int)+(g.rows.length:Int)-1,sk,wr,ns,ms,gd,rfl,I2,ch,ek,hw.keep (jo.same (s1.trans s2)),dg,(),sg,LD,hp,hs,cl,g1,da,(),λo bm H3 ho a7 r3 s3=>?_⟩
  rw [show ((st:Int)+(g.rows.length:Int)-1+1-0).toNat=st+g.rows.length by right] at r3
  have ca:=s1.trans (s2.trans s3)
  have cd:bm.length=st+g.rows.length:=(aZ r3).trans (by unfold qR;rw [aa,bg])
  obtain ⟨lo,b3⟩:∃lo:Nat->Option Int,lo=λy=>QV (qj ms gd wr g.rows 0 (y+1)):=⟨_,rfl⟩
  rw [<- b3] at k
  have hR:∀y,st<=y->lo (y+g.rows.length)=lo y:=λy hy=>by rw [b3];exact hR y hy
  generalize eb:g.rows.length=R at *
  left
  refine ⟨⟨_,SqL.of a7⟩,λacc S=>?_⟩
  refine jJ (K:=K) (a:=o) (xs:=bm) (acc:=acc) (λi σ H4=>∃x:Option V,σ=[x]/\H4 acc=some (.lst (((aG i).map lo).map oV))/\Ext acc H3 H4) ?_ ?_ ?_ ?_
  ·exact ⟨none,rfl,j4,Ext.put⟩
  ·rintro i σ H4 hi ⟨x,rfl,h4,e4⟩
   exact SqL.of (e4 _ _ a7 (j1 a7 S))
  ·rintro i v σ H4 cb ⟨x,rfl,h4,e4⟩
   obtain ⟨q,L,b,dl,rfl,hb,hd⟩:=Paired.get r3 cb
   have hi:i<bm.length:=(List.getElem?_eq_some_iff.mp cb).1
   have L:yd ms gd wr g.rows 0 i=q:=by
    unfold qR at L
    rw [aw,cY ()] at L
    exact aJ L
   have cm:q.2.2.2=qj ms gd wr g.rows 0 (i+1):=by rw [<- L];rfl
   have ea:=qC ms gd wr g.rows 0 (i+1)
   left
   refine ⟨b,dl,_,_,_,q.2.2.2,rfl,e4 _ _ hb (j1 hb S),e4 _ _ hd (j1 hd S),by rw [cm];right,λH5 s5=>?_⟩
   refine ⟨_,s5 _ _ h4,by rw [aa,aa,bg];exact jb (),_,rfl,?_,λc o hc n=>by rw [j7 n];exact s5 _ _ (e4 c o hc n)⟩
   rw [j4,bW,aq,aq,ZZ,cm,b3]
   rfl
  rintro σ H4 ⟨x,rfl,h4,e4⟩
  have s4:jf H3 H4:=λc o hc=>e4 c o hc (j1 hc S)
  have bk:=ca.trans s4
  rw [cd] at h4
  clear e4 S r3 a7 ho dn bq I1 I2 s1 s2 s3 ca cd
  left
  refine ⟨_,_,rfl,SqL.of h4,λB H5 cr X s5=>?_⟩
  rw [wb,<- eX,<- eX,List.take_range,iN ()] at X
  have h5:=s5 _ _ h4
  have bi:=bk.trans s5
  left
  refine ⟨_,_,rfl,SqL.of h5,λa6 H6 b1 ai s6=>?_⟩
  rw [Z0,<- sU] at ai
  have be:=bi.trans s6
  have a2:=s6 _ _ X
  obtain ⟨blk,am⟩:∃blk,((aG (st+R)).map lo).drop st=blk:=⟨_,rfl⟩
  rw [am] at ai
  have Z:blk.length=R:=by rw [<- am,fq,aa,bg];right
  have a8:∀i,i<R->blk[i]? = some (lo (st+i)):=λi hi=>by
   rw [<- am,oh,aw,cY ()]
   rfl
  left
  refine ⟨a6,blk,rfl,ai,(),(),λal m H7 bN bv m1 mR hP hmin s7=>?_⟩
  rw [Z] at mR
  obtain ⟨cs,ct⟩:=YM Z a8 hR m1 mR hP
  have dk:∀d,1<=d->d<m->m % d=0->¬ ∀y,st<=y->lo (y+d)=lo y:=λd h1 h2 h3 h4 =>
   hmin d h1 h2 (UX Z a8 h1 () (Nat.mod_eq_zero_of_dvd (Nat.dvd_trans (i8 h3) (i8 cs))) h4)
  have b9:=be.trans s7
  have br:H B=none:=bk.free cr
  have ac:H al=none:=by
   rcases bN with rfl | h
   ·exact bi.free b1
   ·exact be.free h
  have a0:B≠al:=by
   rcases bN with rfl | h
   ·exact j1 X b1
   ·exact j1 a2 h
  have bt:=s7 _ _ a2
  clear bN b1 ai cr X a2 s5 s6 s7 bi be bk s4 h4 h5 hP cs
  left
  refine ⟨λn σ T=>∃(al:Addr) (r:List (Option Int)),n<=st/\σ=[some (.ref p),some (.int l),some (.int (st:Int)),some (.ref acc),some (.ref B),some (.ref al)]/\H al=none/\B≠al/\T B=some (.lst (((aG n).map lo).map oV))/\T al=some (.lst (r.map oV))/\r.length=m/\(∀i,i<m->r[i]? = some (lo (n+i)))/\(∀y,n<=y->lo (y+m)=lo y)/\jf H T,⟨st,al,blk.take m,ar _,rfl,ac,a0,bt,bv,by rw [aE];right,λi hi=>by rw [eP,if_pos hi];exact a8 i (),ct,b9⟩,?_⟩
  clear hmin bv bt a0 ac al b9 a8 Z am blk ct hR
  rintro n σ T ⟨al,r,hn,rfl,ac,a0,J,a3,O,ab,bn,s8⟩
  have cL:∀(H9:Hp),jf T H9->(n=0\/∃z,n=z+1/\lo z≠lo (z+m))->∀t H10,H10 t=some (.tup [.ref B,.ref al])->jf H9 H10->Q (.ref t) H10:=λH9 s9 he t H10 ht u =>
   k t B al _ r H10 br ac a0 ht (u _ _ (s9 _ _ J)) (u _ _ (s9 _ _ a3)) (UH (st:=st) () hn m1 mR O ab bn dk he) (λN h1 h2 h3=>by have:=dt N h1 h2 h3;rw [aa,bg];right) (s8.trans (s9.trans u))
  left
  refine ⟨_,.inl ⟨_,SqL.of J,rfl⟩,?_⟩
  cases n with
  | zero =>
   refine Uo ?_
   left
   refine ⟨by show 2<=sizeLine;decide,λt H10 ht a1 u=>?_⟩
   exact cL T (jf.refl _) (.inl rfl) t H10 a1 u
  | succ z =>
   have c1:((aG (z+1)).map lo).map oV=((aG z).map lo).map oV++[oV (lo z)]:=by
    rw [bW,aq,aq]
    rfl
   have dF:r=r.dropLast++[lo (z+m)]:=by
    have ne:r≠[]:=λe=>by rw [e] at O;exact absurd O (by show ¬0=m;right)
    have h1:=dr ne
    have h2:r.getLast? = some (lo (z+m)):=by rw [ly,O,ab (m-1) (),show z+1+(m-1)=z+m by right]
    rw [cF ne] at h2
    rw [aJ h2] at h1
    exact h1.symm
   rw [c1] at J
   refine iteP (by rw [c1];simp) ?_
   left
   refine ⟨_,_,_,_,rfl,rfl,SqL.of J,zk _ _,?_⟩
   left
   refine ⟨_,_,_,_,rfl,rfl,SqL.of a3,(by rw [dF,aq];exact zk _ _),?_⟩
   refine ⟨Ju _ _,?_⟩
   left
   refine qH (λw=>?_) (λw=>?_)
   ·have w:=Y1 w
    refine ⟨λσ' H'=>∃(al:Addr) (r:List (Option Int)),z<=st/\σ'=[some (.ref p),some (.int l),some (.int (st:Int)),some (.ref acc),some (.ref B),some (.ref al)]/\H al=none/\B≠al/\H' B=some ↥89/\H' al=some (.lst (r.map oV))/\r.length=m/\(∀i,i<m->r[i]? = some (lo (z+i)))/\(∀y,z<=y->lo (y+m)=lo y)/\jf H H',λσ' H' h=>⟨z,d5 _,h⟩,?_⟩
    left
    refine ⟨.inl ⟨rfl,_,SqL.of J⟩,B,_,_,rfl,rfl,J,(by simp:(((aG z).map lo).map oV++[oV (lo z)])[(((aG z).map lo).map oV++[oV (lo z)]).length-1]? = some (oV (lo z))),?_⟩
    rw [List.dropLast_concat]
    have s9:jf H (upd T B ↥89):=λc ob hc=>by rw [j7 (j1 hc br)];exact s8 _ _ hc
    have bs:(upd T B ↥89) B=some ↥89:=j4
    have c9:(upd T B ↥89) al=some (.lst (r.map oV)):=by rw [j7 a0.symm];exact a3
    generalize upd T B ↥89=H9 at *
    left
    refine ⟨by show 1<=sizeLine;decide,λdV H10 d1 b6 u=>?_⟩
    have b4:=u _ _ c9
    left
    refine ⟨_,_,rfl,SqL.of b4,λdT eg d0 a9 a5=>?_⟩
    have db:vT (r.map oV) none (some (-1))=r.dropLast.map oV:=by
     have h1:=JZ (xs:=r.map oV) (s:=1) (ar _) (by rw [aa];right)
     rw [aa,<- eX,<- aa (f:=oV),aa,<- List.dropLast_eq_take] at h1
     exact h1
    rw [db] at a9
    have c2:r.dropLast.length=m-1:=by rw [mT];right
    left
    refine ⟨dV,dT,_,_,rfl,rfl,a5 _ _ b6,a9,by rw [aa,c2];show 1+_<=_;exact c3 (jb ()),λdK ed b2 b5 dc=>?_⟩
    have bd:=u.trans (a5.trans dc)
    left
    refine ⟨dK,lo z::r.dropLast,(),rfl,s9.free ((u.trans a5).free b2),j1 ((u.trans a5) _ _ bs) b2,bd _ _ bs,b5,by rw [bc,c2];right,λi hi=>?_,λy hy=>?_,s9.trans bd⟩
    ·cases i with
     | zero=>rfl
     | succ j =>
      rw [List.getElem?_cons_succ,List.getElem?_dropLast,O,if_pos (),ab j (),show z+1+j=z+(j+1) by right]
    ·by_cases e:y=z
     ·rw [e];exact w.symm
     ·exact bn y ()
   ·have w:¬lo z=lo (z+m):=λe=>w (by rw [e])
    left
    refine ⟨by show 2<=sizeLine;decide,λt H10 ht a1 u=>?_⟩
    exact cL T (jf.refl _) (.inr ⟨z,rfl,w⟩) t H10 a1 u
inductive spRT  (vs:List V) (H:Hp) (Q:VK) (z_3:XK):Prop
 | mk (t bl al:Addr) (bs as:List (Option Int)) (_:vs=[.ref t]) (_:H t=some (.tup [.ref bl,.ref al])) (_:H bl=some (.lst (bs.map oV))) (_:H al=some (.lst (as.map oV))) (_:bs.length<=900) (_:as.length<=900) (_:1<=as.length) (_:∀H',jf H H'->Q (.bl true) H')
theorem y7:FnScope ["_law_told","_law_row_here"] ["_law_told"] (j8 xc):=by walk_at "s"
theorem Wc (G:Nb2 mg) (z:Cal P w K mg base 1 "_law_whole" ["_law_found"] spWhole)
  (F:Fun K "_law_rows_told" "_law_rows_told" xc f fd):FnOk P w K mg base CX0 2 f fd ["_law_told"] spRT:=by
 refine F.ok y7 (λJ H Q E h=>?_) (λY A outer s H J Q E O h=>?_)
 ·obtain ⟨t,r,n,bs,u,rfl,_⟩:=h
  rfl
 ·obtain ⟨t,r,n,bs,u,rfl,e,I,p,T,U,a1,k⟩:=h
  refine ⟨_,(j6 (qc (PW.pt (JJ (qL (zp (jd (xW K) rfl G.b_isinstance iL (j0 (pv 0) (j0 (uZ (v:=V.ty "tuple") rfl G.b_tuple eJ rfl) j2))))) (J6 (jv Yc ↥107 j5 (jK _))))) (j9 (jj yy)) jA)
   (j6 (qK bj rfl (yb K (pv 0)) (jc (i:=1) y7.nd rfl (aU rfl)) (j9 (qc (PW.pt (JJ (qL (zp (jd (xW K) rfl G.b_isinstance iL (j0 (pv 1) (j0 (uZ (v:=V.ty "list") rfl G.b_list bY rfl) j2))))) (J6 (qL (zp (jd (zT K rfl) rfl G.b_all p0 (j0 (jE (osc:=(j8 xc)) (ON:=["_law_told","_law_row_here"]) (N:=["_law_one"]) (own:=1) (caps:=[]) ⟨rfl,∅,∅,∅,rfl,∅⟩ rfl rfl rfl (jN K (pv 1)) (λ_ _ _ _ _=>(jc (i:=0) (show aS (["_law_one"]:List Str) by decide +kernel) rfl (aU rfl))) ↥14 (λ_ _ _ _ _=>(WK (ym UD (pv 0) Xu (jK _)) (k8 (jg z (O.mono ⋯) rfl ↥33))))) j2))))))) (j9 (jj yy)) jA)))
   (j9 (jj (ym uL (jd (ja K) rfl G.b_len aH (j0 ↥21 j2)) j5 (jK _)))))),?_⟩
  left
  refine ⟨_,_,_,_,rfl,.tup e,wG K,?_⟩
  left
  refine ⟨t,_,rfl,.inr (SqT.of e),?_⟩
  left
  refine ⟨⟨_,SqT.of e⟩,?_⟩
  refine Js (K:=K) (a:=t) (xs:=[.ref r,.ref n]) (λi σ H1=>∃x:Option V,σ=[some (.ref t),x]/\jf H H1) ?_ ?_ ?_ ?_
  ·exact ⟨_,rfl,jf.refl H⟩
  ·rintro i σ H1 hi ⟨x,rfl,s1⟩
   exact SqT.of (s1 _ _ e)
  ·rintro i v σ H1 M ⟨x,rfl,s1⟩
   obtain ⟨m,xs,rfl,C,Z⟩:∃(m:Addr) (xs:List (Option Int)),v = .ref m/\H m=some (.lst (xs.map oV))/\xs.length<=900:=by
    have:=aB M
    rcases List.mem_cons.mp this with rfl | h
    ·exact ⟨r,bs,rfl,I,T⟩
    ·exact ⟨n,u,List.mem_singleton.mp h,p,U⟩
   have d:=s1 _ _ C
   left
   refine ⟨_,_,_,_,rfl,.lst d,Jh K,?_⟩
   left
   refine ⟨⟨_,SqL.of d⟩,λacc g=>?_⟩
   refine jJ (K:=K) (a:=m) (xs:=xs.map oV) (acc:=acc) (λj σ H2=>∃x:Option V,σ=[x]/\H2 acc=some (.lst ((aP j true).map V.bl))/\Ext acc H1 H2) ?_ ?_ ?_ ?_
   ·exact ⟨none,rfl,j4,Ext.put⟩
   ·rintro j σ H2 S ⟨x,rfl,h2,l⟩
    exact SqL.of (l _ _ d (j1 d g))
   ·rintro j v σ H2 B ⟨x,rfl,h2,l⟩
    obtain ⟨o,rfl,R⟩:=VX B
    have S:j<xs.length:=(List.getElem?_eq_some_iff.mp R).1
    have q:∃ys,H2 acc=some (.lst ys)/\ys.length<sizeLine/\∃x:Option V,([some (oV o)]:L2.St)=[x]/\(upd H2 acc (.lst (ys++[.bl true]))) acc=some (.lst ((aP (j+1) true).map V.bl))/\Ext acc H1 (upd H2 acc (.lst (ys++[.bl true]))):=by
     refine ⟨_,h2,by rw [aa,bE];exact jb (),_,rfl,?_,l.trans Ext.put⟩
     rw [j4,iE,aq]
     rfl
    cases o with
    | none =>
     left
     exact q
    | some y =>
     left
     exact q
   rintro σ H2 ⟨x,rfl,h2,l⟩
   have L:jf H1 H2:=λc o D=>l c o D (j1 D g)
   left
   refine ⟨acc,_,rfl,SqL.of h2,?_⟩
   rw [show ((aP (xs.map oV).length true).all λb=>b)=true by simp]
   left
   exact s1.trans L
  ·rintro σ H1 ⟨x,rfl,s1⟩
   have X:=s1 _ _ e
   left
   refine ⟨n,_,rfl,.inl (SqL.of (s1 _ _ p)),?_⟩
   rw [aa]
   left
   rw [show decide ((0:Int)<(u.length:Int))=true from decide_eq_true ()]
   exact k H1 s1
inductive spLike  (vs:List V) (H:Hp) (Q:VK) (z_3:XK):Prop
 | mk (t bl al ra:Addr) (bs as rw:List (Option Int)) (_:vs=[.ref t,.ref ra]) (_:H t=some (.tup [.ref bl,.ref al])) (_:H bl=some (.lst (bs.map oV))) (_:H al=some (.lst (as.map oV))) (_:H ra=some (.lst (rw.map oV))) (_:rw.length<=900) (_:1<=as.length) (_:as.length<=900) (_:bs.length<=rw.length) (_:(∀y o,rw[y]? = some o->(y<bs.length->bs[y]? = some o)/\(bs.length<=y->as[(y-bs.length) % as.length]? = some o))) (_:∀H',jf H H'->Q (.bl true) H')
theorem qI:FnScope ["_law_told","_law_row_here","_law_at","_law_one","_law_due"] ["_law_told","_law_row_here"] (j8 zd):=by walk_at "s"
theorem Vh (j:Nb2 mg) (F:Fun K "_law_like_row" "_law_like_row" zd f fd):FnOk P w K mg base CX0 1 f fd ["_law_told","_law_row_here"] spLike:=by
 refine F.ok qI (λN H Q E h=>?_) (λac A outer s H N Q E hr h=>?_)
 ·obtain ⟨t,x,L,g,bs,c,rw,rfl,_⟩:=h
  rfl
 ·obtain ⟨t,x,L,g,bs,c,rw,rfl,T,y,J,l,r9,a1,a9,br,I,k⟩:=h
  refine ⟨_,(j6 (qc (jv uL ↥109 (jd (ja K) rfl j.b_len aH ↥42) (jK _)) (j9 (jj yy)) jA)
   (j6 (qK bj rfl (ua K rfl j.b_enumerate ↥42) (qt (n:=2) K rfl (jn (jc (i:=2) qI.nd rfl (aU rfl)) (jn (jc (i:=3) qI.nd rfl (aU rfl)) qu))) (j6 (jz 4 qI.nd (ji (je K) ↥21 (jk xi (jk xE (pv 2) ↥109) ↥109) (λ_ _=>rfl)))
   (uh (qc (jv vP (pv 2) ↥109 (jK _)) (j9 (jz 4 qI.nd (ji (je K) ↥21 (pv 2) (λ_ _=>rfl)))) jA)
   (j9 (qc (jv Yc (pv 4) (pv 3) (jK _)) (j9 (jj yy)) jA)))))
   (j9 (jj yy)))),?_⟩
  left
  refine ⟨x,_,rfl,.inl (SqL.of y),?_⟩
  left
  refine ⟨g,_,rfl,.inl (SqL.of l),?_⟩
  rw [aa,aa]
  left
  refine qH (λz=>absurd z ()) (λ_=>?_)
  left
  refine ⟨⟨_,SqL.of l⟩,?_⟩
  refine wz (K:=K) (a:=g) (xs:=rw.map oV) (λi σ H1=>∃r q p:Option V,σ=[some (.ref t),some (.ref g),r,q,p]/\jf H H1) ?_ ?_ ?_ ?_
  ·exact ⟨_,_,_,rfl,jf.refl H⟩
  ·rintro i σ H1 hi ⟨r,q,p,rfl,s1⟩
   exact SqL.of (s1 _ _ l)
  ·rintro i v σ H1 d S ⟨r,q,p,rfl,s1⟩ D
   obtain ⟨o,rfl,U⟩:=VX S
   obtain ⟨X,Y⟩:=I i o U
   have O:jf H1 (upd H1 d (.tup [.int (i:Int),oV o])):=jf.new D
   have Z:(upd H1 d (.tup [.int (i:Int),oV o])) d=some (.tup [.int (i:Int),oV o]):=j4
   have u:=s1.trans O
   generalize upd H1 d (.tup [.int (i:Int),oV o])=H2 at *
   have ab:=u _ _ T
   have b:=u _ _ y
   have m:=u _ _ J
   left
   refine ⟨d,_,rfl,SqT.of Z,rfl,?_⟩
   refine ⟨_,_,rfl,_,_,rfl,rfl,?_⟩
   left
   refine ⟨x,_,rfl,.inl (SqL.of b),?_⟩
   left
   refine ⟨L,_,rfl,.inl (SqL.of m),?_⟩
   rw [aa,aa]
   left
   have R:=dP ((i:Int)-(bs.length:Int)) (show (c.length:Int)≠0 by right)
   have m1:=d6 ((i:Int)-(bs.length:Int)) (show (0:Int)<(c.length:Int) by right)
   obtain ⟨z,B⟩:∃z,c[(((i:Int)-(bs.length:Int)) % (c.length:Int)).toNat]? = some z:=⟨_,ae ()⟩
   have C:bs.length<=i->z=o:=λG=>by
    have e:=Y G
    rw [show (((i:Int)-(bs.length:Int)) % (c.length:Int)).toNat=(i-bs.length) % c.length by rw [show (i:Int)-(bs.length:Int)=((i-bs.length:Nat):Int) by right,<- ik,aW],e] at B
    exact (aJ B).symm
   refine ⟨_,_,_,_,rfl,rfl,SqL.of m,qO (v:=oV z) R (by rw [aw,B];rfl),?_⟩
   left
   refine ⟨λσ M=>σ=[some (.ref t),some (.ref g),some (.int (i:Int)),some (oV o),some (oV o)]/\M=H2,?_,?_⟩
   ·left
    refine ⟨x,_,rfl,.inl (SqL.of b),?_⟩
    rw [aa]
    left
    refine qH (λw=>?_) (λw=>?_)
    ·left
     refine ⟨_,_,_,_,rfl,rfl,SqL.of b,qO (v:=oV o) () (by rw [aW,aw,X ()];rfl),?_⟩
     exact ⟨rfl,rfl⟩
    ·rw [C ()]
     exact ⟨rfl,rfl⟩
   ·rintro σ M ⟨rfl,rfl⟩
    left
    refine ⟨Ju _ _,?_⟩
    left
    refine zS (λw=>absurd rfl w) (λ_=>?_)
    left
    exact ⟨_,_,_,rfl,u⟩
  ·rintro σ H1 ⟨r,q,p,rfl,s1⟩
   left
   exact k H1 s1
theorem wf {xs:List (Option Int)}(h:xs.getLast? = some z):∃ys,xs=ys++[z]:=by
 have ne:xs≠[]:=λe=>by rw [e] at h;cases h
 have e:=dr ne
 rw [cF ne] at h
 rw [aJ h] at e
 exact ⟨_,e.symm⟩
theorem gv {xs:List (Option Int)}(h:1<=xs.length):∃z,xs.getLast? = some z:=⟨_,cF (λe=>by rw [e] at h;exact absurd h (by show ¬1<=0;right))⟩
theorem xS:FnScope ["_law_script","_law_box_here","_law_scene_here","_law_ice","_law_lane","_law_last","_law_row_here","_law_told","_law_size","_law_gone","_law_other"] ["_law_script"] (j8 vf):=by walk_at "s"
theorem U9 (nb:Nb2 mg) (ca:mg "NoLane" = some (.ref CN)) (b5:PySem.W.exmOne K (.ref CN) (.ref CN)=some true)
  (b4:Cal P w K mg base 1 "_law_box" ["_law_script"] (spBoxL K)) (bt:Cal P w K mg base 2 "_law_take" ["_law_box_here","_law_size"] spTakeL) (a6:Cal P w K mg base 5 "_law_scene" ["_law_box_here"] spScene) (b2:Cal P w K mg base 10 "_law_made" ["_law_scene_here"] (spMade C Pt))
  (bv:Cal P w K mg base 1 "_law_news" ["_law_scene_here","_law_lane"] spNews) (a5:Cal P w K mg base 3 "_law_depths" ["_law_scene_here","_law_lane","_law_last"] spDepths) (a4:Cal P w K mg base 1 "_law_lowest" ["_law_depths_here"] spLowL)
  (ab:Cal P w K mg base 2 "_law_rows_told" ["_law_told"] spRT) (G:Cal P w K mg base 1 "_law_like_row" ["_law_told","_law_row_here"] spLike) (Y:CalX P w K mg base 5 "snouts" ["ice","lane"] (spSnouts C CN))
  (F:Fun K "law" "law" vf f fd):FnOk P w K mg base CX0 11 f fd ["_law_script"] (spLawT K Pt):=by
 refine F.ok xS ↥58 (λgg A outer s H vs Q E m h=>?_)
 ·obtain ⟨a,ns,rfl,_⟩:=h
  rfl
 ·obtain ⟨a,ns,rfl,hS,ge,fl,k⟩:=h
  have T0:qx H Pt:=.inl fl
  refine ⟨_,(j6 (jz 1 xS.nd (jg b4 (m.mono ⋯) rfl ↥33))
   (j6 (jz 2 xS.nd (jg a6 (m.mono ⋯) rfl ↥42))
   (j6 (jz 3 xS.nd (jg b2 (m.mono ⋯) rfl ↥91))
   (j6 (jz 4 xS.nd (jg bt (m.mono ⋯) rfl (j0 (pv 1) (j0 ↥30 j2))))
   (j6 (jz 5 xS.nd (jk jO (jk jO (jg bv (m.mono ⋯) rfl (j0 (pv 2) (j0 (pv 4) j2))) (jd (ja K) rfl nb.b_len aH (j0 (ji (je K) ↥134 (pv 4) (λ_ _=>rfl)) j2))) (jk vt j5 ↥30)))
   (j6 (zG (j:=6) (osc:=(j8 vf)) (ON:=["_law_script","_law_box_here","_law_scene_here","_law_ice","_law_lane","_law_last","_law_row_here","_law_told","_law_size","_law_gone","_law_other"]) (N:=["_law_depths_here","_law_fallen","_law_melted","_law_gone"]) (own:=4) (caps:=[]) ⟨rfl,∅,∅,∅,rfl,∅⟩ xS.nd rfl (aU rfl) rfl rfl rfl (jN K (jg a5 (m.mono ⋯) rfl (j0 (pv 2) (j0 (pv 4) (j0 (pv 5) j2))))) (λ_ _ _ _ _=>(qt (n:=4) K rfl (jn (jc (i:=0) (show aS ↥44 by decide +kernel) rfl (aU rfl)) (jn (jc (i:=1) (show aS ↥44 by decide +kernel) rfl (aU rfl)) (jn (jc (i:=2) (show aS ↥44 by decide +kernel) rfl (aU rfl)) (jn (jc (i:=3) (show aS ↥44 by decide +kernel) rfl (aU rfl)) qu)))))) ↥14 (λ_ _ _ _ _=>(jg a4 (m.mono ⋯) rfl ↥33)))
   (j6 (jz 7 xS.nd (jg Y.cal (m.mono ⋯) rfl (j0 (pv 3) (j0 (pv 4) j2))))
   (j6 (qc (PW.pt (JJ (qL (zp (jg ab (m.mono ⋯) rfl (j0 (pv 7) j2)))) (JJ (qL (zp (jg G (m.mono ⋯) rfl (j0 (pv 7) (j0 (pv 6) j2))))) (J6 (jv uL ↥75 ↥30 (jK _)))))) (j9 (jj yy)) jA)
   (j6 (qK bj rfl (ut rfl nb.b_range (j0 j5 (j0 ↥75 j2))) (jc (i:=8) xS.nd rfl (aU rfl)) (j9 (qc (PW.pt (wS (jv vZ (jk xi ↥75 (pv 8)) j5 (jK _)) (vX (jv (XR K m.units) (jk YQ (xQ (xl K) ↥22 zA (zy (pv 8))) (jk zY ↥75 (pv 8))) ↥22 (jK _))))) (j9 (jj yy)) jA)))
   (uh (qc (PW.pt (wS (jv uL ↥75 j5 (jK _)) (vX (jv vZ (ji (je K) ↥22 (zi xh j5) (λ_ _=>rfl)) (ji (je K) ↥22 (zi xh j5) (λ_ _=>rfl)) (jK _))))) (j9 (jj yy)) jA)
   (j6 (jU (zM K bC bG bH qk ↥22 (j0 j5 j2)))
   (j6 (jU (zM K bC bG bH qk ↥22 (j0 j5 j2)))
   (j6 (qc (qL (zp (jg G (m.mono ⋯) rfl (j0 (jg Y.cal (m.mono ⋯) rfl (j0 (pv 3) (j0 (pv 4) j2))) (j0 (pv 6) j2))))) (j9 (jj yy)) jA)
   (j6 (jz 9 xS.nd j5)
   (j6 (qK bj rfl (yb K (xV (j0 (jk xE j5 j5) (j0 ↥30 j2)))) (jc (i:=10) xS.nd rfl (aU rfl)) (j9 (U8 K rfl rfl ca rfl (λpn J=>(j9 (jU (y8 Y (m.mono ⋯) Vd rfl (j0 (pv 3) (j0 (pv 10) j2)))))) (λ_=>(j9 (jz 9 xS.nd (jk jO (pv 9) j5)))))))
   (j9 (jj (ym vZ (pv 9) j5 (jK _))))))))))))))))))),?_⟩
  left
  refine ⟨a,ns,rfl,hS,λL b H1 hb B1 s1=>?_⟩
  have T1:=T0.same s1
  left
  refine ⟨L,b,rfl,B1,λR H2 c B2 X2 S2 O=>?_⟩
  have T2:=Vo B1 X2 T1
  left
  refine ⟨R,b,c,rfl,S2,O,T2,λp H3 g I3 F3 R3 T3 er et es ek el ld ny nd=>?_⟩
  have W3:Lw C L b R p c g H2 H3:=Lw.start S2 O B2 T2 I3 F3 R3
  have kk:Lk c g:=⟨er,et,es,ek,el,ld,ny,nd⟩
  clear I3 R3 T3 er et es ek el ld ny nd
  have eg:g.lds.length=g.slopes.length:=by rw [kk.ll,O.ldl,kk.sl,aa]
  have t1:=O.t1
  have t2:=O.t2
  have f8:1<=c.ws.length:=by
   rw [O.ro.length]
   exact gq (jZ O.gr.ok) O.l1
  have f6:c.ws.length<=6:=by rw [O.ro.length];exact O.gr.heads
  obtain ⟨wr,c4⟩:=zR.of W3.S.sk
  have dD:=c4.good W3.S.sk
  have a9:=λy=>Y8 dD O.tg t1 y
  have e1:c.zs.length=c.ws.length:=(aZ W3.S.gi).trans (aa _)
  have d1:c.ys.length=c.ts.length:=W3.S.r3.length
  have f9:g.slopes.length=c.ws.length:=by rw [kk.sl,aa]
  have dk:∀{H':Hp},ScAt H' R c->qA H' R (.str "grounds") (some (.ref c.gl)):=λS'=>by rw [<- yl c.p c.q c.sg c.gl c.ll];exact qA.k (k:=.inr "grounds") S'.sd
  have ec:∀{H':Hp},ScAt H' R c->qA H' R (.str "rows") (some (.ref c.q)):=λS'=>by rw [<- w9 c.p c.q c.sg c.gl c.ll];exact qA.k (k:=.inr "rows") S'.sd
  have k3:=O.k3
  left
  refine ⟨R,.ref c.gl,rfl,dk W3.S,?_⟩
  left
  refine ⟨c.gl,_,rfl,.inl (SqL.of W3.S.gl),?_⟩
  rw [e1]
  left
  refine ⟨L,b,_,rfl,W3.B,⟨(),()⟩,λln H4 d0 e0 B4 X4=>?_⟩
  have W4:=W3.take B4 X4
  have d3:=c4.keep (uj W3.B X4)
  clear W3 c4
  obtain ⟨wy,da,dn,LF⟩:=kk.lane O d0 e0
  obtain ⟨ms,hp,hs⟩:=kC dn
  have l10:=LF.l10
  have gf:=LF.g30
  have g1:=LF.g1
  have hv:∀z,0<=jL ms z:=λz=>(uX (λq hq=>by have:=LF.b q (hp.mem_iff.mp hq);right) z).1
  obtain ⟨lo,ev⟩:∃lo:Nat->Option Int,lo=λy=>QV (qj ms (jh c.rs wy) wr c.ts 0 (y+1)):=⟨_,rfl⟩
  have dT:∀(H3:Hp) (Q':VK) (E':XK),Lw C L b R p c g H2 H3->zR H3 c.sk wr->(∀t bl T bs d H4,H3 bl=none->H3 T=none->bl≠T->H4 t=some (.tup [.ref bl,.ref T])->H4 bl=some (.lst (bs.map oV))->H4 T=some (.lst (d.map oV))->SnF lo c.ts.length bs d->(∀N:Int,-1<=N->(∀z∈c.sk,z.1<=N)->(∀q∈dn,q.1<=N)->(bs.length:Int)<=N+1+((jh c.rs wy).length:Int))->jf H3 H4->Q' (.ref t) H4)->spSnouts C CN [.ref p,.int ln] H3 Q' E':=λH3 Q' E' W' e2 kq=>by
   refine ⟨p,g,ln,c.sk,wr,rfl,W'.I,aZ W'.I.rows,eg,kk.kv,(),(λz hz=>O.k2 z hz),e2,by rw [kk.rows];exact t1,by rw [kk.rows];right,by rw [kk.rows];exact a9,(λhb=>absurd hb ()),λ_ _=>⟨dn,ms,jh c.rs wy,LF.at_,(λq hq=>by have:=LF.b q hq;right),hp,hs,hv,LF.sl,LF.g1,(),?_⟩⟩
   rw [kk.rows,<- ev]
   exact kq
  left
  refine ⟨R,c,ln,da,dn,rfl,W4.S,d0,LF.cd,(),(),λM H5 eu ep eo eq s5=>?_⟩
  have f4:M<=99:=by
   rcases ep with h | h | h
   ·right
   ·obtain ⟨z,hz,rfl⟩:=List.mem_map.mp h
    exact (O.k2 z hz).2
   ·obtain ⟨z,hz,rfl⟩:=List.mem_map.mp h
    have:=LF.b z hz
    right
  have W5:=W4.same s5
  have db:=d3.keep (jo.same s5)
  clear W4 d3 ep
  obtain ⟨ga,fp,eh⟩:=W5.S.gnd LF
  left
  refine ⟨R,.ref c.gl,rfl,dk W5.S,?_⟩
  left
  refine ⟨_,_,_,_,rfl,rfl,SqL.of W5.S.gl,fp,?_⟩
  left
  refine ⟨ga,_,rfl,.inl (SqL.of eh),?_⟩
  rw [aa]
  left
  refine ⟨R,.ref c.q,rfl,ec W5.S,?_⟩
  left
  refine ⟨c.q,_,rfl,.inl (SqL.of W5.S.q),?_⟩
  rw [d1]
  left
  simp only [gU,b0]
  obtain ⟨la,fo⟩:∃la:Nat,M+((jh c.rs wy).length:Int)+4*(c.ts.length:Int)=(la:Int):=⟨(M+((jh c.rs wy).length:Int)+4*(c.ts.length:Int)).toNat,()⟩
  rw [fo]
  refine ⟨R,c,g,ln,(la:Int),wy,da,dn,ms,wr,rfl,W5.S,LF,hp,db,t1,(),a9,(),(),λro c1 H7 e3 bk r7 f7=>?_⟩
  rw [show ((la:Int)+1).toNat=la+1 by right] at r7
  have W7:=W5.fr f7
  have d2:=db.keep (FrM.keepT f7)
  clear W5 db eh
  have ed:c1.length=la+1:=(aZ r7).trans (by unfold qR;rw [aa,bg])
  left
  refine ⟨⟨_,SqL.of bk⟩,λacc a0=>?_⟩
  refine jJ (K:=K) (a:=ro) (xs:=c1) (acc:=acc) (λi σ H8=>∃x0 x1 x2 x3:Option V,σ=[x0,x1,x2,x3]/\H8 acc=some (.lst (((aG i).map lo).map oV))/\Ext acc H7 H8) ?_ ?_ ?_ ?_
  ·exact ⟨_,_,_,_,rfl,j4,Ext.put⟩
  ·rintro i σ H8 hi ⟨x0,x1,x2,x3,rfl,h8,e8⟩
   exact SqL.of (e8 _ _ bk (j1 bk a0))
  ·rintro i v σ H8 eb ⟨x0,x1,x2,x3,rfl,h8,e8⟩
   obtain ⟨q,hq,bq,dl,rfl,en,ej⟩:=Paired.get r7 eb
   have hi:i<c1.length:=(List.getElem?_eq_some_iff.mp eb).1
   have hq:yd ms (jh c.rs wy) wr c.ts 0 i=q:=by
    unfold qR at hq
    rw [aw,cY ()] at hq
    exact aJ hq
   have ei:q.2.2.2=qj ms (jh c.rs wy) wr c.ts 0 (i+1):=by rw [<- hq];rfl
   have f2:=qC ms (jh c.rs wy) wr c.ts 0 (i+1)
   left
   refine ⟨bq,_,rfl,SqT.of (e8 _ _ en (j1 en a0)),rfl,?_⟩
   refine ⟨_,_,rfl,_,_,rfl,_,_,rfl,_,_,rfl,rfl,?_⟩
   left
   refine ⟨dl,q.2.2.2,rfl,e8 _ _ ej (j1 ej a0),by rw [ei];right,λH9 s9=>?_⟩
   refine ⟨_,s9 _ _ h8,by rw [aa,aa,bg];exact jb (),_,_,_,_,rfl,?_,λc o hc n=>by rw [j7 n];exact s9 _ _ (e8 c o hc n)⟩
   rw [j4,bW,aq,aq,ZZ,ei,ev]
   rfl
  rintro σ H8 ⟨x0,x1,x2,x3,rfl,h8,e8⟩
  have s8:jf H7 H8:=λc o hc=>e8 c o hc (j1 hc a0)
  rw [ed] at h8
  have W8:=W7.same s8
  have c9:=d2.keep (jo.same s8)
  clear W7 d2 e8 a0 bk r7 e3 s8 f7 ed
  have gc:((aG (la+1)).map lo).length=la+1:=by rw [aa,bg]
  have c2:∀{bs d:List (Option Int)},SnF lo c.ts.length bs d->∀y o,((aG (la+1)).map lo)[y]? = some o->(y<bs.length->bs[y]? = some o)/\(bs.length<=y->d[(y-bs.length) % d.length]? = some o):=λ{bs d} X y o ho=>by
   have hy:=(List.getElem?_eq_some_iff.mp ho).1
   rw [aw,cY ()] at ho
   have ho:lo y=o:=aJ ho
   rw [<- ho]
   exact ⟨X.bat y,X.aat y⟩
  generalize gb:(aG (la+1)).map lo=rw at *
  left
  simp only [gU,b0]
  refine dT H8 _ _ W8 c9 λt bl T bs d H9 e7 e9 fw ce bm br X b3 s9=>?_
  have bN:=b3 M eu eo eq
  have a1:=X.a1
  have aR:=X.aR
  have f5:=X.b1
  have dg:=s9 _ _ h8
  left
  refine ⟨t,bl,T,bs,d,rfl,ce,bm,br,(),(),a1,λgm a8=>?_⟩
  left
  refine ⟨t,bl,T,acc,bs,d,rw,rfl,a8 _ _ ce,a8 _ _ bm,a8 _ _ br,a8 _ _ dg,(),a1,(),(),c2 X,λf1 dV=>?_⟩
  have ap:=a8.trans dV
  have b9:=ap _ _ ce
  have cl:=ap _ _ bm
  have Z:=ap _ _ br
  have be:=s9.trans ap
  clear ce bm br dg s9 a8 dV ap
  left
  refine ⟨T,_,rfl,.inl (SqL.of Z),?_⟩
  left
  refine ⟨R,.ref c.q,rfl,ec (W8.same be).S,?_⟩
  left
  refine ⟨c.q,_,rfl,.inl (SqL.of (W8.same be).S.q),?_⟩
  rw [aa,d1]
  left
  refine qH (λz=>absurd z ()) (λ_=>?_)
  left
  refine ⟨T,_,rfl,.inl (SqL.of Z),?_⟩
  rw [aa]
  refine ⟨_,_,rfl,⟨(),(),(),()⟩,?_⟩
  refine xk (λj σ cs=>∃x:Option V,σ=[some (.ref a),some (.ref b),some (.ref R),some (.ref p),some (.int ln),some (.int (la:Int)),some (.ref acc),some (.ref t),x,none,none]/\jf f1 cs) ?_ ?_ ?_
  ·exact ⟨_,rfl,jf.refl _⟩
  ·rintro j σ cs hj ⟨x,rfl,U⟩
   have em:(1:Int)+(j:Int)=↥49:=()
   have aL:=U _ _ b9
   have l:=U _ _ Z
   left
   refine ⟨T,_,rfl,.inl (SqL.of l),?_⟩
   rw [aa,em]
   left
   refine qH (λz=>?_) (λz=>?_)
   ·have z:=V.int.inj z
    have z1:d.length % (j+1)=0:=by
     have e:((d.length % (j+1):Nat):Int)=0:=by rw [ik];exact z
     right
    left
    refine ⟨_,_,rfl,SqL.of l,λa2 D gd dt a7=>?_⟩
    rw [wb,<- eX] at dt
    have eD:=a7 _ _ aL
    have cr:=a7 _ _ l
    left
    refine ⟨T,_,rfl,.inl (SqL.of cr),?_⟩
    rw [aa]
    left
    rw [<- pN]
    have hk:d.length / (j+1)<=d.length:=rA _ _
    have e6:(d.take (j+1)).length*(d.length / (j+1))<=d.length:=by
     rw [aE]
     exact aI (nu _ (rC _ _)) (sI _ _)
    refine ⟨a2,_,_,rfl,rfl,dt,(),(),by rw [aa,aW];exact aI e6 (c3 (jb ())),λa3 fa=>?_⟩
    rw [aW,show (aP (d.length / (j+1)) ((d.take (j+1)).map oV)).flatten=(↥90).map oV by rw [pO,oA]]
    have r:=jf.new (o:=.lst ((↥90).map oV)) fa
    have eT:(upd D a3 (.lst ((↥90).map oV))) a3=_:=j4
    generalize upd D a3 (.lst ((↥90).map oV))=ac at *
    have dd:=r _ _ eD
    have dF:=r _ _ cr
    left
    refine ⟨λ_=>False,λ_=>False,_,_,Dat.rep (λ_=>id) (.lst eT (k9 _ _)),Dat.rep (λ_=>id) (.lst dF (k9 _ d)),yV _,yV _,?_⟩
    rw [Yj]
    left
    refine qH (λw=>absurd ⟨z1,w.symm⟩ (X.min (j+1) () ())) (λ_=>?_)
    left
    exact U.trans (a7.trans r)
   ·left
    exact U
  rintro σ cs ⟨x,rfl,U⟩
  have aL:=U _ _ b9
  have an:=U _ _ cl
  have l:=U _ _ Z
  have cy:=be.trans U
  clear b9 cl Z be U
  left
  refine ⟨λσ D=>σ=[some (.ref a),some (.ref b),some (.ref R),some (.ref p),some (.int ln),some (.int (la:Int)),some (.ref acc),some (.ref t),x,none,none]/\D=cs,?_,?_⟩
  ·left
   refine ⟨bl,_,rfl,.inl (SqL.of an),?_⟩
   rw [aa]
   left
   refine qH (λz=>?_) (λz=>?_)
   ·obtain ⟨u,hu⟩:=gv (xs:=bs) ()
    obtain ⟨v,ea⟩:=gv a1
    have e5:u≠v:=λe=>by
     rcases X.end_ with h | h
     ·rw [h] at hu;cases hu
     ·exact h (by rw [hu,ea,e])
    obtain ⟨bi,fs⟩:=wf hu
    obtain ⟨ai,fu⟩:=wf ea
    have dp:=an
    have ds:=l
    rw [fs,aq] at dp
    rw [fu,aq] at ds
    left
    refine ⟨_,_,_,_,rfl,rfl,SqL.of dp,zk _ _,?_⟩
    left
    refine ⟨_,_,_,_,rfl,rfl,SqL.of ds,zk _ _,?_⟩
    refine ⟨Ju _ _,?_⟩
    left
    refine qH (λw=>absurd (Y1 w) e5) (λ_=>?_)
    exact ⟨rfl,rfl⟩
   ·exact ⟨rfl,rfl⟩
  rintro σ D ⟨rfl,rfl⟩
  left
  refine ⟨.inl ⟨rfl,_,SqL.of l⟩,?_⟩
  left
  refine ⟨_,_,_,rfl,rfl,l,by rw [aa];exact jb (),?_⟩
  have ct:jf H8 (upd D T (.lst (d.map oV++[.int 0]))):=λc o hc=>by rw [j7 (j1 hc e9)];exact cy _ _ hc
  have dd:(upd D T (.lst (d.map oV++[.int 0]))) t=some (.tup [.ref bl,.ref T]):=by rw [j7 (jm aL l ↥4)];exact aL
  have bn:(upd D T (.lst (d.map oV++[.int 0]))) bl=some (.lst (bs.map oV)):=by rw [j7 fw];exact an
  generalize upd D T (.lst (d.map oV++[.int 0]))=ac at *
  left
  refine ⟨.inl ⟨rfl,_,SqL.of bn⟩,?_⟩
  left
  refine ⟨_,_,_,rfl,rfl,bn,by rw [aa];exact jb (),?_⟩
  have bd:jf H8 (upd ac bl (.lst (bs.map oV++[.int 0]))):=λc o hc=>by rw [j7 (j1 hc e7)];exact ct _ _ hc
  generalize upd ac bl (.lst (bs.map oV++[.int 0]))=f0 at *
  have dy:=W8.same bd
  have b6:=c9.keep (jo.same bd)
  have ch:=bd _ _ h8
  clear W8 c9 h8 bd ct cy dd bn aL an l X b3 bN
  left
  simp only [gU,b0]
  refine dT f0 _ _ dy b6 λt' fx fz fv fy gj _ _ _ dc ci cm X b3 cb=>?_
  have bN:=b3 M eu eo eq
  have a1:=X.a1
  have aR:=X.aR
  left
  refine ⟨t',fx,fz,acc,fv,fy,rw,rfl,dc,ci,cm,cb _ _ ch,(),a1,(),(),c2 X,λgh cL=>?_⟩
  have dx:=dy.same (cb.trans cL)
  have ex:=b6.keep (jo.same (cb.trans cL))
  clear dy b6 ch dc ci cm cb cL X b3
  left
  refine ⟨R,.ref c.gl,rfl,dk dx.S,?_⟩
  left
  refine ⟨c.gl,_,rfl,.inl (SqL.of dx.S.gl),?_⟩
  left
  refine ⟨by show 2<=sizeLine;decide,λdK D f3 am a7=>?_⟩
  have ew:=dx.same a7
  have ey:=ex.keep (jo.same a7)
  have am:D dK=some (.tup ([-1,(c.zs.length:Int)].map V.int)):=am
  left
  refine ⟨⟨_,SqT.of am⟩,?_⟩
  refine Js (K:=K) (a:=dK) (xs:=[-1,(c.zs.length:Int)].map V.int) (λi σ ac=>∃z:Option V,σ=[some (.ref a),some (.ref b),some (.ref R),some (.ref p),some (.int ln),some (.int (la:Int)),some (.ref acc),some (.ref t),x,some (.int i),z]/\jf D ac) ?_ ?_ ?_ ?_
  ·exact ⟨none,rfl,jf.refl _⟩
  ·rintro i σ ac hi ⟨z,rfl,r⟩
   exact SqT.of (r _ _ am)
  ·rintro i v σ ac hv ⟨z,rfl,r⟩
   obtain ⟨ot,rfl,e4⟩:=xj hv
   have eH:ot<0\/ ↥15<=ot:=by
    have:=aB e4
    simp at this
    right
   left
   refine ⟨p,g,ot,c.sk,wr,rfl,ew.I.same r,aZ (ew.I.same r).rows,eg,kk.kv,(),(λz hz=>O.k2 z hz),ey.keep (jo.same r),by rw [kk.rows];exact t1,by rw [kk.rows];right,by rw [kk.rows];exact a9,(λ_=>⟨b5,?_⟩),λ_ _=>absurd eH ()⟩
   left
   first | exact r | exact ⟨_,rfl,r⟩
  ·rintro σ ac ⟨z,rfl,r⟩
   left
   exact k ac
end
local macro_rules | `(tactic| walk_at "1")=>`(tactic| exact fun _ _ _ _ _ _ _ hl=>bnd1 hl fun _=>rfl)
local macro_rules | `(tactic| walk_at "2")=>`(tactic| exact fun _ _ _ _ _ _ _ hl=>bnd2 hl fun _ _=>rfl)
local macro_rules | `(tactic| walk_at "3")=>`(tactic| exact fun _ _ _ _ _ _ _ hl=>bnd3 hl fun _ _ _=>rfl)
local macro_rules | `(tactic| walk_at "4")=>`(tactic| exact fun _ _ _ _ _ _ _ hl=>bnd4 hl fun _ _ _ _=>rfl)
local macro_rules | `(tactic| walk_at "5")=>`(tactic| exact fun _ _ _ _ _ _ _ hl=>bnd5 hl fun _ _ _ _ _=>rfl)
local macro_rules | `(tactic| walk_at "6")=>`(tactic| exact fun _ _ _ _ _ _ _ hl=>bnd6 hl fun _ _ _ _ _ _=>rfl)
theorem W1 {l:rg}{K:ag}(X:K.In h) (G:h.Ns mainGlobals mg) (er:mg "law" = some (.ref fa))
  
  {C0:Addr}
  {C1:Addr}
  {C2:Addr}
  {C3:Addr}
  {C4:Addr}
  {C5:Addr}
  {C6:Addr}
  
  
  
  
  
  
  
  
  
  
  (ew:aY K mainGlobals "Ice" = some (some (.ref CI))) (eh:fm K CI Str.empty=true) (eu:fU K CI=true) (eg:lC K CI=true) (ed:bU K (.ref CI) "__setattr__" = some (some (.builtin "object.__setattr__"))) (en:mB K CI=true) (ep:c7 K (.ref CI)=true)
  (em:bU K (.ref CI) "valley" = some none)
  (el:bU K (.ref CI) "cycle" = some none)
  (ek:bU K (.ref CI) "slopes" = some none)
  (ej:bU K (.ref CI) "years" = some none)
  (ei:bU K (.ref CI) "leaps" = some none)
  (a1:gN K "leads_on" vA)
  (a2:gN K "is_reach" yq)
  (a3:gN K "way_down" vw)
  (a4:aY K mainGlobals "lanes" = some (some (.ref f4))) (l4:K.lookup f4=some ⟨g4,g3,.func (bS "lanes" "lanes" (jX qQ) (jR qQ) (j8 qQ) .none g5 g6 g2 g8 (.ref cL) g7),g1⟩) (c4:cS K (.ref cL) "lanes" = true) (k4:c7 K (.ref f4)=true) (et:PySem.W.codeHdIn K cL 142=true)
  (a5:gN K "way_of" wU)
  (a6:gN K "count_places" xo)
  (a7:gN K "fits" gL)
  (a8:gN K "is_valley" zH)
  (a9:gN K "heights" yW)
  (gI:gN K "is_weather" y9)
  (gF:gN K "change" wH)
  (gD:gN K "is_round" yp)
  (gw:gN K "check_round" zO)
  (gu:gN K "check_told" yo)
  (gt:gM K CI "__init__" "Ice.__init__" qG)
  (gs:gM K CI "check_lane" "Ice.check_lane" xz)
  (gn:gM K CI "check_place" "Ice.check_place" xg)
  (gl:gM K CI "length" "Ice.length" zP)
  (gi:gM K CI "height" "Ice.height" zQ)
  (ge:gM K CI "sky" "Ice.sky" vm)
  (gc:gM K CI "tell" "Ice.tell" yC)
  (gb:gM K CI "surge" "Ice.surge" yw)
  (ga:gM K CI "surges" "Ice.surges" xH)
  (f9:gM K CI "rows" "Ice.rows" yG)
  (f8:gM K CI "told" "Ice.told" zx)
  (f7:gN K "settled" zX)
  (f6:gN K "course" xA)
  (f5:gN K "lowest_ice" xT)
  (f3:gN K "shortest" vg)
  (f2:gN K "snouts" vI)
  (f1:gN K "_law_box" uC)
  (f0:gN K "_law_mixed" yP)
  (fz:gN K "_law_take" vh)
  (fy:gN K "_law_whole" yQ)
  (fx:gN K "_law_weather" zN)
  (fw:gN K "_law_round" zF)
  (fv:gN K "_law_ground_drawn" qh)
  (fu:gN K "_law_reaches" qY)
  (fo:gN K "_law_roads" xL)
  (e9:gN K "_law_ground" yk)
  (e8:gN K "_law_year" vv)
  (e7:gN K "_law_scene" xP)
  (e6:gN K "_law_made" vB)
  (e5:gN K "_law_row" uw)
  (e4:gN K "_law_wish" vC)
  (e3:gN K "_law_ride" yr)
  (e2:gN K "_law_marks" zJ)
  (e1:gN K "_law_news" vq)
  (e0:gN K "_law_depths" xp)
  (eT:gN K "_law_lowest" xU)
  (eH:gN K "_law_rows_told" xc)
  (eD:gN K "_law_like_row" zd)
  (ey:aY K mainGlobals "law" = some (some (.ref db))) (eo:K.lookup db=some ⟨g0,gT,.func (bS "law" "law" (jX vf) (jR vf) (j8 vf) .none dF dK dD dV cy dT),gO⟩) (ev:cS K cy "law" = true) (eq:c7 K (.ref db)=true)
  (dy:gE K "BadValley" C0)
  (dt:gE K "BadRound" C1)
  (ct:gE K "NoLane" C2)
  (dn:gE K "BadYear" C3)
  (dg:gE K "BadWeather" C4)
  (dd:gE K "BadSurge" C5)
  (dc:gE K "NoPlace" C6)
  (z0:aY K mainGlobals "len" = some none)
  (z1:aY K mainGlobals "range" = some none)
  (z2:aY K mainGlobals "isinstance" = some none)
  (z3:aY K mainGlobals "int" = some none)
  (z4:aY K mainGlobals "bool" = some none)
  (z5:aY K mainGlobals "str" = some none)
  (z6:aY K mainGlobals "list" = some none)
  (z7:aY K mainGlobals "tuple" = some none)
  (z8:aY K mainGlobals "min" = some none)
  (z9:aY K mainGlobals "max" = some none)
  (ec:aY K mainGlobals "all" = some none)
  (eb:aY K mainGlobals "zip" = some none)
  (ea:aY K mainGlobals "enumerate" = some none)
  (d3:aY K mainGlobals "sorted" = some none)
  (d2:aY K mainGlobals "sum" = some none)
  (d1:aY K mainGlobals "dict" = some none)
  (d0:aY K mainGlobals "abs" = some none)
  (q0:aY K mainGlobals "MOST_REACHES" = some (some (.int 8 u0)))
  (q1:aY K mainGlobals "MOST_HEIGHTS" = some (some (.int 12 u1)))
  (q2:aY K mainGlobals "GREATEST_HEIGHT" = some (some (.int 99 u2)))
  (q3:aY K mainGlobals "MOST_LANES" = some (some (.int 6 u3)))
  (q4:aY K mainGlobals "LONGEST_LANE" = some (some (.int 30 u4)))
  (q5:aY K mainGlobals "HIGHEST_LINE" = some (some (.int 100 u5)))
  (q6:aY K mainGlobals "MOST_HANDS" = some (some (.int 9 u6)))
  (q7:aY K mainGlobals "MOST_ROWS" = some (some (.int 12 u7)))
  (q8:aY K mainGlobals "LAST_TOLD" = some (some (.int 99 u8)))
  (q9:aY K mainGlobals "GREATEST_SURGE" = some (some (.int 9 u9)))
  : ∃fd:FuncData,(∀(s:Shared) (v:ak),rG s fd ⟨[v],[]⟩ [("_law_script",v)])/\∀base:Heap,K.In base->base.Ns mainGlobals mg->Bm mg base->FnOk l.prog w K mg base CX0 11 fa fd ["_law_script"] (spLawT K 142):=by
 have e:=er.symm.trans (bB X G ey)
 cases e
 have b:Nb2 mg:={ b_len:=bo X G z0,b_range:=bo X G z1,b_isinstance:=bo X G z2,b_int:=bo X G z3,b_bool:=bo X G z4,b_str:=bo X G z5,b_list:=bo X G z6,b_tuple:=bo X G z7,b_min:=bo X G z8,b_max:=bo X G z9,b_all:=bo X G ec,b_zip:=bo X G eb,b_enumerate:=bo X G ea,b_sorted:=bo X G d3,b_sum:=bo X G d2 }
 have c2:=bo X G d1
 have da:=bo X G d0
 have y:=bB X G q0
 have A:=bB X G q1
 have q:=bB X G q2
 have O:=bB X G q3
 have B:=bB X G q4
 have C:=bB X G q5
 have P:=bB X G q6
 have Z:=bB X G q7
 have ab:=bB X G q8
 have r:=bB X G q9
 have ac:=bB X G dy.e
 have Y:=dy.x
 have bm:=bB X G dt.e
 have bk:=dt.x
 have t:=bB X G ct.e
 have M:=ct.x
 have ci:=ct.m
 have ca:=bB X G dn.e
 have b6:=dn.x
 have Q:=bB X G dg.e
 have N:=dg.x
 have bl:=bB X G dd.e
 have bi:=dd.x
 have b9:=bB X G dc.e
 have b5:=dc.x
 have d:Cls K CI:=⟨eh,eu,eg,ed⟩
 have f:IceC K CI:=⟨d,em,el,ek,ej,ei⟩
 refine ⟨bS "law" "law" (jX vf) (jR vf) (j8 vf) .none dF dK dD dV cy dT,λs v=>.of_eq rfl,λbase dk _ dp=>?_⟩
 have CH:=PySem.W.codeHd_of_K dk et
 have z:Zt l.prog w K mg base:=⟨X,G⟩
 have br:=a1.cal z ↥37 (Ql)
 have b3:=a2.cal z ↥37 (JF b A q br)
 have bn:=a3.cal z ↥37 (Q7 b)
 have E:Cal l.prog w K mg base 5 "lanes" ["reaches"] (spLanes K 142):=Cal.mkC (st:=qQ) X G a4 l4 c4 k4 ↥38 (ZY b bn CH dp l4 c4)
 have cl:=a5.calX z ↥37 (Zf b t M E)
 have H:=a6.cal z ↥37 (uS b)
 have c1:=a7.cal z ↥37 (VL b O B H)
 have aL:=a8.cal z ↥38 (J4 b y b3 E c1)
 have ch:=a9.calX z ↥37 (QP b cl)
 have n:=gI.cal z ↥38 (kO C P)
 have cs:=gF.cal z ↥37 (ZN)
 have b2:=gD.cal z ↥38 (Qk b.toNb Z n)
 have J:=gw.calX z ↥38 (wO b bm bk b2)
 have o:=gu.calX z ↥38 (kL ab ca b6)
 have c9:=gt.mak z en ep ew (by walk_at "3") (uy b f ac Y aL J E ch.cal)
 have a:=gs.calX z ↥37 (vz b f t M)
 have p:=gn.calX z (by walk_at "3") (v0 b f b9 b5 d a)
 have j:=gl.calX z ↥37 (wR b f d a)
 have L:=gi.calX z (by walk_at "3") (kj b f d p)
 have b4:=ge.cal z ↥37 (Q3 b f)
 have bd:=gc.calX z (by walk_at "3") (Ja b f Q N o n)
 have V:=gb.calX z (by walk_at "4") (kI b f d r bl bi a o)
 have i:=ga.calX z ↥37 (kg b f d a)
 have be:=f9.cal z ↥38 (Jb b f)
 have a0:=f8.cal z ↥38 (gZ b f)
 have cb:=f7.calX z ↥37 (Xk b d a0 i j)
 have cr:=f6.calX z (by walk_at "4") (ZD b c2 d i j cs b4 L)
 have R:=f5.cal z ↥38 (kK b)
 have bq:=f3.cal z ↥38 (Qg b)
 have cm:=f2.calX z ↥37 (XZ b d a cb be cr R bq)
 have ce:=f1.cal z ↥38 (Uw b.toNb)
 have ap:=f0.cal z ↥37 (Y3)
 have c:=fz.cal z ↥37 (Vs b.toNb ap)
 have ai:=fy.cal z ↥38 (Ym b)
 have g:=fx.cal z ↥38 (Xp c)
 have am:=fw.cal z ↥38 (YI b.toNb c g)
 have k:=fv.cal z (by walk_at "3") (uR b c)
 have I:=fu.cal z ↥38 (Xr b c k)
 have an:=fo.cal z ↥38 (Y9 b)
 have T:=e9.cal z ↥37 (ZF)
 have bs:=e8.cal z ↥38 (Vy c)
 have al:=e7.cal z ↥38 (Ys b c I am T an bs g)
 have b1:=e6.cal z ↥38 (V9 b d c9 bd V)
 have cd:=e5.cal z ↥37 (U0 b)
 have bt:=e4.cal z ↥37 (VF)
 have bv:=e3.cal z (by walk_at "3") (V8 b)
 have as:=e2.cal z (by walk_at "3") (Yz b bv)
 have bN:=e1.cal z ↥37 (VC b)
 have U:=e0.cal z (by walk_at "3") (Za b da as bt cd)
 have S:=eT.cal z ↥38 (Vz b)
 have u:=eH.cal z ↥38 (Wc b ai)
 have D:=eD.cal z ↥37 (Vh b)
 exact U9 b t ci ce c al b1 bN U S u D cm (vy (st:=vf) eo ev eq)
end K30
end
open PySem PySem.W PyProof.Rows
set_option maxRecDepth 100000 in
set_option maxHeartbeats 0 in
theorem PySem.Challenge.cw_firnfall_k30_whole_snouts_come_round_holds : PySem.Challenge.rw_firnfall_k30_whole_snouts_come_round.Holds := by
 w_on
 refine holds_law HO.ws λb=>?_
 refine holds_open (q:=HO.view) (loose:=HO.loose) (N:=12000) (Xt:=HO.xt) (XP:=XL HO.view [])
  (Yf:=Hook.obs ↥80) (Ya:=Hook.val ↥80) (YP:=Hook.says ↥80)
  HO.left (Hook.of ↥80) (Hook.keeps ↥80)
  (λs e=>xl_of s (Bool.and_eq_true_iff.mp e).1) XL.keeps rfl rfl rfl
  (λs e=>recFacts_of (Bool.and_eq_true_iff.mp e).2) rfl
  (by first | assumption | decide +kernel) (by decide +kernel) ⟨rfl,rfl,rfl,rfl,rfl,by decide +kernel⟩ ?hw ?hc
 (case hw=>w_witness2)
 k_fill
 refine L2.V5 (l:=PySem.Challenge.rw_firnfall_k30_whole_snouts_come_round) 11 144 142 ⟨rfl,⋯,⋯⟩ rfl rfl (λw h Y=>⟨PySem.W.km_in_of Y,PySem.W.km_tabs_of Y 142 (by simp)⟩) (λ_=>by kernel_rfl) (λ_=>by kernel_rfl) ?F
 case F =>
  intro w mg d h c G a
  refine' K30.W1 c G a ..
  all_goals try first | refine' L2.gN.mk ?_ ?_ ?_ ?_ | refine' L2.gM.mk ?_ ?_ ?_ ?_ ?_ | refine' L2.gE.mk ?_ ?_ ?_
  all_goals try show _=_
  all_goals try k_is
  all_goals kernel_rfl
