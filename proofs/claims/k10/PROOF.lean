import PyProof.Rows.All
import Wide.All
import OpenK.AllK
import Wide.FinOn
import Lean
import PyProof.EqAt
import PyProof.EqKinds
import PyProof.TupleCall
import PyProof.NsDelKeeps
import PyProof.AttrMissHeap
import KE.KDictOf
import PyProof.Rows.MinMaxN
import OpenK.KLine
import KE.KNestM
import PySem.Challenge.RW_firnfall_k10_whole_glaciers_side_by_side
set_option Elab.async false
set_option linter.all false
set_option maxRecDepth 100000
set_option maxHeartbeats 0
open And renaming intro->fP
open Array renaming length_toList->bP,getElem?_eq_getElem->dB,getElem?_setIfInBounds_ne->i5,getD_eq_getD_getElem?->iL,getElem?_toList->mC,getD->oa,forIn_toList->oh,mk->oz,toList_map->pJ
open Bool renaming false_ne_true->au,and_eq_true->b9,false_eq_true->c9,eq_iff_iff->d5,true_and->eL,and_false->rV
open False renaming elim->bg
open ForIn renaming forIn->sX
open ForInStep renaming yield->bU
open Iff renaming rfl->sR
open Int renaming toNat_natCast->bz,emod_lt_of_pos->eB,emod_nonneg->fI,fdiv_eq_ediv_of_nonneg->iS,lt_of_le_of_lt->ou,zero_add->pw
open LawfulBEq renaming eq_of_beq->sM
open List renaming length_map->af,getElem?_eq_getElem->ag,getD_eq_getElem?_getD->ao,getElem?_map->aq,mem_of_getElem?->ar,size_toArray->ax,length_append->ay,mem_append_right->aD,map_append->aF,mem_cons_of_mem->aH,mem_cons_self->aO,map_cons->aV,range->aW,length_take->b0,length_singleton->b7,Nodup->b8,length_cons->bb,take_length->bc,append_nil->bj,all_eq_true->bB,map_map->bF,length_filter_le->bI,take_add_one->bL,getElem_mem->bW,mem_map_of_mem->bY,length_range->c5,getElem?_append_right->c7,getElem?_append_left->cj,mem_or_eq_of_mem_set->cn,mem_append_left->cB,lookup_cons->cD,take_of_length_le->cN,reverse->cO,getElem?_set->cQ,map_set->cY,all_cons->di,replicate->dq,getElem?_zip_eq_some->dz,drop_eq_getElem_cons->dA,ext_getElem?->dI,map_congr_left->dN,pairwise_singleton->dP,lookup->dS,filter_append->ee,range_succ->eF,find?_cons->eG,length_replicate->eP,reverse_reverse->eZ,map_nil->fh,all_map->fi,not_mem_nil->fj,filterMap_cons->fk,any_cons->fB,mem_cons->fE,of_mem_zip->fG,filter->fO,getElem?_set_self->fS,length_pos_of_mem->fZ,append_assoc->i0,ext_getElem->ie,getElem_map->ig,getElem?_set_ne->ip,length->iq,length_set->iC,forIn_cons->iD,length_reverse->iI,zipWith->iN,map->iX,nodup_nil->l9,reverse_cons->lu,map_id->lx,flatten_cons->lA,getElem?_replicate->lO,map_snd_zip->lQ,drop_of_length_le->ma,find?_cons_of_pos->mi,find?_cons_of_neg->mj,replicate_succ'->mX,filterMap_map->nZ,pairwise_cons->ow,toArray->oY,getElem?_inj->px,length_drop->pG,zipIdx_cons->pL,filter_cons->pR,map_reverse->pS,any_eq_true->pT,zipIdx_nil->rp,length_nil->rC,forIn_nil->sj,take_zero->sv,sum_cons->sI,any->tE
open List.Pairwise renaming nil->eU,imp->pj
open List.Perm renaming refl->mL,cons_inv->oj
open List.cons renaming inj->eN
open Nat renaming le_refl->av,ne_of_lt->aB,le_trans->aE,lt_of_lt_of_le->aK,zero_le->aP,lt_succ_of_lt->c3,lt_of_le_of_lt->c8,lt_irrefl->cw,ne_of_gt->cJ,succ_le_succ->dj,le_succ->dH,le_add_right->dQ,le_of_lt->dX,le_succ_of_le->eV,lt_succ_self->ia,le_of_eq->oE,le_of_succ_le->pz,not_lt_zero->rm
open Ne renaming symm->cG
open Option renaming isSome_map->ly,toList_some->oq,getD_none->pI,bind_some->pQ
open Option.some renaming inj->aI
open Or renaming inl->bf,inr->ib
open Prod renaming fst->oP,snd->oQ
open PyProof.Rows renaming boot_isinstance->aQ,boot_list->bo,seqObj->bu,boot_tuple->cF,callWith_type1->cH,slot_tuple_getitem->cT,listUpdate_at->cX,IntsAre->de,boot_dict->df,get?_update_seq->eE,boot_int->eR,seqEpoch_at->eY,boot_bool->i4,AllBare->ij,subscriptTail->ik,boot_sorted->iu,envOfC->iB,Subscript_->lZ,subscriptTail_builtinR->m9,listItems_at->md,entry_list_sort->mr,boot_str->mD,slot_list_sort->mK,boot_all->mV,entry_tuple_getitem->nk,slot_tupleiter_next->nA,args_tuple_getitem->o8,size_push'->og,plain_sorted->oW,entry_sorted->oX,kind_sorted->rf,list_sort_plain->rj,IsTup->rM,slicePart_none->rQ,SortKind->rY,args_list_sort->se,failedOf->si,tupleItemsOf_->sF,tail_any->sW,oneType'->tm
open PyProof.Rows.IsTup renaming new->pH
open PyProof.Rows.KeyOrd renaming kle_refl->d6,kle_of_klt->fY,kle_trans->ic,kle_antisymm->iH
open PySem renaming wpAny_bind->aa,Value->ak,wpAny->az,model->aC,starEach->aJ,boot_len->aR,wpAny_mono->aX,World->bp,Around->br,wpAny_field->bw,wpAny_newObj_type->bx,wpAny_holding->bD,sizeLine_eq->bH,wpAny_callSpecial?_slot->bQ,wpAny_loadPart'->bV,wpAny_truthy_bool->bZ,rawInt->c6,compareOp->cf,wpAny_call_entry->cg,backTo->cp,foldedSetIterable->cq,bindArgs->cC,wpAny_seqItems->cP,letOwnedTupleGo->cS,wpAny_Call_Name_kw->cU,wpAny_standAt->cV,codeAny->cW,assignEach->d4,mem_of_lookup->d7,Paired->d8,codeAny_mono->d9,keywordEach->dh,wpAny_setField_rec->dv,importedModules->dC,wpAny_passesOwn->dE,wpAny_comprehension_free->dJ,IsPair->dM,sysModules->dW,tupleKind_room_in1->eA,binaryOp->eC,behindInMarks->eI,attributeBase->eJ,wpAny_attempt->eK,wpAny_pyIter_list->eS,wpAny_newFunctionEnv_cells->eW,wpAny_setField->f7,standAt->fc,holding->fe,pyNext->fm,backToKw->ft,wpAny_newList->fD,wpAny_execs_nil->fF,Builtin->fH,wpAny_call->fK,wpAny_rule->fL,sliceBounds->fN,bootBuiltins->fR,NameKind->fU,codeAny_compStart_list->fX,assign->i8,getMethod->i9,wpAny_newFunctionEnv->ir,wpAny_updateSeq_pair->iA,Keyword->iJ,getItem->iK,swapsWith->iP,noteFrame->iQ,wpAny_newTuple->iW,firstArgMember->iY,IsZip->iZ,pyIter->lB,evalPart_none->lC,wpAny_getItem_list_slice->lE,wpAny_onRaise->lF,wpAny_eqBool_int->lJ,tupleKind->lK,wpAny_execs_cons->lL,callWith->lM,cellsFrom->lN,noFill_tuple_add->lP,wpAny_isInstance->lR,OsState->lU,builtinsNs->lW,wpAny_pyNext_list_item->lX,IsPart->lY,valueAt->me,call_meetsIn->mf,theTreesLotGoes->mn,codeAny_builtin->mq,field->mw,wpAny_isTrue_Compare1->mx,wpAny_pyIter_listiter->my,codeAny_call_function->mz,subscripted->mG,newFunctionEnv->mH,wpAny_letGo->mM,wpAny_of_eq->mP,ZipApart->mQ,isSubtype_stop->mT,leaving->nh,callerA->ni,seq_tuple_add->nB,evalPart_some->nE,eval_ListComp->nI,wpAny_pyIter_tuple->nR,Result->nW,closureFor->o9,slot_listiter_next->oo,Within->oA,wpAny_assign_Name->oB,BindsTo->oK,concat_meets->oM,wpAny_sequenceKey->oN,seqIndex_neg->oO,compEnvC->oR,codeAny_loop->oS,compTurn->oU,newList->oV,wpAny_pyIter_enum->oZ,wpAny_Call_method->ph,wpAny_pyIter_dict->pq,seqItems?->pK,wpAny_pyIter_zip->pN,checkBuiltinCall->pO,bindL->pW,bindC->pX,wpAny_Slice->pY,seqIndex_of->pZ,wpAny_noted->r9,atKey->rg,wpAny_specialOf->rA,wpAny_Name->rN,wpAny_loadPart->rP,typeLookup->rR,typeOf->rS,call_meets->rT,compPost->rX,checkCount->rZ,boundAndCalled->su,assignInOrder->sy,intBits_le_64->sA,call_list_seq->sG,plainId_quiet->sH,wpAny_handled->sJ,treeTable->sL,cellOf->sP,relabel->sQ,Params->tF,newExc->tG
open PySem.Around renaming frames_deeper->mF,under_plainId->mI,under->oI
open PySem.Builtin.List renaming listTooLong->fC
open PySem.Builtin.Slice renaming slicePlaces->bJ,sliceAdjust->ck,sliceApplied->dr,sliceFields->lg
open PySem.Builtin.SmallTypes renaming nextOf->bA,ownedTupleIsFree->cA,ownedTupleHandOut->fq
open PySem.Builtin.Tuple renaming tupleExact->bM,tupleItemsOf->iU
open PySem.Calls renaming evalArgs_plain->eX,spliced_cons->fJ,callWith_builtin->fW,Name_function_global->iR,call_function_entry->lh,spliced_nil->lr
open PySem.Code renaming isFrame->oJ
open PySem.Data renaming cell->mZ,fields->pV
open PySem.EntryCells renaming newEntry->nv
open PySem.Env renaming kindOf->rW
open PySem.F renaming excBase_ValueError->bh,slot_list_append->bN,type_list_append->bO,plainAttrs_list->bR,slot_tuple_iterator_next->du,args_tuple_add_2->fA,entry_tuple_add->fM,slot_tuple_add->fV,slot_dict_get->i6,args_tuple_iterator_next_1->iE,slot_zip_next->iF,entry_tuple_iterator_next->iM,slot_dict_delitem->lj,args_dict_get_3->lS,plainAttrs_dict->lT,entry_dict_get->mh,slot_dict_pop->mB,slot_list_lt->mJ,args_zip_next_1->pf,entry_zip_next->pM
open PySem.Fin renaming done->sf
open PySem.Heap renaming get?_push_of_some->aj,lt_size->aw,get?_push_size->aA,get?_update_other->bS,get?_update_ne->bX,size_push->cx,get?_push_ne->cM,get?_update_self->dw,size_update->dO,SameBut->dY,ExtBut->iz,MadeExcOf->mU
open PySem.Heap.IsSliceOf renaming new->iV
open PySem.Heap.SameBut renaming update->nu
open PySem.NameKind renaming free->ba,cell->il
open PySem.Obj renaming mapSeq->aY,data_mapFields->ef,mapFields->eM,isFreed_of_fields->eQ,cls_mapFields->pe
open PySem.Paired renaming length->aZ,snoc->cE
open PySem.PassesOwn renaming never->bC
open PySem.PyData renaming int->om
open PySem.SeqAt.EqAt renaming int_str->nO,str_int->nQ
open PySem.Str renaming ofString->ai
open PySem.Value renaming ref->aS,none->aT,isInt_shape->fQ,type->i7,int->iO,builtin->lH,str->lI,bool->lV,isStrOf_shape->nj,float->pU,isStrOf->sx
open PySem.W renaming Frag->ah,kitOne->aG,mg_of->aN,nsIn->aU,mg_none_of->bq,fnOf->bE,findIn->bG,keepIn->bK,kia_one->bT,exmOne->cc,emptyDict->cu,codeIn->cz,excIn->cI,boot_heap->cR,instObj->cZ,callWith_K->dm,cellsFrom_some->dZ,methodCall_KW->eO,plainGet->ff,hasDictIn->fT,plainGet_of->iG,lookIn->iT,methodObj->lp,plainOver->lq,takerIn->ml,makesIn->mm,boot_drawn->nK,namesBound->nN,codeRec_of->nX,isFn->oC,specialIn->oF,kitx_list->oG,kitx_dict->oH,staticsOk->pA,kmHook->pC,handedIn->pE,takesIn->rh,OpenLaw->rn,topStub->rE,kas_rev->rG,tabObj->rH,gensDone->rJ,laidKept->rK,InstAt->rO,funFrames_hide->sr,mroIn->sD,kas_tail3->sN,topRun->sO,openSeen->sS,openGood->sU,openEnds->sV,kas_sort->sY,kas_item->sZ,kat_snds->tj,kas_kind->tu
open PySem.W.Looks renaming of_pure->nJ,ld->tD
open PySem.W.OpenLaw renaming row->mE
open StateT renaming run_pure->mv
open Sum renaming inr->aM,inl->dU
open Sum.inl renaming inj->dG
open True renaming intro->cK
open PySem PySem.Spec PyProof.Rows
local macro_rules | `(∅)=>`(by omega)
local macro_rules | `(⋯)=>`(by decide)
set_option hygiene false
local macro_rules | `(↥0)=>`((λcdv A outer s H vs Q E hr h=>?_))
local macro_rules | `(↥1)=>`((by walk_at "w"))
local macro_rules | `(↥2)=>`((je c_law_take (hr.mono ⋯) rfl (j2 (pv 0) (j2 j6 j5))))
local macro_rules | `(↥3)=>`((jq "slopes" (V.ref acc) (jq "cycle" (V.ref cy) (jq "valley" (V.ref va) []))))
local macro_rules | `(↥4)=>`((by walk_at "z"))
local macro_rules | `(↥5)=>`((X.block scope cl H2.objs.size N s H fp))
local macro_rules | `(↥6)=>`((aC X.prog X.w))
local macro_rules | `(↥7)=>`((.dK [((.inr "reaches",.ref p):Key×V),(.inr "rows",.ref q),(.inr "single",.ref sg),(.inr "grounds",.ref gl)]))
local macro_rules | `(↥8)=>`((jj (jt K) (pv 1) j6 (λ_ _=>rfl)))
local macro_rules | `(↥9)=>`((by intro _ _ _ z;cases z))
local macro_rules | `(↥10)=>`((X.block scope cl C N s H ex))
local macro_rules | `(↥11)=>`((upd (upd Hb sg (.dK [])) sd (.dK (x9 [] [(.inr "reaches",.ref p),(.inr "rows",.ref q),(.inr "single",.ref sg)]))))
local macro_rules | `(↥12)=>`((λvs H Q E h=>?_))
local macro_rules | `(↥13)=>`(((h0.update a (aY λ_=>(#[]:Array ak))).push (bu "tuple" its.toArray 0)))
local macro_rules | `(↥14)=>`((xF elt tg iter tg2 iter2 ifs ifs2 scope pos))
local macro_rules | `(↥15)=>`(((s.heap.push (bu "list" #[] 0)).update s.heap.objs.size (aY (· ++ its.toArray))))
local macro_rules | `(↥16)=>`((jy (jE hr) (pv 0) jc (λ_ _=>rfl)))
local macro_rules | `(↥17)=>`((∀σ2 H2,NX σ2 H2->∃m',m'<m/\W (i+1) m' σ2 H2))
local macro_rules | `(↥18)=>`((g.slopes.length:Int))
local macro_rules | `(↥19)=>`((.ref s.heap.objs.size))
local macro_rules | `(↥20)=>`((upd (upd Hc ye (HO.dK [])) p (HO.ins C dx (jq "years" (V.ref ye) ↥3))))
local macro_rules | `(↥21)=>`((s.heap.objs.size+1))
local macro_rules | `(↥22)=>`((YI h'.objs.size (uy (X.env.qual ++ "<lambda>") params body scope ((X.mg "__name__").getD .none) c' ctv)))
local macro_rules | `(↥23)=>`((∀σ' H',N σ' H'->∃m',m'<m/\W (i+1) m' σ' H'))
local macro_rules | `(↥24)=>`((λ_ _ _ _ _=>jC))
local macro_rules | `(↥25)=>`((.ListComp elt [⟨tg,iter,ifs,0⟩] scope pos))
local macro_rules | `(↥26)=>`((je c_law_take (hr.mono ⋯) rfl (j2 (pv 0) (j2 (jj (jf K) (jD (j2 j6 (j2 j6 (j2 j6 j5)))) ↥2 (λ_ _=>rfl)) j5))))
local macro_rules | `(↥27)=>`((by walk_at "2"))
local macro_rules | `(↥28)=>`((bE x x (qh st) (jQ st) (ja st) .none kV doc pm an cdv ct))
local macro_rules | `(↥29)=>`((j2 (pv 0) j5))
local macro_rules | `(↥30)=>`((if _ then _ else _))
local macro_rules | `(↥31)=>`((upd H5 acc (.lst (ys++[v]))))
local macro_rules | `(↥32)=>`((HO.ins C dx (jq "cycle" (V.ref cy) (jq "valley" (V.ref va) []))))
local macro_rules | `(↥33)=>`((x == ("__debug__" : Str)))
local macro_rules | `(↥34)=>`((jj (jf K) (pv 0) j6 (λ_ _=>rfl)))
local macro_rules | `(↥35)=>`((by with_unfolding_all rfl))
local macro_rules | `(↥36)=>`((bu "list" its.toArray 0))
local macro_rules | `(↥37)=>`((dC PySem.Challenge.pw_firnfall_k10_whole_glaciers_side_by_side.main.body))
local macro_rules | `(↥38)=>`((jY I q (by simp)))
local macro_rules | `(↥39)=>`((jU (zf (pv 0) cl_Ice c_Ice__check_lane (hr.mono ⋯) xE (j2 (pv 1) j5))))
local macro_rules | `(↥40)=>`((upd (upd H Pt (.tbl #[c6 pos.line,c6 pos.col,.ref c'])) c' (Zd c' (X.env.qual ++ "<lambda>"))))
local macro_rules | `(↥41)=>`((.inr "reaches",.ref p))
local macro_rules | `(↥42)=>`((jy (jE hr) (pv 1) jc (λ_ _=>rfl)))
local macro_rules | `(↥43)=>`((by walk_at "1"))
local macro_rules | `(↥44)=>`((Addr×List (Key×V)))
local macro_rules | `(↥45)=>`((false,eval e X.env))
local macro_rules | `(↥46)=>`((jj (jf K) (jV K (pv 0)) (pv 1) (λ_ _=>rfl)))
local macro_rules | `(↥47)=>`((by intro z;cases z))
local macro_rules | `(↥48)=>`((wpAny_pure ⟨_,rfl,wpAny_pure h⟩))
local macro_rules | `(↥49)=>`((by decide +kernel))
local macro_rules | `(↥50)=>`(((ix.map λi=>ns.getD i 0).map V.int))
local macro_rules | `(↥51)=>`((List.getElem?_eq_some_iff.mp hy))
local macro_rules | `(↥52)=>`((wpAny_pure ?_))
local macro_rules | `(↥53)=>`((ix.map λi=>its.getD i aT))
local macro_rules | `(↥54)=>`(((.inl z.1,f z.2):Key×V))
local macro_rules | `(↥55)=>`((.builtin "object.__class__"))
local macro_rules | `(↥56)=>`((∀b o,s.heap.get? b=some o->h'.get? b=some o))
local macro_rules | `(↥57)=>`((.Slice none none (some (.UnaryOp .USub (.Constant (.int 1) j3 p3) p4)) p2))
local macro_rules | `(↥58)=>`((x6 c q2 g2 l2 as))
local macro_rules | `(↥59)=>`((c.ws.length:Int))
local macro_rules | `(↥60)=>`((λfin s'=>∃v,fin = .done (.ret v)/\Q v s'))
local macro_rules | `(↥61)=>`((.inr "single",.ref sg))
local macro_rules | `(↥62)=>`((aM (ai "reaches"):Key))
local macro_rules | `(↥63)=>`((.Call (.Attribute o m apos) (e::es) [] pos))
local macro_rules | `(↥64)=>`((.inr "rows",.ref q))
local macro_rules | `(↥65)=>`((∀b∈fp,H' b=none))
local macro_rules | `(↥66)=>`((iB qual scope s.heap.objs.size f cd))
local macro_rules | `(↥67)=>`((ha pos pins s σ H _ I h))
local macro_rules | `(↥68)=>`(((items.toList.drop (sIx items.size 0 lo)).take (sIx items.size items.size hi-sIx items.size 0 lo)))
local macro_rules | `(↥69)=>`((he pins s σ H _ I h))
local macro_rules | `(↥70)=>`((aX h₂ (λ_ s₃ h₃=>aa (aX h₃ (λok s₄ h₄=>?_) λ_ _ h'=>h'.elim)) λ_ _ h'=>h'.elim))
local macro_rules | `(↥71)=>`((j2 (pv 1) j5))
local macro_rules | `(↥72)=>`((mE PySem.Challenge.rw_firnfall_k10_whole_glaciers_side_by_side))
local macro_rules | `(↥73)=>`((EP X pins σ Q))
local macro_rules | `(↥74)=>`((c.lds.getD l.toNat (0,[])))
local macro_rules | `(↥75)=>`((.Call (.Name x p) (e::es) [] pos))
local macro_rules | `(↥76)=>`((thn (hi pins s σ H _ I h) λv s1 h1=>thn h1 λitv s2 h2=>?_))
local macro_rules | `(↥77)=>`((cp pos (aJ es X.env)))
local macro_rules | `(↥78)=>`((ha pins s σ H _ I h))
local macro_rules | `(↥79)=>`((c.lds.map (·.2)))
local macro_rules | `(↥80)=>`((X.env.qual ++ "<lambda>"))
local macro_rules | `(↥81)=>`((λr s'=>r = .ok (.ret (.bool true))/\OldK s₁.heap s'.heap/\s'.os=s₁.os/\ij s'.gens))
local macro_rules | `(↥82)=>`((I8.pin (b,o) (aD _ (aD _ (qE hb e)))))
local macro_rules | `(↥83)=>`((.ins C g1.dx (xM g1.va g1.cy g1.sl d g1.le)))
local macro_rules | `(↥84)=>`((∃m,W 0 m σ H))
local macro_rules | `(↥85)=>`((s.heap.push { cls:=.type "range",data:=.fields #[.int lo t,.int hi u,.int 1 v] }))
local macro_rules | `(↥86)=>`((A.under (.builtin "type.__call__" ⟨.ref C::us,kw⟩)))
local macro_rules | `(↥87)=>`((by show ↥30=_;rw [if_pos hl];exact if_neg (λz=>())))
local macro_rules | `(↥88)=>`((λn s'=>∃i σ' H',Inv ↥5 [] σ' H' s'/\tn i s'.heap/\ ↥65/\W i n σ' H'))
local macro_rules | `(↥89)=>`((j2 (pv 2) j5))
set_option hygiene true
section
namespace HO
open PySem PySem.W PyProof.Rows PySem.Calls PySem.Spec
def view:Program:={ PySem.Challenge.pw_firnfall_k10_whole_glaciers_side_by_side with main:={ PySem.Challenge.pw_firnfall_k10_whole_glaciers_side_by_side.main with body:=(PySem.Challenge.pw_firnfall_k10_whole_glaciers_side_by_side.main.body).drop 75 } }
def loose:List Str:=[ai "FirnError",ai "BadValley",ai "BadRound",ai "BadWeather",ai "BadYear",ai "BadSurge",ai "BadRock",ai "BadName",ai "BadHand",ai "BadDeed",ai "NoLane",ai "NoPlace",ai "NoName",ai "NotTold",ai "NothingThere",ai "Taken",ai "Full",ai "BadPage",ai "MOST_REACHES",ai "MOST_HEIGHTS",ai "GREATEST_HEIGHT",ai "MOST_LANES",ai "LONGEST_LANE",ai "is_valley",ai "is_reach",ai "leads_on",ai "fits",ai "lanes",ai "way_down",ai "way_of",ai "count_places",ai "heights",ai "HIGHEST_LINE",ai "MOST_HANDS",ai "MOST_ROWS",ai "is_weather",ai "is_round",ai "LAST_TOLD",ai "LAST_ASKED",ai "GREATEST_SURGE",ai "check_told",ai "check_asked",ai "check_round",ai "Ice",ai "_law_box",ai "_law_mixed",ai "_law_take",ai "_law_whole",ai "_law_alike",ai "_law_odd",ai "_law_weather",ai "_law_round",ai "_law_ground_drawn",ai "_law_reaches",ai "_law_roads",ai "_law_ground",ai "_law_year",ai "_law_scene",ai "_law_made",ai "_law_row",ai "_law_bent_row",ai "_law_good_row",ai "_law_kinds",ai "_law_ice_deed",ai "_law_ice_due",ai "_law_scene_copy",ai "_law_ice_step",ai "_law_ice_do",ai "_law_ice_stands",ai "_law_ice_turn"]
section
local macro_rules | `(tactic| o_head $H)=>`(tactic| (have hook:=$H;assumption))
theorem frag (hyp: (↥72).Holds): (↥72).Holds:=by
 k_head
end
def asL:List Addr:=[2,3,15,22,23,24,25,28,35,36,37,40,47,48,49,52,59,60,61,64,71,72,73,76,83,84,85,88,95,96,97,100,107,108,109,112,119,120,121,124,131,132,133,136,143,144,145,148,155,156,157,160,167,168,169,172,179,180,181,184,191,192,193,196,203,204,205,208,215,216,217,220,227,229,230,232,233,234,235,236,239,242,243,244,247,248,249,251,252,254,255,256,259,260,261,264,265,266,268,269,271,272,273,275,276,278,279,280,283,284,285,288,289,290,292,293,295,296,297,300,301,302,304,305,307,308,309,311,312,314,315,316,318,319,321,322,330,333,334,335,337,338,340,341,342,344,345,347,348,349,351,352,354,355,356,358,359,361,362,363,365,366,368,369,370,372,373,375,376,377,379,380,382,383,384,386,387,389,390,391,393,394,396,397,398,400,401,403,404,405,407,408,410,411,412,414,415,417,418,419,422,423,424,427,428,429,431,432,434,435,436,438,439,441,442,443,446,447,448,449,450,451,452,455,457,458,460,461,462,464,465,467,468,469,471,472,474,475,476,478,479,481,482,483,486,487,488,490,491,493,494,495,497,498,500,501,502,505,506,507,510,511,512,515,516,517,520,521,522,524,525,527,528,529,531,532,534,535,536,539,540,541,543,544,546,547,548,550,551,553,554,555,557,558,560,561,562,564,565,567,568,569,572,573,574,577,578,579,582,583,584,587,588,589,591,592,594,595,596,598,599,601,602,603,606,607,608,610,611,613,614,615,618,619]
theorem asE (P:tF):asL=(frag.heap_1 P).map (·.1):=by kernel_rfl
def Eb:List Obj->Nat->BT->BT
 | [],_,t=>t
 | o::r,n,t=>Eb r (n+1) (t.ins n o)
noncomputable def s0T (w:bp) (os:lU):SharedT:=⟨Eb (cR w.params).objs.toList 0 .nil,(cR w.params).objs.size,(cR w.params).life,oz [],nK,boot_toks,os⟩
noncomputable def topT (w:bp) (os:lU):Option (Flow×SharedT×Code×Pos):=PySem.W.Fast.tw10110043849684766642 PySem.W.Fast.tw14364793385576792824 PySem.Challenge.pw_firnfall_k10_whole_glaciers_side_by_side w (cR w.params).objs.size ((cR w.params).nsMap mainGlobals "__annotations__") 0 12000 (s0T w os) (rE PySem.Challenge.pw_firnfall_k10_whole_glaciers_side_by_side)
noncomputable def top (w:bp) (os:lU):Option Shared:=(topT w os).map λr=>r.2.1.abs
def xt (s:Shared):Bool:=xlAt view [] s && recOk (RowW.records (OpenRow.toRowW ↥72)) s
theorem ran2 (w:bp) (os:lU):(top w os).map (λs=>(asL.map s.heap.get?,[262].map s.heap.get?))=some ((frag.heap_1 w.params).map λp=>some p.2,[262].map λ_=>some (rH #[])):=by kernel_rfl
theorem ws:OpenLaw.wellSaid PySem.Challenge.rw_firnfall_k10_whole_glaciers_side_by_side=true:=by kernel_rfl
theorem ran1 (w:bp) (os:lU):(top w os).map (λs=>sS view loose ↥37 xt true s)=some (sU view loose):=by kernel_rfl
theorem ran0 (w:bp) (os:lU):(top w os).map (λs=>pA ↥37 (cR w.params) s.heap && nN PySem.Challenge.pw_firnfall_k10_whole_glaciers_side_by_side s.heap && rJ s && rK (cR w.params) s.heap)=some true:=by kernel_rfl
theorem Gn (w:bp) (os:lU):(s0T w os).abs=⟨cR w.params,oz [],nK,boot_toks,os⟩:=by kernel_rfl
theorem Xx {m:Nat}:∀{n:Nat}{s s':Shared}{t:Thread}{f:Flow}{c:Code}{q:Pos},segRun tb p w m ann 0 n s t=some (f,s',c,q)->sO tb p w m ann n s t=some s'
 | 0,_,_,_,_,_,_,h=>by cases h
 | n+1,s,s',t,f,c,q,h=>by
  unfold segRun at h
  unfold sO
  cases he:endAt 0 t with
  | some x =>
   rw [he] at h
   have ht:through t=true:=by
    obtain ⟨cur,code,pos,st⟩:=t
    cases st with
    | cons a b=>cases he
    | nil =>
     unfold endAt at he
     unfold through
     split at he
     ·rename_i _ _ _ _ hc
      have hc':cur=_:=hc
      subst hc'
      rfl
     ·cases he
   rw [ht]
   cases h
   rfl
  | none =>
   rw [he] at h
   have ht:through t=false:=by
    obtain ⟨cur,code,pos,st⟩:=t
    cases st with
    | cons a b=>rfl
    | nil =>
     cases cur <;> first | rfl | (rename_i x;cases x <;> first | rfl | cases he)
   rw [ht]
   cases hk:stepOk m ann t with
   | false=>rw [hk] at h;cases h
   | true =>
    rw [hk] at h
    cases hs:step (denote tb) p w s t with
    | halt o s2=>rw [hs] at h;cases h
    | go s2 t2=>rw [hs] at h;exact Xx h
theorem VF {os:lU}(e:top w os=some s):sO sL PySem.Challenge.pw_firnfall_k10_whole_glaciers_side_by_side w (cR w.params).objs.size ((cR w.params).nsMap mainGlobals "__annotations__") 12000 ⟨cR w.params,oz [],nK,boot_toks,os⟩ (rE PySem.Challenge.pw_firnfall_k10_whole_glaciers_side_by_side)=some s:=by
 obtain ⟨⟨f,sT,c,q⟩,h,rfl⟩:=Option.map_eq_some_iff.mp e
 have h2:segRunT sL PySem.Challenge.pw_firnfall_k10_whole_glaciers_side_by_side w (cR w.params).objs.size ((cR w.params).nsMap mainGlobals "__annotations__") 0 12000 (s0T w os) (rE PySem.Challenge.pw_firnfall_k10_whole_glaciers_side_by_side)=some (f,sT,c,q):=by
  rw [PySem.W.Fast.te10110043849684766642,PySem.W.Fast.te14364793385576792824]
  exact h
 have h3:=Xx (segRun_of h2)
 rw [Gn] at h3
 exact h3
theorem WZ (w:bp):((cR w.params).isNs mainGlobals && (oz []:Array GenState).size == 0)=true:=by kernel_rfl
theorem JY {N:Nat}{h:Heap}{gs d k os}(hb:(h.isNs mainGlobals && gs.size == 0)=true) (hr:sO tb p w h.objs.size (h.nsMap mainGlobals "__annotations__") N ⟨h,gs,d,k,os⟩ (rE p)=some s) (hl:(pA (dC p.main.body) h s.heap && nN p s.heap && rJ s && rK h s.heap)=true):topFrom tb p w N ⟨h,gs,d,k,os⟩=some s:=by
 unfold topFrom
 rw [hb]
 show ((sO tb p w h.objs.size (h.nsMap mainGlobals "__annotations__") N ⟨h,gs,d,k,os⟩ (rE p)).bind _)=_
 rw [hr]
 show (match pA (dC p.main.body) h s.heap && nN p s.heap && rJ s && rK h s.heap with | true=>some s | false=>none)=_
 rw [hl]
theorem V8 {N:Nat}(a:fencedOpening tb p w N=some s₀) (t:topFrom tb p w N s₀=some s):sV tb p w N=some s:=by
 unfold sV
 rw [a]
 exact t
theorem left:LeftO (↥72).prog view loose xt (Hook.obs (pC frag.heap_1 asL asE [262])) (Hook.val (pC frag.heap_1 asL asE [262])) 12000:=λw=>by
 obtain ⟨⟨h,gs,d,k,os⟩,a,b⟩:=Option.map_eq_some_iff.mp (boot_open (p:=PySem.Challenge.pw_firnfall_k10_whole_glaciers_side_by_side) (N:=12000) (by kernel_rfl) ⋯ (λs=>by kernel_rfl) w)
 obtain ⟨rfl,rfl,rfl,rfl⟩:h=cR w.params/\gs=oz []/\d=nK/\k=boot_toks:=by simpa using b
 have h0:=ran0 w os
 have h1:=ran1 w os
 have h2:=ran2 w os
 cases e:top w os with
 | none=>rw [e] at h1;cases h1
 | some s =>
  rw [e] at h0 h1 h2
  have l1:(pA ↥37 (cR w.params) s.heap && nN PySem.Challenge.pw_firnfall_k10_whole_glaciers_side_by_side s.heap && rJ s && rK (cR w.params) s.heap)=true:=aI h0
  have l2:sS view loose ↥37 xt true s=sU view loose:=aI h1
  obtain ⟨m1,m2⟩:=Prod.mk.inj (aI h2)
  have m5:asL.map s.heap.get? = (frag.heap_1 w.params).map λp=>some p.2:=m1
  have t:=V8 a (JY (WZ w) (VF e) l1)
  show (sV sL PySem.Challenge.pw_firnfall_k10_whole_glaciers_side_by_side w 12000).map _=_
  rw [t]
  show some (sS view loose ↥37 xt true s,(asL.map s.heap.get?,[262].map s.heap.get?))=some (sU view loose,_)
  rw [l2,m5,m2]
  rfl
end HO
end
noncomputable section
namespace L2
noncomputable abbrev Key:=Sum Int Str
noncomputable def Jv:Key->ak->Bool
 | .inl k,v=>Value.isInt k v
 | .inr x,v=>sx x v
noncomputable def keyH (w:bp):Key->Int
 | .inl k=>hashInt k
 | .inr x=>hashStr w x
theorem qB:∀{k:Key}{v:ak},Jv k v=true->(∃i t,k=dU i/\v=iO i t)\/(∃x t,k=aM x/\v=lI x t)
 | .inl i,v,h=>by
  obtain ⟨t,e⟩:=fQ (k:=i) (v:=v) h
  exact .inl ⟨i,t,rfl,e⟩
 | .inr x,v,h=>by
  obtain ⟨t,e⟩:=nj (x:=x) (v:=v) h
  exact .inr ⟨x,t,rfl,e⟩
theorem YQ (i:Int) (t:Tok):Jv (.inl i) (.int i t)=true:=by simp [Jv,Value.isInt]
theorem YD (x:Str) (t:Tok):Jv (.inr x) (.str x t)=true:=by simp [Jv,sx]
theorem WS (a b:Int):decide ((dU a:Key)=dU b)=(a == b):=by
 by_cases e:a=b
 ·subst e;simp
 ·have h:¬(dU a:Key)=dU b:=λq=>e (dG q)
  rw [decide_eq_false h]
  exact (beq_eq_false_iff_ne.mpr e).symm
theorem Ws (a b:Str):decide ((aM a:Key)=aM b)=decide (a=b):=by
 by_cases e:a=b
 ·subst e;simp
 ·have h:¬(aM a:Key)=aM b:=λq=>e (Sum.inr.inj q)
  rw [decide_eq_false h,decide_eq_false e]
theorem Wj (a:Int) (b:Str):decide ((dU a:Key)=aM b)=false:=decide_eq_false (λq=>nomatch q)
theorem Wp (a:Str) (b:Int):decide ((aM a:Key)=dU b)=false:=decide_eq_false (λq=>nomatch q)
noncomputable def jS (prog:Program) (w:bp):PySem.KeyKind prog w Key where
 is:=Jv
 hash:=keyH w
 inj:=λv a b ha hb=>by
  rcases qB ha with ⟨i,t,rfl,rfl⟩ | ⟨x,t,rfl,rfl⟩
  ·rcases qB hb with ⟨j,u,rfl,e⟩ | ⟨y,u,rfl,e⟩
   ·injection e with e1 _;rw [e1]
   ·exact nomatch e
  ·rcases qB hb with ⟨j,u,rfl,e⟩ | ⟨y,u,rfl,e⟩
   ·exact nomatch e
   ·injection e with e1 _;rw [e1]
 byValue:=λk v h=>by
  rcases qB h with ⟨i,t,rfl,rfl⟩ | ⟨x,t,rfl,rfl⟩ <;> rfl
 pyHash:=λhv h=>by
  rcases qB hv with ⟨i,t,rfl,rfl⟩ | ⟨x,t,rfl,rfl⟩
  ·exact wpAny_pyHash_int h
  ·exact wpAny_pyHash_str h
 eqBool:=λhu hv h=>by
  rcases qB hu with ⟨i,t,rfl,rfl⟩ | ⟨x,t,rfl,rfl⟩
  ·rcases qB hv with ⟨j,u,rfl,rfl⟩ | ⟨y,u,rfl,rfl⟩
   ·rw [WS] at h;exact lJ h
   ·rw [Wj] at h;exact nO i t y u _ _ _ _ h
  ·rcases qB hv with ⟨j,u,rfl,rfl⟩ | ⟨y,u,rfl,rfl⟩
   ·rw [Wp] at h;exact nQ x t j u _ _ _ _ h
   ·rw [Ws] at h;exact wpAny_eqBool_str h
 «strs»:=λk x t v h=>by
  rcases qB h with ⟨i,u,rfl,e⟩ | ⟨y,u,rfl,e⟩
  ·exact nomatch e
  ·injection e with e1 _
   subst e1
   cases v <;> rfl
theorem QZ (prog:Program) (w:bp) (i:Int) (t:Tok):(jS prog w).is (.inl i) (.int i t)=true:=YQ i t
theorem QK (prog:Program) (w:bp) (x:Str) (t:Tok):(jS prog w).is (.inr x) (.str x t)=true:=YD x t
end L2
namespace L2
inductive V where
 | non | bl (b:Bool) | int (i:Int) | str (x:Str) | byt (b:Array UInt8) | flt (b:UInt64) | ref (a:Addr) | ty (n:String)
 deriving DecidableEq
noncomputable def jK:V->ak->Prop
 | .non,u=>u=aT
 | .bl b,u=>u=lV b
 | .int i,u=>∃t,u=iO i t
 | .str x,u=>∃t,u=lI x t
 | .byt b,u=>∃t,u=Value.bytes b t
 | .flt b,u=>∃t,u=pU b t
 | .ref a,u=>u=aS a
 | .ty n,u=>u=i7 n
noncomputable abbrev jJ:List V->List ak->Prop:=d8 jK
theorem jJ.length {xs:List V}(r:jJ xs us):xs.length=us.length:=aZ r
theorem jJ.get:∀{xs:List V}{us:List ak}{i:Nat}{x:V},jJ xs us->xs[i]? = some x->∃u,us[i]? = some u/\jK x u
 | _,_,_,_,.nil,e=>by simp at e
 | _,_,0,_,.cons r _,e=>by simp at e;subst e;exact ⟨_,rfl,r⟩
 | _,_,i+1,x,.cons _ t,e=>by
  obtain ⟨u,h1,h2⟩:=jJ.get (i:=i) (x:=x) t (by simpa using e)
  exact ⟨u,by simpa using h1,h2⟩
theorem jJ.set {x:V}(r:jK x u):∀{xs:List V}{us:List ak}(i:Nat),jJ xs us->jJ (xs.set i x) (us.set i u)
 | _,_,_,.nil=>.nil
 | _,_,0,.cons _ t=>.cons r t
 | _,_,i+1,.cons q t=>.cons q (jJ.set r i t)
theorem jJ.append:∀{xs ys:List V}{us ws:List ak},jJ xs us->jJ ys ws->jJ (xs++ys) (us++ws)
 | _,_,_,_,.nil,s=>s
 | _,_,_,_,.cons r t,s=>.cons r (jJ.append t s)
theorem jJ.take:∀{xs:List V}{us:List ak}(n:Nat),jJ xs us->jJ (xs.take n) (us.take n)
 | _,_,0,_=>.nil
 | _,_,_+1,.nil=>.nil
 | _,_,n+1,.cons r t=>.cons r (jJ.take n t)
theorem jJ.drop:∀{xs:List V}{us:List ak}(n:Nat),jJ xs us->jJ (xs.drop n) (us.drop n)
 | _,_,0,r=>r
 | _,_,_+1,.nil=>.nil
 | _,_,n+1,.cons _ t=>jJ.drop n t
noncomputable def yz:Option V->Option ak->Prop
 | some v,some u=>jK v u
 | none,none=>True
 | _,_=>False
noncomputable def KV {κ:Type}:List (κ×V)->List (κ×ak)->Prop:=d8 λ(p:κ×V) (q:κ×ak)=>p.1=q.1/\jK p.2 q.2
noncomputable def kV:Key->V
 | .inl i=>.int i
 | .inr x=>.str x
inductive HO where
  | lst (xs:List V)
  | tup (xs:List V)
  | dK (kvs:List (Key×V)) | dT (kvs:List (List Key×V))
  | set (S:Int->Bool) (n:Nat)
  | ins (C dx:Addr) (fs:List (Str×V))
  | own (x:Addr)
  | xd (fs:List (Str×V))
  | met (f x:Addr)
  | rng (lo hi:Int)
  | frz (o:Obj) (u:HO)
  | tbl (ps:Array ak)
  | ext (φ:Heap->Prop)
noncomputable abbrev Hp:=Addr->Option HO
noncomputable def upd (H:Hp) (a:Addr) (o:HO):Hp:=λb=>if b=a then some o else H b
theorem j7 :upd H a o a=some o:=by unfold upd;rw [if_pos rfl]
theorem j9 {a b:Addr}(h:b≠a):upd H a o b=H b:=by unfold upd;rw [if_neg h]
theorem jg {H:Hp}(h:H a=some o) (h':H b=some u) (d:o≠u):a≠b:=by
 intro e;subst e;rw [h] at h';exact d (aI h')
theorem j4 {H:Hp}(h:H a=some o) (h':H b=none):a≠b:=by
 intro e;subst e;rw [h] at h';cases h'
section
variable (P:Program) (w:bp)
noncomputable def qv (H:Hp) (h:Heap) (a:Addr):HO->Prop
 | .lst xs=>xs.length<=sizeLine/\∃(its:List ak) (n:Nat),jJ xs its/\h.get? a=some { cls:=.type "list",data:=.seq its.toArray n }
 | .tup xs=>xs.length<=sizeLine/\∃its:List ak,jJ xs its/\rM h a its.toArray
 | .dK kvs=>kvs.length<=sizeLine/\(a == dW)=false/\∃vs,KV kvs vs/\h.DictOf (jS P w) a vs
 | .dT kvs=>kvs.length<=sizeLine/\(a == dW)=false/\∃xs:List (List Key×Addr×ak),
   d8 (λ(p:List Key×V) (q:List Key×Addr×ak)=>p.1=q.1/\H q.2.1=some (.tup (p.1.map kV))/\jK p.2 q.2.2) kvs xs /\
   ∃o es ep,h.get? a=some o/\o.ExactDict/\o.data = .dict es ep/\es.toList=xs.map (entryOfKey (lK (jS P w)))/\(xs.map (·.1)).Nodup
 | .set S n=>h.SetOf (intKind P w) a S n
 | .ins C dx fs=>H dx=some (.own a)/\fs.length<=1000/\dx≠a/\h.get? a=some (cZ C dx) /\
   ∃mA,h.Ns1 dx mA/\(∀f,yz (fs.lookup f) (mA f))/\oA mA (fs.map (·.1))
 | .own _=>∃o,h.get? a=some o
 | .xd fs=>∃mA,h.Ns1 a mA/\∀f,yz (fs.lookup f) (mA f)
 | .rng lo hi=>∃t u v,h.get? a=some { cls:=.type "range",data:=.fields #[.int lo t,.int hi u,.int 1 v] }
 | .frz o u=>h.get? a=some o/\qv H h a u
 | .tbl ps=>h.get? a=some { cls:=.none,data:=.fields ps }
 | .met f x=>h.get? a=some (lp (.ref f) (.ref x))
 | .ext φ=>φ h/\(∃o,h.get? a=some o)/\∀h1 h2:Heap,φ h1->(∀o,h1.get? a=some o->h2.get? a=some o)->φ h2
noncomputable def HOk (H:Hp) (h:Heap):Prop:=∀a o,H a=some o->qv P w H h a o
end
section
variable {P:Program}{w:bp}{H H':Hp}{h h':Heap}{a:Addr}{o:HO}
theorem qv.lt (x:qv P w H h a o):a<h.objs.size:=by
 cases o with
 | lst xs=>obtain ⟨_,_,_,_,e⟩:=x;exact aw e
 | tup xs=>obtain ⟨_,_,_,p⟩:=x;exact p.lt
 | dK kvs=>obtain ⟨_,_,_,_,o,_,_,e,_⟩:=x;exact aw e
 | dT kvs=>obtain ⟨_,_,_,_,o,_,_,e,_⟩:=x;exact aw e
 | set S n=>obtain ⟨o,_,_,_,e,_⟩:=x;exact aw e
 | ins C dx fs=>obtain ⟨_,_,_,e,_⟩:=x;exact aw e
 | own y=>obtain ⟨_,e⟩:=x;exact aw e
 | xd fs=>obtain ⟨_,⟨_,_,_,e,_⟩,_⟩:=x;exact aw e
 | rng lo hi=>obtain ⟨_,_,_,e⟩:=x;exact aw e
 | frz ob u=>obtain ⟨e,_⟩:=x;exact aw e
 | tbl ps=>exact aw (show h.get? a=some _ from x)
 | met f y=>exact aw (show h.get? a=some _ from x)
 | ext φ=>obtain ⟨_,⟨_,e⟩,_⟩:=x;exact aw e
theorem Paired.mapP {α β:Type}{F G:α->β->Prop}:∀{l₁:List α}{l₂:List β},d8 F l₁ l₂->(∀a b,F a b->G a b)->d8 G l₁ l₂
 | _,_,.nil,_=>.nil
 | _,_,.cons r t,f=>.cons (f _ _ r) (Paired.mapP t f)
theorem qv.stay (x:qv P w H h a o) (k:∀b u,(b=a\/H b=some (.own a))->h.get? b=some u->h'.get? b=some u)
  (ho:∀b,H b=some (.own a)->H' b=some (.own a)) (ht:∀b xs,H b=some (.tup xs)->H' b=some (.tup xs)):qv P w H' h' a o:=by
 induction o with
 | lst xs=>obtain ⟨z,its,n,r,e⟩:=x;exact ⟨z,its,n,r,k _ _ (.inl rfl) e⟩
 | tup xs=>obtain ⟨z,its,r,ob,e,c⟩:=x;exact ⟨z,its,r,ob,k _ _ (.inl rfl) e,c⟩
 | dK kvs=>obtain ⟨z,y,vs,r,ob,es,ep,e,c⟩:=x;exact ⟨z,y,vs,r,ob,es,ep,k _ _ (.inl rfl) e,c⟩
 | dT kvs =>
  obtain ⟨z,y,xs,r,ob,es,ep,e,c⟩:=x
  exact ⟨z,y,xs,Paired.mapP r λp q z=>⟨z.1,ht _ _ z.2.1,z.2.2⟩,ob,es,ep,k _ _ (.inl rfl) e,c⟩
 | set S n=>obtain ⟨ob,es,ep,t,e,c⟩:=x;exact ⟨ob,es,ep,t,k _ _ (.inl rfl) e,c⟩
 | ins C dx fs =>
  obtain ⟨d,z,ne,e,mA,⟨od,es,ep,e2,c⟩,r⟩:=x
  exact ⟨ho _ d,z,ne,k _ _ (.inl rfl) e,mA,⟨od,es,ep,k _ _ (.inr d) e2,c⟩,r⟩
 | own y=>obtain ⟨ob,e⟩:=x;exact ⟨ob,k _ _ (.inl rfl) e⟩
 | xd fs=>obtain ⟨mA,⟨od,es,ep,e,c⟩,r⟩:=x;exact ⟨mA,⟨od,es,ep,k _ _ (.inl rfl) e,c⟩,r⟩
 | rng lo hi=>obtain ⟨t,u,v,e⟩:=x;exact ⟨t,u,v,k _ _ (.inl rfl) e⟩
 | frz ob u ih=>obtain ⟨e,q⟩:=x;exact ⟨k _ _ (.inl rfl) e,ih q⟩
 | tbl ps =>
  have e:h.get? a=some { cls:=.none,data:=.fields ps }:=x
  show h'.get? a=some { cls:=.none,data:=.fields ps }
  exact k a _ (.inl rfl) e
 | met f y =>
  have e:h.get? a=some (lp (.ref f) (.ref y)):=x
  show h'.get? a=some (lp (.ref f) (.ref y))
  exact k a _ (.inl rfl) e
 | ext φ=>obtain ⟨p,⟨o,e⟩,st⟩:=x;exact ⟨st _ _ p λo q=>k _ _ (.inl rfl) q,⟨o,k _ _ (.inl rfl) e⟩,st⟩
theorem HOk.lt (x:HOk P w H h) (e:H a=some o):a<h.objs.size:=(x a o e).lt
theorem HOk.fresh (x:HOk P w H h) (e:h.objs.size<=a):H a=none:=by
 cases q:H a with
 | none=>rfl
 | some u=>exact absurd (aK (x.lt q) e) (cw _)
theorem HOk.kept (x:HOk P w H h) (k:∀b u,h.get? b=some u->h'.get? b=some u):HOk P w H h':=λa o e =>
 (x a o e).stay (λb u _ q=>k b u q) (λ_ q=>q) λ_ _ q=>q
theorem HOk.laid (x:HOk P w H h) (k:∀b u,h.get? b=some u->h'.get? b=some u) (hp:h.objs.size<=a) (new:qv P w (upd H a o) h' a o):HOk P w (upd H a o) h':=λb u e=>by
 have hn:=x.fresh hp
 by_cases hb:b=a
 ·subst hb;rw [j7] at e;cases e;exact new
 ·rw [j9 hb] at e
  exact (x b u e).stay (λc v _ q=>k c v q) (λc q=>by rw [j9 (j4 q hn)];exact q) λc xs q=>by rw [j9 (j4 q hn)];exact q
end
noncomputable def Rd (H:Hp) (a:Addr) (u:HO):Prop:=H a=some u\/∃o,H a=some (.frz o u)
theorem Rd.ok {P:Program}{w:bp}(r:Rd H a u) (x:HOk P w H h):qv P w H h a u:=by
 rcases r with r | ⟨o,r⟩
 ·exact x a u r
 ·obtain ⟨_,q⟩:=x a _ r
  exact q
noncomputable def Mut:Option HO->Prop
 | some (.lst _)=>True
 | some (.dK _)=>True
 | some (.dT _)=>True
 | some (.set _ _)=>True
 | some (.ins _ _ _)=>True
 | some (.ext _)=>True
 | _=>False
section
variable {P:Program}{w:bp}{H:Hp}{h h':Heap}{x e:Addr}{o':HO}
theorem HOk.write (ok:HOk P w H h) (mu:Mut (H x)) (he:e=x\/H e=some (.own x)) (k:∀b u,b≠e->h.get? b=some u->h'.get? b=some u) (heo:∃u,h'.get? e=some u)
  (new:qv P w (upd H x o') h' x o'):HOk P w (upd H x o') h':=λb u q=>by
 have nown:∀c y,H c=some (.own y)->c≠x:=λc y r z=>by subst z;rw [r] at mu;exact mu
 have ntup:∀c xs,H c=some (.tup xs)->c≠x:=λc xs r z=>by subst z;rw [r] at mu;exact mu
 by_cases hb:b=x
 ·subst hb;rw [j7] at q;cases q;exact new
 ·rw [j9 hb] at q
  by_cases hbe:b=e
  ·have q':H b=some (.own x):=by
    rcases he with z | z
    ·exact absurd (hbe.trans z) hb
    ·rw [hbe];exact z
   rw [q] at q';cases q'
   obtain ⟨v,hv⟩:=heo
   exact ⟨v,by rw [hbe];exact hv⟩
  ·refine (ok b u q).stay (λc v hc r=>k c v ?_ r) (λc r=>by rw [j9 (nown c b r)];exact r) λc xs r=>by rw [j9 (ntup c xs r)];exact r
   rcases hc with rfl | hc
   ·exact hbe
   ·rintro rfl
    rcases he with z | z
    ·exact nown c b hc z
    ·rw [hc] at z;cases z;exact hb rfl
end
structure Un (fs ex:List Addr) (H H':Hp) (h h':Heap):Prop where
 keep:∀b o,h.get? b=some o->H b=none->b∉fs->b∉ex->h'.get? b=some o
 slot:∀b o,h.get? b=some o->H b=none->b∈fs->b∉ex->∃sl,h'.get? b=some { o with slots:=sl }
 free:∀b o,h.get? b=some o->H b=none->b∉ex->H' b=none
 there:∀b o,h.get? b=some o->b∉ex->∃o',h'.get? b=some o'
 tups:∀b xs,H b=some (.tup xs)->H' b=some (.tup xs)
 frzs:∀b o u,H b=some (.frz o u)->H' b=some (.frz o u)
 tbls:∀b ps,H b=some (.tbl ps)->∃more,H' b=some (.tbl (ps++more))
section
variable {fs fs' ex ex':List Addr}{H H1 H2:Hp}{h h1 h2 h':Heap}{a x e:Addr}{o:HO}
theorem Un.any (u:Un fs ex H H1 h h1) {b:Addr}{ob:Obj}(q:h.get? b=some ob) (n:H b=none) (hx:b∉ex):∃sl,h1.get? b=some { ob with slots:=sl }:=by
 by_cases hb:b∈fs
 ·exact u.slot b ob q n hb hx
 ·exact ⟨ob.slots,u.keep b ob q n hb hx⟩
theorem Un.kept (k:∀b u,h.get? b=some u->h'.get? b=some u):Un fs ex H H h h' :=
 ⟨λb ob q _ _ _=>k b ob q,λb ob q _ _ _=>⟨ob.slots,k b ob q⟩,λ_ _ _ n _=>n,λb ob q _=>⟨ob,k b ob q⟩,λ_ _ q=>q,λ_ _ _ q=>q,λ_ ps q=>⟨#[],by rw [q];simp⟩⟩
theorem Un.refl:Un fs ex H H h h:=Un.kept λ_ _ q=>q
theorem Un.laid (k:∀b u,h.get? b=some u->h'.get? b=some u) (hp:h.objs.size<=a) (hn:H a=none):Un fs ex H (upd H a o) h h' where
 keep:=λb u q _ _ _=>k b u q
 slot:=λb u q _ _ _=>⟨u.slots,k b u q⟩
 free:=λb u q n _=>by rw [j9 (aB (aK (aw q) hp))];exact n
 there:=λb u q _=>⟨u,k b u q⟩
 tups:=λb xs q=>by rw [j9 (j4 q hn)];exact q
 frzs:=λb u xs q=>by rw [j9 (j4 q hn)];exact q
 tbls:=λb ps q=>⟨#[],by rw [j9 (j4 q hn),q];simp⟩
theorem Un.write (mu:Mut (H x)) (he:e=x\/H e=some (.own x)) (k:∀b u,b≠e->h.get? b=some u->h'.get? b=some u) (heo:∃u,h'.get? e=some u):Un fs ex H (upd H x o) h h':=by
 have hx:∀b,H b=none->b≠x:=λb n z=>by subst z;rw [n] at mu;exact mu
 have hb:∀b,H b=none->b≠e:=λb n z=>by
  subst z
  rcases he with r | r
  ·exact hx b n r
  ·rw [n] at r;cases r
 have hm:∀b u,H b=some u->¬Mut (some u)->b≠x:=λb u q nm z=>by subst z;rw [q] at mu;exact nm mu
 refine ⟨λb u q n _ _=>k b u (hb b n) q,λb u q n _ _=>⟨u.slots,k b u (hb b n) q⟩,λb u q n _=>by rw [j9 (hx b n)];exact n,λb u q _=>?_,
  λb xs q=>by rw [j9 (hm b _ q λz=>z)];exact q,λb u xs q=>by rw [j9 (hm b _ q λz=>z)];exact q,λb ps q=>⟨#[],by rw [j9 (hm b _ q λz=>z),q];simp⟩⟩
 by_cases hbe:b=e
 ·subst hbe;exact heo
 ·exact ⟨u,k b u hbe q⟩
end
noncomputable def trk (h:Heap) (H:Hp):List Addr:=(aW h.objs.size).filter λa=>(H a).isSome
noncomputable def gG (h:Heap) (H:Hp):Heap:=PySem.W.hideAll h (trk h H)
theorem Yq (h:Heap) (H:Hp):(gG h H).objs.size=h.objs.size:=PySem.W.hideAll_size _ _
theorem U6 {h:Heap}{H:Hp}{b:Addr}(e:h.get? b=some o) (n:H b=none):(gG h H).get? b=some o :=
 PySem.W.hideAll_get _ e λhm=>by
  have q:(H b).isSome=true:=(List.mem_filter.mp hm).2
  rw [n] at q;simp at q
theorem UZ {b:Addr}(e:(gG h H).get? b=some o):h.get? b=some o/\H b=none:=by
 have e':h.get? b=some o:=PySem.W.of_hideAll (trk h H) e
 refine ⟨e',?_⟩
 cases q:H b with
 | none=>rfl
 | some x =>
  have hm:b∈trk h H:=List.mem_filter.mpr ⟨List.mem_range.mpr (aw e'),by simp [q]⟩
  have z:(gG h H).get? b=none:=PySem.W.hideAll_none (trk h H) hm
  rw [z] at e;cases e
noncomputable def W5 (g h:Heap) (L:Addr):List (Addr×Obj):=(aW h.objs.size).filterMap λa=>if a=L\/(g.get? a).isSome=true then none else (h.get? a).map λo=>(a,o)
noncomputable def zn (g h:Heap) (L d:Addr):List (Addr×Obj):=(W5 g h L).filter λp=>decide (p.1≠d)
end L2
namespace L2
structure Mod (K:ah) (mg:Str->Option ak) (base:Heap):Prop where
 kin:K.In base
 glob:base.Ns mainGlobals mg
 blt:∃mb,base.Ns lW mb/\∀x:Str,x ≠ "__name__" -> mb x=fR x
 nolimit:base.NoLimit
structure Cx where
 prog:Program
 w:bp
 K:ah
 mg:Str->Option ak
 base:Heap
 A:br
 N:List Str
 s₀:Shared
 H₀:Hp
 env:Env
 outer:List Env
 stack:List Env
 ex:List Addr
 fn:Str->Bool
 calm:Bool
 pn:List (Addr×Obj)
 xe:ak->Shared->Prop
noncomputable def frs (l:List Env):List Addr:=l.filterMap (·.frame)
noncomputable abbrev Cx.fs (X:Cx):List Addr:=frs X.outer
noncomputable def Vis (sc:Scope) (x:Str):Prop:=sc.names.lookup x=some .local\/sc.names.lookup x=some .cell\/sc.names.lookup x=some .free
noncomputable def Loc (sc:Scope) (x:Str):Prop:=sc.names.lookup x=some .local\/sc.names.lookup x=some .cell
noncomputable def Look (env:Env) (h:Heap) (m:Str->Option ak) (x:Str) (u:ak):Prop :=
 (env.kindOf x=some .local/\m x=some u)\/((env.kindOf x=some .cell\/env.kindOf x=some .free)/\∃c,env.cells.lookup x=some c/\h.IsCell c (some u))
structure Cx.Ok (X:Cx):Prop where
 mod:Mod X.K X.mg X.base
 kind:X.env.scope.kind = .function
 glob:X.env.globals=mainGlobals
 blt:X.env.builtins=lW
 above:X.s₀.heap.objs.size<=X.env.locals
 inj:∀x y c,X.env.cells.lookup x=some c->X.env.cells.lookup y=some c->x=y
 has:∀x,(X.env.kindOf x=some .cell\/X.env.kindOf x=some .free)->∃c,X.env.cells.lookup x=some c
 cab:∀x c,X.fn x=true->X.env.cells.lookup x=some c->X.s₀.heap.objs.size<=c
 hd:X.calm=true->X.A.handled=none
 frames:X.A.frames=some X.stack
 stk:X.stack=X.outer\/(X.stack=X.env::X.outer/\X.env.frame=some X.env.locals)
 exf:∀b∈X.ex,b≠X.env.locals/\∀x c,X.env.cells.lookup x=some c->c≠b
 bs:∀b o,X.base.get? b=some o->X.s₀.heap.get? b=some o/\X.H₀ b=none
 bsz:X.base.objs.size<=X.s₀.heap.objs.size
 noex:∀b o,X.base.get? b=some o->b∉X.ex
 exfs:∀b∈X.ex,b∉X.fs
 funs:X.s₀.heap.FunFrames X.base X.outer
 frf:∀b∈X.fs,X.H₀ b=none
structure Inv (X:Cx) (pins:List (Addr×Obj)) (σ:List (Option V)) (H:Hp) (s:Shared):Prop where
 ok:X.Ok
 os:s.os=X.s₀.os
 bare:ij s.gens
 base:Un X.fs X.ex X.H₀ H X.s₀.heap s.heap
 loc:∃m,s.heap.Ns X.env.locals m/\∀(i:Nat) (x:Str) (v:V),X.N[i]? = some x->σ[i]? = some (some v)->Vis X.env.scope x->∃u,jK v u/\Look X.env s.heap m x u
 cell:∀x c,X.env.cells.lookup x=some c->∃v,s.heap.IsCell c v
 free:H X.env.locals=none
 freeC:∀x c,X.env.cells.lookup x=some c->H c=none
 pin:∀p∈X.pn++pins,s.heap.get? p.1=some p.2/\H p.1=none/\p.1≠X.env.locals/\p.1∉X.fs/\∀v,p.2.data≠.cell v
 hok:HOk X.prog X.w H s.heap
 len:σ.length=X.N.length
section
variable {X:Cx}{pins:List (Addr×Obj)}{σ:List (Option V)}{H H':Hp}{s:Shared}{h':Heap}
theorem Cx.Ok.nofr (ok:X.Ok) {b:Addr}(e:X.base.get? b=some o):b∉X.fs:=λhb=>by
 have:=(ok.funs.mem hb).1
 rw [e] at this;cases this
theorem Inv.bs (I:Inv X pins σ H s):∀b o,X.base.get? b=some o->s.heap.get? b=some o/\H b=none:=λb o e =>
 ⟨I.base.keep b o (I.ok.bs b o e).1 (I.ok.bs b o e).2 (I.ok.nofr e) (I.ok.noex b o e),I.base.free b o (I.ok.bs b o e).1 (I.ok.bs b o e).2 (I.ok.noex b o e)⟩
theorem Inv.bk (I:Inv X pins σ H s):∀b o,X.base.get? b=some o->s.heap.get? b=some o:=λb o e=>(I.bs b o e).1
theorem Inv.mod (I:Inv X pins σ H s):Mod X.K X.mg X.base:=I.ok.mod
theorem Inv.kIn (I:Inv X pins σ H s):X.K.In s.heap:=I.ok.mod.kin.keeps I.bk
theorem Inv.lt (I:Inv X pins σ H s):X.env.locals<s.heap.objs.size:=let ⟨_,hn,_⟩:=I.loc;hn.lt
theorem Inv.sz (I:Inv X pins σ H s):X.s₀.heap.objs.size<=s.heap.objs.size:=aE I.ok.above (dX I.lt)
theorem Inv.nofs (I:Inv X pins σ H s) {a:Addr}(h:s.heap.objs.size<=a):a∉X.fs:=λhb=>by
 obtain ⟨_,o,ho,_⟩:=I.ok.funs.mem hb
 exact absurd (aK (aw ho) (aE I.sz h)) (cw _)
theorem Inv.cne (I:Inv X pins σ H s):∀x c,X.env.cells.lookup x=some c->c≠X.env.locals:=λx c e z=>by
 obtain ⟨v,o,ho,hd⟩:=I.cell x c e
 obtain ⟨m,⟨o',es,ep,ho',hd',_⟩,_⟩:=I.loc
 rw [z,ho'] at ho;cases ho;rw [hd'] at hd;cases hd
theorem Inv.funs (I:Inv X pins σ H s):s.heap.FunFrames X.base X.outer:=by
 have all:∀(l:List Env),(∀b∈frs l,b∈X.fs)->X.s₀.heap.FunFrames X.base l->s.heap.FunFrames X.base l:=by
  intro l
  induction l with
  | nil=>intro _ _;trivial
  | cons env r ih =>
   intro hs hl
   obtain ⟨hk,⟨L,o,hf,hn,ho,hd⟩,hr⟩:=hl
   have hL:L∈X.fs:=hs L (by unfold frs;rw [fk,hf];exact aO)
   obtain ⟨sl,e⟩:=I.base.slot L o ho (I.ok.frf L hL) hL λz=>I.ok.exfs L z hL
   exact ⟨hk,⟨L,_,hf,hn,e,hd⟩,ih (λb hb=>hs b (by unfold frs;rw [fk,hf];exact aH _ hb)) hr⟩
 exact all X.outer (λ_ hb=>hb) I.ok.funs
theorem Inv.stack (I:Inv X pins σ H s):s.heap.FunFrames X.base X.stack:=by
 rcases I.ok.stk with e | ⟨e,hf⟩
 ·rw [e];exact I.funs
 ·rw [e]
  obtain ⟨m,hn,_⟩:=I.loc
  refine .cons (by rw [I.ok.kind];decide) hf hn ?_ I.funs
  exact Heap.get?_none_of_le (aE I.ok.bsz I.ok.above)
theorem Inv.stkSub (I:Inv X pins σ H s):∀b∈frs X.stack,b∈X.env.locals::X.fs:=λb hb=>by
 rcases I.ok.stk with e | ⟨e,hf⟩
 ·rw [e] at hb;exact aH _ hb
 ·rw [e] at hb
  unfold frs at hb
  rw [fk,hf] at hb
  exact hb
theorem Inv.stkFree (I:Inv X pins σ H s):∀b∈frs X.stack,H b=none:=λb hb=>by
 rcases List.mem_cons.mp (I.stkSub b hb) with e | hb
 ·rw [e];exact I.free
 ·obtain ⟨_,o,ho,_⟩:=I.ok.funs.mem hb
  exact I.base.free b o ho (I.ok.frf b hb) λz=>I.ok.exfs b z hb
theorem Inv.step {t':Nat}{d':Drawn}{ch:List Addr}(I:Inv X pins σ H s)
  (hch:∀b∈ch,(b∈X.ex\/X.s₀.heap.objs.size<=b)/\b≠X.env.locals/\(∀x c,X.env.cells.lookup x=some c->c≠b)/\∀p∈X.pn++pins,p.1≠b)
  (keep:∀b o,b≠X.env.locals->b∉X.fs->b∉ch->s.heap.get? b=some o->H b=none->h'.get? b=some o)
  (slot:∀b o,b≠X.env.locals->b∈X.fs->b∉ch->s.heap.get? b=some o->H b=none->∃sl,h'.get? b=some { o with slots:=sl }) (free:∀b o,b∉ch->s.heap.get? b=some o->H b=none->H' b=none)
  (there:∀b o,b∉ch->s.heap.get? b=some o->∃o',h'.get? b=some o')
  (tups:∀b xs,H b=some (.tup xs)->H' b=some (.tup xs)) (frzs:∀b o u,H b=some (.frz o u)->H' b=some (.frz o u)) (tbls:∀b ps,H b=some (.tbl ps)->∃more,H' b=some (.tbl (ps++more)))
  (ns:∀m,s.heap.Ns X.env.locals m->h'.Ns X.env.locals m) (hok:HOk X.prog X.w H' h') (hg:ij g') :
  Inv X pins σ H' { s with heap:=h',gens:=g',drawn:=d',toks:=t' }:=by
 have neL:∀b o,X.s₀.heap.get? b=some o->b≠X.env.locals:=λb o e=>aB (aK (aw e) I.ok.above)
 have neC:∀b o,X.s₀.heap.get? b=some o->b∉X.ex->b∉ch:=λb o e hx hb=>by
  rcases (hch b hb).1 with z | z
  ·exact hx z
  ·exact absurd (aK (aw e) z) (cw _)
 have cellK:∀x c,X.env.cells.lookup x=some c->∀v,s.heap.IsCell c v->h'.IsCell c v:=λx c e v ⟨o,ho,hd⟩=>by
  have nch:c∉ch:=λz=>(hch c z).2.2.1 x c e rfl
  by_cases hc:c∈X.fs
  ·obtain ⟨sl,q⟩:=slot c o (I.cne x c e) hc nch ho (I.freeC x c e)
   exact ⟨_,q,hd⟩
  ·exact ⟨o,keep c o (I.cne x c e) hc nch ho (I.freeC x c e),hd⟩
 refine ⟨I.ok,I.os,hg,⟨λb o e n hb hx=>?_,λb o e n hb hx=>?_,λb o e n hx=>?_,λb o e hx=>?_,λb xs e=>tups b xs (I.base.tups b xs e),λb o xs e=>frzs b o xs (I.base.frzs b o xs e),λb ps e=>?_⟩,?_,λx c e=>?_,?_,λx c e=>?_,λp hp=>?_,hok,I.len⟩
 ·exact keep b o (neL b o e) hb (neC b o e hx) (I.base.keep b o e n hb hx) (I.base.free b o e n hx)
 ·obtain ⟨sl,e1⟩:=I.base.slot b o e n hb hx
  obtain ⟨sl',e2⟩:=slot b _ (neL b o e) hb (neC b o e hx) e1 (I.base.free b o e n hx)
  exact ⟨sl',e2⟩
 ·obtain ⟨o',e1⟩:=I.base.there b o e hx
  exact free b o' (neC b o e hx) e1 (I.base.free b o e n hx)
 ·obtain ⟨o',e1⟩:=I.base.there b o e hx
  exact there b o' (neC b o e hx) e1
 ·obtain ⟨m1,e1⟩:=I.base.tbls b ps e
  obtain ⟨m2,e2⟩:=tbls b _ e1
  exact ⟨m1++m2,by rw [e2,Array.append_assoc]⟩
 ·obtain ⟨m,hn,hl⟩:=I.loc
  refine ⟨m,ns m hn,λi x v e1 e2 e3=>?_⟩
  obtain ⟨u,r,l⟩:=hl i x v e1 e2 e3
  refine ⟨u,r,?_⟩
  rcases l with l | ⟨k,c,e,z⟩
  ·exact .inl l
  ·exact .inr ⟨k,c,e,cellK x c e _ z⟩
 ·obtain ⟨v,z⟩:=I.cell x c e
  exact ⟨v,cellK x c e v z⟩
 ·obtain ⟨m,⟨o,_,_,ho,_⟩,_⟩:=I.loc
  exact free _ o (λz=>(hch _ z).2.1 rfl) ho I.free
 ·obtain ⟨v,o,ho,hd⟩:=I.cell x c e
  exact free c o (λz=>(hch c z).2.2.1 x c e rfl) ho (I.freeC x c e)
 ·obtain ⟨e,n,ne,nf,d⟩:=I.pin p hp
  have nch:p.1∉ch:=λz=>(hch p.1 z).2.2.2 p hp rfl
  exact ⟨keep p.1 p.2 ne nf nch e n,free p.1 p.2 nch e n,ne,nf,d⟩
theorem Inv.un {t':Nat}(I:Inv X pins σ H s) (u:Un X.fs [] H H' s.heap h') (hok:HOk X.prog X.w H' h'):Inv X pins σ H' { s with heap:=h',toks:=t' }:=by
 obtain ⟨m,⟨o,es,ep,ho,r⟩,_⟩:=id I.loc
 obtain ⟨sl,hL⟩:=u.any ho I.free (by simp)
 exact I.step (g':=s.gens) (d':=s.drawn) (ch:=[]) (λ_ z=>nomatch z) (λb o _ hb _ e n=>u.keep b o e n hb (by simp)) (λb o _ hb _ e n=>u.slot b o e n hb (by simp)) (λb o _ e n=>u.free b o e n (by simp)) (λb o _ e=>u.there b o e (by simp)) u.tups u.frzs u.tbls (λm' hm=>by
  obtain ⟨o',es',ep',ho',r'⟩:=hm
  rw [ho] at ho';cases ho'
  exact ⟨_,es',ep',hL,r'⟩) hok I.bare
theorem Inv.call {t':Nat}{d':Drawn}{ch:List Addr}(I:Inv X pins σ H s) (u:Un (frs X.stack) ch H H' s.heap h') (hok:HOk X.prog X.w H' h') (hg:ij g')
  (hch:∀b∈ch,(b∈X.ex\/X.s₀.heap.objs.size<=b)/\b≠X.env.locals/\(∀x c,X.env.cells.lookup x=some c->c≠b)/\∀p∈X.pn++pins,p.1≠b) :
  Inv X pins σ H' { s with heap:=h',gens:=g',drawn:=d',toks:=t' }:=by
 obtain ⟨m,⟨o,es,ep,ho,r⟩,_⟩:=id I.loc
 obtain ⟨sl,hL⟩:=u.any ho I.free λz=>(hch _ z).2.1 rfl
 exact I.step (ch:=ch) hch (λb o hL hb hc e n=>u.keep b o e n (λz=>(List.mem_cons.mp (I.stkSub b z)).elim hL hb) hc) (λb o _ _ hc e n=>u.any e n hc) (λb o hc e n=>u.free b o e n hc) (λb o hc e=>u.there b o e hc) u.tups u.frzs u.tbls (λm' hm=>by
  obtain ⟨o',es',ep',ho',r'⟩:=hm
  rw [ho] at ho';cases ho'
  exact ⟨_,es',ep',hL,r'⟩) hok hg
theorem Inv.turned {t':Nat}{it:Addr}(I:Inv X pins σ H s) (k:∀b o,b≠it->s.heap.get? b=some o->h'.get? b=some o) (hn:H it=none) (hL:it≠X.env.locals)
  (h1:it∈X.ex\/X.s₀.heap.objs.size<=it) (h2:∀x c,X.env.cells.lookup x=some c->c≠it) (h3:∀p∈X.pn++pins,p.1≠it):Inv X pins σ H { s with heap:=h',toks:=t' }:=by
 have nit:∀b u,H b=some u->b≠it:=λb u e z=>by rw [z,hn] at e;cases e
 refine I.step (g':=s.gens) (d':=s.drawn) (ch:=[it]) (λb hb=>?_) (λb o _ _ hc e _=>k b o (λz=>hc (by simp [z])) e) (λb o _ _ hc e _=>⟨o.slots,k b o (λz=>hc (by simp [z])) e⟩) (λ_ _ _ _ n=>n)
  (λb o hc e=>⟨o,k b o (λz=>hc (by simp [z])) e⟩) (λ_ _ e=>e) (λ_ _ _ e=>e) (λb ps e=>⟨#[],by rw [e];simp⟩) (λm hm=>?_) (λb u e=>?_) I.bare
 ·have e:b=it:=by simpa using hb
  subst e
  exact ⟨h1,hL,h2,h3⟩
 ·obtain ⟨o,es,ep,ho,r⟩:=hm
  exact ⟨o,es,ep,k _ o (cG hL) ho,r⟩
 ·refine (I.hok b u e).stay (λc v hc q=>k c v ?_ q) (λ_ q=>q) λ_ _ q=>q
  rcases hc with z | z
  ·rw [z];exact nit b u e
  ·exact nit c _ z
theorem Inv.tok (I:Inv X pins σ H s) (t:Nat):Inv X pins σ H { s with toks:=t }:=I.un (h':=s.heap) (t':=t) Un.refl I.hok
theorem Inv.kept {t':Nat}(I:Inv X pins σ H s) (k:∀b u,s.heap.get? b=some u->h'.get? b=some u):Inv X pins σ H { s with heap:=h',toks:=t' }:=I.un (Un.kept k) (I.hok.kept k)
theorem Inv.laid {a:Addr}{t':Nat}(I:Inv X pins σ H s) (k:∀b u,s.heap.get? b=some u->h'.get? b=some u) (hp:s.heap.objs.size<=a) (new:qv X.prog X.w (upd H a o) h' a o) :
  Inv X pins σ (upd H a o) { s with heap:=h',toks:=t' }:=I.un (Un.laid k hp (I.hok.fresh hp)) (I.hok.laid k hp new)
theorem Inv.write {x e:Addr}{t':Nat}(I:Inv X pins σ H s) (mu:Mut (H x)) (he:e=x\/H e=some (.own x)) (k:∀b u,b≠e->s.heap.get? b=some u->h'.get? b=some u) (heo:∃u,h'.get? e=some u)
  (new:qv X.prog X.w (upd H x o) h' x o):Inv X pins σ (upd H x o) { s with heap:=h',toks:=t' }:=I.un (Un.write mu he k heo) (I.hok.write mu he k heo new)
theorem Inv.pins_of {pins':List (Addr×Obj)}(I:Inv X pins σ H s) (h:∀p∈pins',s.heap.get? p.1=some p.2/\H p.1=none/\p.1≠X.env.locals/\p.1∉X.fs/\∀v,p.2.data≠.cell v):Inv X pins' σ H s :=
 ⟨I.ok,I.os,I.bare,I.base,I.loc,I.cell,I.free,I.freeC,λp hp=>(List.mem_append.mp hp).elim (λz=>I.pin p (cB _ z)) (h p),I.hok,I.len⟩
theorem ku {N:List Str}(hN:N.Nodup) {i j:Nat}(a:N[i]? = some x) (b:N[j]? = some x):i=j:=by
 obtain ⟨h1,e1⟩:=List.getElem?_eq_some_iff.mp a
 obtain ⟨h2,e2⟩:=List.getElem?_eq_some_iff.mp b
 exact (List.getElem_inj hN).mp (e1.trans e2.symm)
theorem Js {i:Nat}{Q:Unit->Shared->Prop}(I:Inv X pins σ H s) (hN:X.N.Nodup) (hi:X.N[i]? = some x) (hx:Loc X.env.scope x) (r:jK v u)
  (h:∀s',Inv X pins (σ.set i (some v)) H s'->(∃a,dY a s.heap s'.heap/\(a=X.env.locals\/X.env.cells.lookup x=some a))->Q () s') (hf:X.fn x=true\/X.env.scope.names.lookup x=some .local:=by first | exact .inl rfl | exact .inr rfl | assumption):az M A (storeName X.env x u) Q E s:=by
 obtain ⟨m,hn,hl⟩:=id I.loc
 have hcls:(X.env.scope.kind == .class || (X.env.scope.kind == .module && X.env.locals != X.env.globals))=false:=by rw [I.ok.kind];rfl
 have hiσ:i<σ.length:=by rw [I.len];exact (List.getElem?_eq_some_iff.mp hi).1
 have cne:=I.cne
 have tracked:∀{a:Addr} {h':Heap},(∃o,s.heap.get? a=some o/\H a=none)->dY a s.heap h'->HOk X.prog X.w H h':=λ{a h'} ha hs b ob e=>by
  obtain ⟨_,_,hfree⟩:=ha
  refine (I.hok b ob e).stay (λc w' hc q=>(hs.2 c ?_).trans q) (λ_ q=>q) λ_ _ q=>q
  rintro rfl
  rcases hc with rfl | hc
  ·rw [hfree] at e;cases e
  ·rw [hfree] at hc;cases hc
 rcases hx with hk | hk
 ·refine wpAny_storeName_local hk hn (λh' hn' hs=>?_) hcls
  obtain ⟨oL,_,_,hoL,_⟩:=id hn
  refine h _ ⟨I.ok,I.os,I.bare,⟨λb o e n hb hx=>?_,λb o e n hb hx=>?_,I.base.free,λb o e hx=>?_,I.base.tups,I.base.frzs,I.base.tbls⟩,⟨_,hn',λj y v' e1 e2 e3=>?_⟩,λy c e=>?_,I.free,I.freeC,λp hp=>?_,tracked ⟨oL,hoL,I.free⟩ hs,by simpa using I.len⟩ ⟨_,hs,.inl rfl⟩
  ·exact (hs.2 b (aB (aK (aw e) I.ok.above))).trans (I.base.keep b o e n hb hx)
  ·obtain ⟨sl,e1⟩:=I.base.slot b o e n hb hx
   exact ⟨sl,(hs.2 b (aB (aK (aw e) I.ok.above))).trans e1⟩
  ·obtain ⟨o',e1⟩:=I.base.there b o e hx
   exact ⟨o',(hs.2 b (aB (aK (aw e) I.ok.above))).trans e1⟩
  ·by_cases hj:j=i
   ·subst hj
    rw [hi] at e1;cases e1
    rw [fS hiσ] at e2
    cases e2
    exact ⟨u,r,.inl ⟨hk,by simp⟩⟩
   ·rw [ip (cG hj)] at e2
    obtain ⟨u',r',q⟩:=hl j y v' e1 e2 e3
    refine ⟨u',r',?_⟩
    rcases q with ⟨k,e⟩ | ⟨k,c,e,z⟩
    ·refine .inl ⟨k,?_⟩
     have:y≠x:=λe=>hj (ku hN e1 (e ▸ hi))
     simp [this,e]
    ·exact .inr ⟨k,c,e,z.sameBut hs (cne y c e)⟩
  ·obtain ⟨w',z⟩:=I.cell y c e
   exact ⟨w',z.sameBut hs (cne y c e)⟩
  ·obtain ⟨e,n,ne,nf,d⟩:=I.pin p hp
   exact ⟨(hs.2 p.1 ne).trans e,n,ne,nf,d⟩
 ·have hfn:X.fn x=true:=by
   rcases hf with z | z
   ·exact z
   ·rw [z] at hk;cases hk
  obtain ⟨c,hc⟩:=I.ok.has x (.inl hk)
  obtain ⟨w',z⟩:=I.cell x c hc
  refine wpAny_storeName_cell I.ok.kind hk hc z (λh' hc' hs=>?_)
  obtain ⟨oc,hoc,hocd⟩:=id z
  refine h { s with heap:=h' } ⟨I.ok,I.os,I.bare,⟨λb o e n hb hx=>?_,λb o e n hb hx=>?_,I.base.free,λb o e hx=>?_,I.base.tups,I.base.frzs,I.base.tbls⟩,⟨m,hn.sameBut hs (cG (cne x c hc)),λj y v' e1 e2 e3=>?_⟩,λy c' e=>?_,I.free,I.freeC,λp hp=>?_,tracked ⟨oc,hoc,I.freeC x c hc⟩ hs,by simpa using I.len⟩ ⟨c,hs,.inr hc⟩
  ·exact (hs.2 b (aB (aK (aw e) (I.ok.cab x c hfn hc)))).trans (I.base.keep b o e n hb hx)
  ·obtain ⟨sl,e1⟩:=I.base.slot b o e n hb hx
   exact ⟨sl,(hs.2 b (aB (aK (aw e) (I.ok.cab x c hfn hc)))).trans e1⟩
  ·obtain ⟨o',e1⟩:=I.base.there b o e hx
   exact ⟨o',(hs.2 b (aB (aK (aw e) (I.ok.cab x c hfn hc)))).trans e1⟩
  ·by_cases hj:j=i
   ·subst hj
    rw [hi] at e1;cases e1
    rw [fS hiσ] at e2
    cases e2
    exact ⟨u,r,.inr ⟨.inl hk,c,hc,hc'⟩⟩
   ·rw [ip (cG hj)] at e2
    obtain ⟨u',r',q⟩:=hl j y v' e1 e2 e3
    refine ⟨u',r',?_⟩
    rcases q with q | ⟨k,c',e,z'⟩
    ·exact .inl q
    ·refine .inr ⟨k,c',e,z'.sameBut hs ?_⟩
     rintro rfl
     exact hj (ku hN e1 (I.ok.inj _ _ _ e hc ▸ hi))
  ·by_cases hcc:c'=c
   ·subst hcc;exact ⟨_,hc'⟩
   ·obtain ⟨w2,z2⟩:=I.cell y c' e
    exact ⟨w2,z2.sameBut hs hcc⟩
  ·obtain ⟨e,n,ne,nf,d⟩:=I.pin p hp
   refine ⟨(hs.2 p.1 ?_).trans e,n,ne,nf,d⟩
   intro q
   rw [q,hoc] at e
   have q':oc=p.2:=aI e
   exact d w' (by rw [<- q'];exact hocd)
theorem hZ {i:Nat}{Q:Unit->Shared->Prop}(I:Inv X pins σ H s) (hN:X.N.Nodup) (hi:X.N[i]? = some x) (hx:Loc X.env.scope x) (r:jK v u)
  (h:∀s',Inv X pins (σ.set i (some v)) H s'->Q () s') (hf:X.fn x=true\/X.env.scope.names.lookup x=some .local:=by first | exact .inl rfl | exact .inr rfl | assumption):az M A (storeName X.env x u) Q E s :=
 Js I hN hi hx r (λs' I' _=>h s' I') hf
theorem Inv.call' {s':Shared}{ch:List Addr}(I:Inv X pins σ H s) (ho:s'.os=s.os) (u:Un (frs X.stack) ch H H' s.heap s'.heap) (hok:HOk X.prog X.w H' s'.heap) (hg:ij s'.gens)
  (hch:∀b∈ch,(b∈X.ex\/X.s₀.heap.objs.size<=b)/\b≠X.env.locals/\(∀x c,X.env.cells.lookup x=some c->c≠b)/\∀p∈X.pn++pins,p.1≠b):Inv X pins σ H' s':=by
 obtain ⟨h',g',d',t',o'⟩:=s'
 have e:o'=s.os:=ho
 subst e
 exact I.call (g':=g') (t':=t') (d':=d') u hok hg hch
end
noncomputable abbrev XK:=ak->Option Addr->Hp->Prop
noncomputable abbrev St:=List (Option V)
noncomputable abbrev VK:=V->Hp->Prop
noncomputable abbrev TE:=St->Hp->VK->Prop
noncomputable abbrev TT:=St->Hp->(Bool->Hp->Prop)->Prop
noncomputable abbrev TA:=St->Hp->(List V->Hp->Prop)->Prop
structure Ends where
 nx:St->Hp->Prop
 rt:VK
 bk:St->Hp->Prop:=λ_ _=>False
 ct:St->Hp->Prop:=λ_ _=>False
noncomputable abbrev TS:=Ends->St->Hp->Prop
noncomputable def EP (X:Cx) (pins:List (Addr×Obj)) (σ:St) (Q:VK) (u:ak) (s':Shared):Prop:=∃v H',Inv X pins σ H' s'/\jK v u/\Q v H'
noncomputable def TP (X:Cx) (pins:List (Addr×Obj)) (σ:St) (Q:Bool->Hp->Prop) (b:Bool) (s':Shared):Prop:=∃H',Inv X pins σ H' s'/\Q b H'
noncomputable def AP (X:Cx) (pins:List (Addr×Obj)) (σ:St) (Q:List V->Hp->Prop) (us:List ak) (s':Shared):Prop:=∃vs H',Inv X pins σ H' s'/\jJ vs us/\Q vs H'
noncomputable def SP (X:Cx) (pins:List (Addr×Obj)) (D:Ends) (f:Flow) (s':Shared):Prop :=
 match f with
 | .next=>∃σ' H',Inv X pins σ' H' s'/\D.nx σ' H'
 | .brk=>∃σ' H',Inv X pins σ' H' s'/\D.bk σ' H'
 | .cont=>∃σ' H',Inv X pins σ' H' s'/\D.ct σ' H'
 | .ret u=>∃v σ' H',Inv X pins σ' H' s'/\jK v u/\D.rt v H'
noncomputable def PE (X:Cx) (e:Expr) (t:TE):Prop :=
 ∀(pins:List (Addr×Obj)) (s:Shared) (σ:St) (H:Hp) (Q:VK),Inv X pins σ H s->t σ H Q->az ↥6 X.A (eval e X.env) ↥73 X.xe s
noncomputable def PT (X:Cx) (e:Expr) (t:TT):Prop :=
 ∀(pins:List (Addr×Obj)) (s:Shared) (σ:St) (H:Hp) (Q:Bool->Hp->Prop),Inv X pins σ H s->t σ H Q->az ↥6 X.A (isTrue e X.env (eval e X.env)) (TP X pins σ Q) X.xe s
noncomputable def PW (X:Cx) (e:Expr) (t:TT):Prop :=
 ∀(whole:Sem ak) (pins:List (Addr×Obj)) (s:Shared) (σ:St) (H:Hp) (Q:Bool->Hp->Prop),Inv X pins σ H s->t σ H Q->az ↥6 X.A (isTrue e X.env whole) (TP X pins σ Q) X.xe s
theorem PW.pt {X:Cx}{e:Expr}(h:PW X e t):PT X e t:=h _
noncomputable def PA (X:Cx) (es:List Expr) (t:TA):Prop :=
 ∀(pos:Pos) (pins:List (Addr×Obj)) (s:Shared) (σ:St) (H:Hp) (Q:List V->Hp->Prop),Inv X pins σ H s->t σ H Q->az ↥6 X.A (spliced ↥77) (AP X pins σ Q) X.xe s
noncomputable def PS (X:Cx) (st:Stmt) (t:TS):Prop :=
 ∀(pins:List (Addr×Obj)) (s:Shared) (σ:St) (H:Hp) (D:Ends),Inv X pins σ H s->t D σ H->az ↥6 X.A (exec st X.env) (SP X pins D) X.xe s
noncomputable def PSs (X:Cx) (st:List Stmt) (t:TS):Prop :=
 ∀(pins:List (Addr×Obj)) (s:Shared) (σ:St) (H:Hp) (D:Ends),Inv X pins σ H s->t D σ H->az ↥6 X.A (execs st X.env) (SP X pins D) X.xe s
theorem thn {α:Type}{t:Sem α}{Q Q':α->Shared->Prop}{M:Model}{A:br}{E:ak->Shared->Prop}{s:Shared}(h:az M A t Q E s) (hQ:∀a s,Q a s->Q' a s):az M A t Q' E s:=aX h hQ λ_ _ x=>x
end L2
namespace L2
section
variable {X:Cx}
theorem bin {a b:Expr}{ta tb:TE}(ha:PE X a ta) (hb:PE X b tb) {pins:List (Addr×Obj)}{s:Shared}{σ:St}{H:Hp}{R:V->V->Hp->Prop}(I:Inv X pins σ H s) (h:ta σ H λx H1=>tb σ H1 λy H2=>R x y H2)
  {α:Type} {Q:α->Shared->Prop} {f:ak->ak->Sem α}
  (hf:∀v u s2 x y H2,Inv X pins σ H2 s2->jK x v->jK y u->R x y H2->az ↥6 X.A (f v u) Q X.xe s2) :
  az ↥6 X.A (eval a X.env) (λv s₁=>az ↥6 X.A (eval b X.env) (λu s₂=>az ↥6 X.A (f v u) Q X.xe s₂) X.xe s₁) X.xe s:=by
 refine thn ↥78 λv s1 ⟨x,H1,I1,r1,q1⟩=>?_
 refine thn (hb pins s1 σ H1 _ I1 q1) λu s2 ⟨y,H2,I2,r2,q2⟩=>?_
 exact hf v u s2 x y H2 I2 r1 r2 q2
noncomputable def uq (i:Nat):TE:=λσ H Q=>∃v,σ[i]? = some (some v)/\Q v H
noncomputable def tC (v:V):TE:=λ_ H Q=>Q v H
theorem G1 {i:Nat}(hN:X.N[i]? = some x) (hv:Vis X.env.scope x) (hd: ↥33=false:=by decide) (hcd:(x == ("__classdict__" : Str))=false:=by decide):PE X (.Name x pos) (uq i):=by
 intro pins s σ H Q I h
 obtain ⟨v,e,h⟩:=h
 obtain ⟨m,hn,hl⟩:=I.loc
 obtain ⟨u,r,l⟩:=hl i x v hN e hv
 have fin:EP X pins σ Q u s:=⟨v,H,I,r,h⟩
 rcases l with ⟨hk,hm⟩ | ⟨hk,c,hc,hcell⟩
 ·exact rN (wpAny_loadName_local I.ok.kind hk hn hm fin) hd
 ·rcases hk with hk | hk
  ·exact rN (wpAny_loadName_cell I.ok.kind hk hc hcell fin) hd
  ·exact rN (wpAny_loadName_free I.ok.kind hk hc hcell fin hcd) hd
theorem j6 {i j pos}:PE X (.Constant (.int i) j pos) (tC (.int i)):=λ_ _ _ H _ I h=>wpAny_Constant_int ⟨.int i,H,I.tok _,⟨_,rfl⟩,h⟩
theorem vO {b j pos}:PE X (.Constant (.bool b) j pos) (tC (.bl b)):=λ_ _ _ H _ I h=>Constant_bool ⟨.bl b,H,I,rfl,h⟩
theorem vn {j pos}:PE X (.Constant .none j pos) (tC .non):=λ_ _ _ H _ I h=>Constant_none ⟨.non,H,I,rfl,h⟩
theorem jc {x j pos}:PE X (.Constant (.str x) j pos) (tC (.str x)):=λ_ _ _ H _ I h=>Calls.Constant_str ⟨.str x,H,I.tok _,⟨_,rfl⟩,h⟩
noncomputable def Gl (X:Cx) (x:Str):Prop:=X.env.kindOf x=some .globalImplicit
theorem yK {Q:ak->Shared->Prop}(I:Inv X pins σ H s) (hg:Gl X x) (hm:X.mg x=some u) (h:Q u s)
  (hd: ↥33=false:=by decide):az ↥6 X.A (eval (.Name x pos) X.env) Q E s :=
 iR I.ok.kind hg (Calls.loadGlobal_global (by rw [I.ok.glob];exact I.mod.glob.keeps I.bk) hm h) hd
theorem vh {Q:ak->Shared->Prop}(I:Inv X pins σ H s) (hg:Gl X x) (hm:X.mg x=none) (hv:fR x=some u) (h:Q u s)
  (hn:x ≠ "__name__":=by decide) (hd: ↥33=false:=by decide):az ↥6 X.A (eval (.Name x pos) X.env) Q E s:=by
 obtain ⟨mb,h1,h2⟩:=I.mod.blt
 exact iR I.ok.kind hg (Calls.loadGlobal_builtin (by rw [I.ok.glob];exact I.mod.glob.keeps I.bk) hm (by rw [I.ok.blt];exact h1.keeps I.bk) ((h2 x hn).trans hv) h) hd
theorem jM (hg:Gl X x) (hm:X.mg x=some u) (r:jK v u) (hd: ↥33=false:=by decide):PE X (.Name x pos) (tC v) :=
 λ_ _ _ H _ I h=>yK I hg hm ⟨v,H,I,r,h⟩ hd
theorem xJ (hg:Gl X x) (hm:X.mg x=none) (hv:fR x=some u) (r:jK v u) (hn:x ≠ "__name__":=by decide) (hd: ↥33=false:=by decide):PE X (.Name x pos) (tC v) :=
 λ_ _ _ H _ I h=>vh I hg hm hv ⟨v,H,I,r,h⟩ hn hd
variable {a b:Expr}{ta tb:TE}{pos:Pos}
noncomputable def PC (X:Cx) (op:CmpOp) (a b:Expr) (t:TE):Prop :=
 ∀(pins:List (Addr×Obj)) (s:Shared) (σ:St) (H:Hp) (Q:VK),Inv X pins σ H s->t σ H Q ->
  az ↥6 X.A (eval a X.env) (λv s₁=>az ↥6 X.A (eval b X.env) (λu s₂=>az ↥6 X.A (cf op v u) ↥73 X.xe s₂) X.xe s₁) X.xe s
theorem Vt (b:Expr) {op:CmpOp}(h:op≠.In) (h2:op≠.NotIn):eI op b=false:=by
 have e1:(op == CmpOp.In)=false:=by cases op <;> first | rfl | exact absurd rfl h
 have e2:(op == CmpOp.NotIn)=false:=by cases op <;> first | rfl | exact absurd rfl h2
 cases b <;> simp [eI,e1,e2]
noncomputable def tB (t:TE):TT:=λσ H Q=>t σ H λx H1=>∃c,x = .bl c/\Q c H1
theorem gf (h:PC X op a b t) (h1:eI op b=false:=by first | exact Vt _ ⋯ ⋯ | rfl):PT X (.Compare a [op] [b] pos) (tB t):=by
 intro pins s σ H Q I hw
 refine mx (thn (h pins s σ H _ I hw) λv s1 h1=>thn h1 λu s2 h2=>thn h2 λc s3 ⟨x,H1,I1,r1,q1⟩=>?_) h1
 obtain ⟨d,rfl,q⟩:=q1
 cases r1
 exact bZ ⟨H1,I1,q⟩
theorem qU (h:PE X e t) (he:∀whole,isTrue e X.env whole=(do let v <- whole;fc e.pos;fe [v] (truthy v)):=by intro _;rfl):PT X e (tB t):=by
 intro pins s σ H Q I hw
 refine isTrue_plain (thn (h pins s σ H _ I hw) λv s1 ⟨x,H1,I1,r1,q1⟩=>?_) (he _)
 obtain ⟨d,rfl,q⟩:=q1
 cases r1
 exact bZ ⟨H1,I1,q⟩
variable {tA tB':TT}{zn:List Expr}
noncomputable def tAnd (t u:TT):TT:=λσ H Q=>t σ H λc H1=>if c=true then u σ H1 Q else Q false H1
noncomputable def tOr (t u:TT):TT:=λσ H Q=>t σ H λc H1=>if c=true then Q true H1 else u σ H1 Q
noncomputable def tNot (t:TT):TT:=λσ H Q=>t σ H λc H1=>Q (!c) H1
theorem zZ (ha:PT X a tA):PW X (.BoolOp .And [a] pos) tA:=by
 intro wh pins s σ H Q I h
 refine isTrue_and (thn (ha pins s σ H Q I h) λc s1 e=>?_)
 cases c with
 | true=>exact isTrue_and_nil e
 | false=>exact e
theorem Qp (ha:PT X a tA):PW X (.BoolOp .Or [a] pos) tA:=by
 intro wh pins s σ H Q I h
 refine isTrue_or (thn (ha pins s σ H Q I h) λc s1 e=>?_)
 cases c with
 | false=>exact isTrue_or_nil e
 | true=>exact e
theorem yf (ha:PT X a tA) (hb:PW X (.BoolOp .And (b::zn) pos) tB'):PW X (.BoolOp .And (a::b::zn) pos) (tAnd tA tB'):=by
 intro wh pins s σ H Q I h
 refine isTrue_and (thn ↥78 λc s1 ⟨H1,I1,q1⟩=>?_)
 cases c with
 | true=>exact hb wh pins s1 σ H1 Q I1 q1
 | false=>exact ⟨H1,I1,q1⟩
theorem ZP (ha:PT X a tA) (hb:PW X (.BoolOp .Or (b::zn) pos) tB'):PW X (.BoolOp .Or (a::b::zn) pos) (tOr tA tB'):=by
 intro wh pins s σ H Q I h
 refine isTrue_or (thn ↥78 λc s1 ⟨H1,I1,q1⟩=>?_)
 cases c with
 | true=>exact ⟨H1,I1,q1⟩
 | false=>exact hb wh pins s1 σ H1 Q I1 q1
theorem qt (ha:PT X a tA):PT X (.UnaryOp .Not a pos) (tNot tA):=by
 intro pins s σ H Q I h
 exact isTrue_not (ha pins s σ H (λc H1=>Q (!c) H1) I h)
noncomputable def GI (ta tb:TE):TE:=λσ H Q=>ta σ H λx H1=>∃c,x = .bl c/\if c=true then tb σ H1 Q else Q (.bl false) H1
noncomputable def E8 (ta:TE):TE:=λσ H Q=>ta σ H λx H1=>∃c,x = .bl c/\Q (.bl (!c)) H1
theorem yI {op}(h:PE X a t):PE X (.BoolOp op [a] pos) t:=λpins s σ H Q I hw=>BoolOp_one (h pins s σ H Q I hw)
theorem zx (ha:PE X a ta) (hb:PE X (.BoolOp .And (b::zn) pos) tb):PE X (.BoolOp .And (a::b::zn) pos) (GI ta tb):=by
 intro pins s σ H Q I h
 refine BoolOp_and (thn ↥78 λv s1 ⟨x,H1,I1,r1,q1⟩=>?_)
 obtain ⟨c,rfl,q1⟩:=q1
 cases r1
 refine bZ ?_
 cases c with
 | true=>exact hb pins s1 σ H1 Q I1 q1
 | false=>exact ⟨.bl false,H1,I1,rfl,q1⟩
theorem WT (ha:PE X a ta):PE X (.UnaryOp .Not a pos) (E8 ta):=by
 intro pins s σ H Q I h
 refine UnaryOp_ (thn ↥78 λv s1 ⟨x,H1,I1,r1,q1⟩=>?_)
 obtain ⟨c,rfl,q1⟩:=q1
 cases r1
 exact not_of (bZ ⟨.bl (!c),H1,I1,rfl,q1⟩)
end
end L2
namespace L2
noncomputable def SqL (K:ah) (H:Hp) (a:Addr) (xs:List V):Prop :=
 Rd H a (.lst xs) \/
  ∃(o:Obj) (its:Array ak) (n:Nat),K.lookup a=some o/\o.cls = .type "list" /\ o.dict=none/\o.data = .seq its n/\its.size<=sizeLine/\jJ xs its.toList
noncomputable def SqT (K:ah) (H:Hp) (a:Addr) (xs:List V):Prop :=
 Rd H a (.tup xs) \/
  ∃(o:Obj) (its:Array ak) (n:Nat),K.lookup a=some o/\o.cls = .type "tuple" /\ o.data = .seq its n/\its.size<=sizeLine/\jJ xs its.toList
noncomputable def absV:ak->Option V
 | .none=>some .non
 | .bool b=>some (.bl b)
 | .int i _=>some (.int i)
 | .str x _=>some (.str x)
 | .bytes b _=>some (.byt b)
 | .float b _=>some (.flt b)
 | .ref a=>some (.ref a)
 | .type n=>some (.ty n)
 | _=>none
theorem jK.abs {x:V}(r:jK x u):absV u=some x:=by
 cases x with
 | non=>cases r;rfl
 | bl _=>cases r;rfl
 | int _=>obtain ⟨t,rfl⟩:=r;rfl
 | str _=>obtain ⟨t,rfl⟩:=r;rfl
 | byt _=>obtain ⟨t,rfl⟩:=r;rfl
 | flt _=>obtain ⟨t,rfl⟩:=r;rfl
 | ref _=>cases r;rfl
 | ty _=>cases r;rfl
theorem jK.inj {x:V}(r:jK x u) (q:jK y u):x=y:=aI (r.abs.symm.trans q.abs)
theorem jJ.inj:∀{xs ys:List V}{us:List ak},jJ xs us->jJ ys us->xs=ys
 | _,_,_,.nil,.nil=>rfl
 | _,_,_,.cons r t,.cons r' t'=>by rw [r.inj r',jJ.inj t t']
section
variable {X:Cx}{pins:List (Addr×Obj)}{σ:St}{H:Hp}{s:Shared}{a:Addr}{xs ys:List V}
theorem SqL.of {K:ah}(h:H a=some (.lst xs)):SqL K H a xs:=.inl (.inl h)
theorem SqT.of {K:ah}(h:H a=some (.tup xs)):SqT K H a xs:=.inl (.inl h)
theorem Inv.list (I:Inv X pins σ H s) (h:SqL X.K H a xs):∃its:List ak,jJ xs its/\PlainL s.heap a its.toArray/\xs.length<=sizeLine:=by
 rcases h with h | ⟨o,its,n,hk,hc,hd,hs,hz,r⟩
 ·obtain ⟨z,its,n,r,e⟩:=h.ok I.hok
  exact ⟨its,r,⟨_,n,e,rfl,rfl,rfl⟩,z⟩
 ·refine ⟨its.toList,r,⟨o,n,I.kIn a o hk,hc,hd,by simpa using hs⟩,?_⟩
  have e:=r.length
  simp only [bP] at e
  omega
theorem Inv.tuple (I:Inv X pins σ H s) (h:SqT X.K H a xs):∃its:List ak,jJ xs its/\rM s.heap a its.toArray/\xs.length<=sizeLine:=by
 rcases h with h | ⟨o,its,n,hk,hc,hs,hz,r⟩
 ·obtain ⟨z,its,r,p⟩:=h.ok I.hok
  exact ⟨its,r,p,z⟩
 ·refine ⟨its.toList,r,⟨o,I.kIn a o hk,hc,n,by simpa using hs⟩,?_⟩
  have e:=r.length
  simp only [bP] at e
  omega
theorem Inv.list_inj (I:Inv X pins σ H s) (h:SqL X.K H a xs) (h':SqL X.K H a ys):xs=ys:=by
 obtain ⟨its,r,⟨o,n,e,_,_,d⟩,_⟩:=I.list h
 obtain ⟨its',r',⟨o',n',e',_,_,d'⟩,_⟩:=I.list h'
 rw [e] at e';cases e'
 rw [d] at d'
 injection d' with d1 _
 have:its=its':=by simpa using congrArg Array.toList d1
 subst this
 exact r.inj r'
theorem Inv.tuple_inj (I:Inv X pins σ H s) (h:SqT X.K H a xs) (h':SqT X.K H a ys):xs=ys:=by
 obtain ⟨its,r,⟨o,e,_,n,d⟩,_⟩:=I.tuple h
 obtain ⟨its',r',⟨o',e',_,n',d'⟩,_⟩:=I.tuple h'
 rw [e] at e';cases e'
 rw [d] at d'
 injection d' with d1 _
 have:its=its':=by simpa using congrArg Array.toList d1
 subst this
 exact r.inj r'
end
noncomputable abbrev Cx.wish (X:Cx) (E:ak->Shared->Prop):Cx:={ X with xe:=E }
noncomputable abbrev Cx.nox (X:Cx):Cx:=X.wish λ_ _=>False
theorem Cx.Ok.wish {X:Cx}(ok:X.Ok) (E:ak->Shared->Prop):(X.wish E).Ok :=
 ⟨ok.mod,ok.kind,ok.glob,ok.blt,ok.above,ok.inj,ok.has,ok.cab,ok.hd,ok.frames,ok.stk,ok.exf,ok.bs,ok.bsz,ok.noex,ok.exfs,ok.funs,ok.frf⟩
theorem Cx.Ok.unwish {X:Cx}(ok:(X.wish E).Ok):X.Ok :=
 ⟨ok.mod,ok.kind,ok.glob,ok.blt,ok.above,ok.inj,ok.has,ok.cab,ok.hd,ok.frames,ok.stk,ok.exf,ok.bs,ok.bsz,ok.noex,ok.exfs,ok.funs,ok.frf⟩
section
variable {X:Cx}{pins:List (Addr×Obj)}{σ:St}{H:Hp}{s:Shared}{E:ak->Shared->Prop}
theorem Inv.wish (I:Inv X pins σ H s) (E:ak->Shared->Prop):Inv (X.wish E) pins σ H s:=⟨I.ok.wish E,I.os,I.bare,I.base,I.loc,I.cell,I.free,I.freeC,I.pin,I.hok,I.len⟩
theorem Inv.unwish (I:Inv (X.wish E) pins σ H s):Inv X pins σ H s:=⟨I.ok.unwish,I.os,I.bare,I.base,I.loc,I.cell,I.free,I.freeC,I.pin,I.hok,I.len⟩
theorem SP.unwish {D:Ends}(h:SP (X.wish E) pins D f s'):SP X pins D f s':=by
 cases f with
 | next=>obtain ⟨σ',H',I,q⟩:=h;exact ⟨σ',H',I.unwish,q⟩
 | brk=>obtain ⟨σ',H',I,q⟩:=h;exact ⟨σ',H',I.unwish,q⟩
 | cont=>obtain ⟨σ',H',I,q⟩:=h;exact ⟨σ',H',I.unwish,q⟩
 | ret u=>obtain ⟨v,σ',H',I,r,q⟩:=h;exact ⟨v,σ',H',I.unwish,r,q⟩
theorem PE.nox {e:Expr}(h:PE X.nox e t):PE X e t:=λpins s σ H Q I hw =>
 aX (h pins s σ H Q (I.wish _) hw) (λ_ _ ⟨v,H',I',r,q⟩=>⟨v,H',I'.unwish,r,q⟩) λ_ _ z=>bg z
theorem PSs.nox {st:List Stmt}(h:PSs X.nox st t):PSs X st t:=λpins s σ H D I hw =>
 aX (h pins s σ H D (I.wish _) hw) (λ_ _ q=>q.unwish) λ_ _ z=>bg z
end
section
variable {X:Cx}{st:Stmt}{zn:List Stmt}{t u:TS}{e:Expr}{te:TE}{pos:Pos}
noncomputable def GT:TS:=λD σ H=>D.nx σ H
noncomputable def tSeq (t u:TS):TS:=λD σ H=>t { D with nx:=u D } σ H
theorem jo:PSs X [] GT:=λ_ _ σ H _ I h=>fF ⟨σ,H,I,h⟩
theorem j8 (h1:PS X st t) (h2:PSs X zn u):PSs X (st::zn) (tSeq t u):=by
 intro pins s σ H D I h
 refine lL (thn (h1 pins s σ H { D with nx:=u D } I h) λf s1 q=>?_)
 cases f with
 | next =>
  obtain ⟨σ',H',I',q⟩:=q
  exact h2 pins s1 σ' H' D I' q
 | ret v=>exact q
 | brk=>exact q
 | cont=>exact q
theorem jb (h1:PS X st t):PSs X [st] t:=by
 intro pins s σ H D I h
 refine lL (thn (h1 pins s σ H D I h) λf s1 q=>?_)
 cases f with
 | next=>exact fF q
 | ret v=>exact q
 | brk=>exact q
 | cont=>exact q
theorem Inv.quiet (I:Inv X pins σ H s):interactive X.env=false:=by simp [interactive,I.ok.kind]
noncomputable def Er (te:TE):TS:=λD σ H=>te σ H λ_ H1=>D.nx σ H1
theorem jU (he:PE X e te) (hs:iP e none pos.line X.env=pure false:=by rfl):PS X (.Expr e pos) (Er te):=by
 intro pins s σ H D I h
 exact wpAny_Expr_any (thn ↥69 λv s1 ⟨x,H1,I1,r1,q1⟩=>⟨σ,H1,I1,q1⟩) I.quiet hs
noncomputable def wE (te:TE):TS:=λD σ H=>te σ H D.rt
theorem jk (he:PE X e te):PS X (.Return (some e) pos) (wE te):=by
 intro pins s σ H D I h
 exact wpAny_Return_some (thn ↥69 λv s1 ⟨x,H1,I1,r1,q1⟩=>⟨x,σ,H1,I1,r1,q1⟩)
noncomputable def tIfS (c:TT) (t u:TS):TS:=λD σ H=>c σ H λb H1=>if b=true then t D σ H1 else u D σ H1
theorem jF (hc:PT X c tc) (ha:PSs X a t) (hb:PSs X b u):PS X (.If c a b pos) (tIfS tc t u):=by
 intro pins s σ H D I h
 refine wpAny_If (thn (hc pins s σ H _ I h) λd s1 ⟨H1,I1,q1⟩=>?_)
 cases d with
 | true=>exact ha pins s1 σ H1 D I1 q1
 | false=>exact hb pins s1 σ H1 D I1 q1
end
noncomputable abbrev TG:=V->St->Hp->(St->Hp->Prop)->Prop
noncomputable abbrev TGs:=List V->St->Hp->(St->Hp->Prop)->Prop
noncomputable def PG (X:Cx) (target:Expr) (t:TG):Prop :=
 ∀(pins:List (Addr×Obj)) (s:Shared) (σ:St) (H:Hp) (v:V) (u:ak) (Q:St->Hp->Prop),Inv X pins σ H s->jK v u->t v σ H Q ->
  az ↥6 X.A (i8 target X.env u) (λ_ s'=>∃σ' H',Inv X pins σ' H' s'/\Q σ' H') X.xe s
noncomputable def PGs (X:Cx) (ts:List Expr) (t:TGs):Prop :=
 ∀(pins:List (Addr×Obj)) (s:Shared) (σ:St) (H:Hp) (vs:List V) (us:List ak) (Q:St->Hp->Prop),Inv X pins σ H s->jJ vs us->t vs σ H Q ->
  az ↥6 X.A (sy ((d4 ts X.env).map (·.2)) us) (λ_ s'=>∃σ' H',Inv X pins σ' H' s'/\Q σ' H') X.xe s
noncomputable abbrev Eg:=V->V->V->Hp->(Hp->Prop)->Prop
noncomputable def Et (X:Cx) (t:Eg):Prop :=
 ∀(pins:List (Addr×Obj)) (s:Shared) (σ:St) (H:Hp) (o i v:V) (ov iv u:ak) (Q:Hp->Prop),Inv X pins σ H s->jK o ov->jK i iv->jK v u->t o i v H Q ->
  az ↥6 X.A (setItem ov iv u) (λ_ s'=>∃H',Inv X pins σ H' s'/\Q H') X.xe s
section
variable {X:Cx}{pos:Pos}
noncomputable def J9 (i:Nat):TG:=λv σ H Q=>Q (σ.set i (some v)) H
theorem jm {i:Nat}(hN:X.N.Nodup) (hi:X.N[i]? = some x) (hx:Loc X.env.scope x) (hf:X.fn x=true\/X.env.scope.names.lookup x=some .local:=by first | exact .inl rfl | exact .inr rfl | assumption):PG X (.Name x pos) (J9 i):=by
 intro pins s σ H v u Q I r h
 exact oB (hZ I hN hi hx r (λs' I'=>⟨_,H,I',h⟩) hf)
noncomputable def gNil:TGs:=λvs σ H Q=>vs=[]/\Q σ H
noncomputable def GP (t:TG) (u:TGs):TGs:=λvs σ H Q=>∃v r,vs=v::r/\t v σ H λσ' H'=>u r σ' H' Q
theorem xD:PGs X [] gNil:=by
 intro pins s σ H vs us Q I r h
 obtain ⟨e,h⟩:=h
 subst e
 cases r
 exact assignInOrder_nil ⟨σ,H,I,h⟩
theorem jO (h1:PG X e t) (h2:PGs X es u)
  (hs:(d4 (e::es) X.env).map (·.2)=i8 e X.env::(d4 es X.env).map (·.2):=by rfl):PGs X (e::es) (GP t u):=by
 intro pins s σ H vs us Q I r h
 obtain ⟨v,vr,e1,h⟩:=h
 subst e1
 cases r with
 | cons r rr =>
  rw [hs]
  refine assignInOrder_cons (thn (h1 pins s σ H _ _ _ I r h) λ_ s1 ⟨σ1,H1,I1,q1⟩=>?_)
  exact h2 pins s1 σ1 H1 _ _ Q I1 rr q1
noncomputable def WV (K:ah) (n:Nat) (t:TGs):TG:=λv σ H Q=>∃a xs,v = .ref a/\SqT K H a xs/\xs.length=n/\t xs σ H Q
theorem Wl {k:Nat}{n:Nat}(hc:X.calm=true) (h:PGs X es t)
  (hn:(d4 es X.env).length=n:=by rfl) (hst:(d4 es X.env).findIdx? (·.1)=none:=by rfl):PG X (.Tuple es k pos) (WV X.K n t):=by
 intro pins s σ H v u Q I r hw
 obtain ⟨a,xs,e1,hq,hl,hw⟩:=hw
 subst e1
 cases r
 obtain ⟨its,rv,ht,hz⟩:=I.tuple hq
 refine assign_Tuple_tuple (I.ok.hd hc) ht (by simp [hn,<- hl,rv.length]) hst λh' hx=>?_
 have I1:Inv X pins σ H { s with heap:=h' }:=I.kept (t':=s.toks) λb o e=>hx b o (aB (aw e)) e
 exact h pins _ σ H xs _ Q I1 (by simpa using rv) hw
noncomputable def gSub (to ti:TE) (t:Eg):TG:=λv σ H Q=>to σ H λo H1=>ti σ H1 λi H2=>t o i v H2 λH3=>Q σ H3
theorem kK (ho:PE X o to) (hi:PE X i ti) (hs:Et X t)
  (ha:∀v,i8 (.Subscript o i pos) X.env v=(do
   let ov <- fe [v] (eval o X.env)
   let iv <- fe [v,ov] (eval i X.env)
   fc pos
   fe [v,ov,iv] (setItem ov iv v)
   release [v,ov,iv] []):=by intro _;rfl):PG X (.Subscript o i pos) (gSub to ti t):=by
 intro pins s σ H v u Q I r h
 rw [ha]
 refine aa (bD (thn (ho pins s σ H _ I h) λov s1 ⟨x,H1,I1,r1,q1⟩=>?_))
 refine aa (bD (thn (hi pins s1 σ H1 _ I1 q1) λiv s2 ⟨y,H2,I2,r2,q2⟩=>?_))
 refine aa (cV (aa (bD (thn (hs pins s2 σ H2 x y v ov iv u _ I2 r1 r2 r q2) λ_ s3 ⟨H3,I3,q3⟩=>?_))))
 exact wpAny_release ⟨σ,H3,I3,q3⟩
noncomputable def Wa (te:TE) (g:TG):TS:=λD σ H=>te σ H λx H1=>g x σ H1 D.nx
theorem vR (he:PE X e te) (hg:PG X tg g) (hs:swapsWithSole [tg] e pos.line X.env=pure false:=by rfl) (hw:swappedStores [tg] e X.env=pure none:=by rfl)
  (h1:(d4 [tg] X.env).map (·.2)=[i8 tg X.env]:=by rfl):PS X (.Assign [tg] e pos) (Wa te g):=by
 intro pins s σ H D I h
 refine wpAny_Assign_stores (thn ↥69 λv s1 ⟨x,H1,I1,r1,q1⟩=>?_) hs hw
 rw [h1]
 exact thn (hg pins s1 σ H1 x v _ I1 r1 q1) λ_ s2 q=>q
theorem vT {i:Nat}(hN:X.N.Nodup) (hi:X.N[i]? = some x) (hx:Loc X.env.scope x) (he:PE X e te) (hs:iP e (some (.Name x pos')) pos.line X.env=pure false:=by rfl) (hf:X.fn x=true\/X.env.scope.names.lookup x=some .local:=by first | exact .inl rfl | exact .inr rfl | assumption) :
  PS X (.Assign [.Name x pos'] e pos) (Wa te (J9 i)):=by
 intro pins s σ H D I h
 refine wpAny_Assign_Name (thn ↥69 λv s1 ⟨y,H1,I1,r1,q1⟩=>?_) hs
 exact hZ I1 hN hi hx r1 (λs2 I2=>⟨_,H1,I2,q1⟩) hf
theorem jA (i:Nat)(hN:X.N.Nodup) (he:PE X e te) (hi:X.N[i]?=some x:=by rfl) (hx:Loc X.env.scope x:=by exact bf rfl) (hs:iP e (some (.Name x pos')) pos.line X.env=pure false:=by rfl) (hf:X.fn x=true\/X.env.scope.names.lookup x=some .local:=by first | exact .inl rfl | exact .inr rfl | assumption):PS X (.Assign [.Name x pos'] e pos) (Wa te (J9 i)):=vT hN hi hx he hs hf
end
section
variable {X:Cx}{pos:Pos}
noncomputable def Vh (c:TT) (tb:TS):TS:=λD σ H=>∃W:Nat->St->Hp->Prop,(∃m,W m σ H)/\∀m σ H,W m σ H ->
 c σ H λb H1=>if b=true then ∃N:St->Hp->Prop,(∀σ' H',N σ' H'->∃m',m'<m/\W m' σ' H')/\tb { D with nx:=N,ct:=N,bk:=D.nx } σ H1 else D.nx σ H1
theorem Xr (hp:PassesOwn ↥6 X.A X.env X.xe) (hc:PT X c tc) (hb:PSs X body tb):PS X (.While c body [] pos) (Vh tc tb):=by
 intro pins s σ H D I h
 obtain ⟨W,⟨m0,w0⟩,turn⟩:=h
 refine wpAny_While (codeAny_whileLoop (λn s'=>∃σ' H',Inv X pins σ' H' s'/\W n σ' H') ?_ m0 ⟨σ,H,I,w0⟩)
 rintro n s1 ⟨σ1,H1,I1,w1⟩
 refine dE hp (thn (hc pins s1 σ1 H1 _ I1 (turn n σ1 H1 w1)) λb s2 ⟨H2,I2,q2⟩=>?_)
 cases b with
 | true =>
  obtain ⟨N,hN,q2⟩:=q2
  rw [if_pos rfl]
  refine dE hp (thn (hb pins s2 σ1 H2 _ I2 q2) λf s3 q3=>?_)
  cases f with
  | next =>
   obtain ⟨σ3,H3,I3,n3⟩:=q3
   obtain ⟨m',hm,w3⟩:=hN σ3 H3 n3
   exact ⟨m',hm,σ3,H3,I3,w3⟩
  | cont =>
   obtain ⟨σ3,H3,I3,n3⟩:=q3
   obtain ⟨m',hm,w3⟩:=hN σ3 H3 n3
   exact ⟨m',hm,σ3,H3,I3,w3⟩
  | brk=>exact q3
  | ret v=>exact q3
 | false =>
  rw [if_neg au]
  exact fF ⟨σ1,H2,I2,q2⟩
end
structure It where
 go:Nat->Hp->Prop
 yld:Nat->Hp->V->Hp->Prop
 stop:Nat->Hp->Prop
noncomputable def yJ (X:Cx) (pins:List (Addr×Obj)) (H:Hp) (b:Addr):Prop :=
 H b=none/\b≠X.env.locals/\b∉X.fs/\(b∈X.ex\/X.s₀.heap.objs.size<=b)/\(∀x c,X.env.cells.lookup x=some c->c≠b)/\∀p∈X.pn++pins,p.1≠b
theorem Inv.fpOk {X:Cx}{H':Hp}{b:Addr}(I:Inv X pins σ H s) (hb:s.heap.objs.size<=b) (hn:H' b=none):yJ X pins H' b:=by
 refine ⟨hn,cJ (aK I.lt hb),I.nofs hb,.inr (aE I.sz hb),λx c e z=>?_,λp hp z=>?_⟩
 ·obtain ⟨v,q⟩:=I.cell x c e
  exact absurd (aK q.lt (by rw [z];exact hb)) (cw _)
 ·exact absurd (aK (aw (I.pin p hp).1) (by rw [z];exact hb)) (cw _)
structure Turn (P:Program) (w:bp) (K:ah) (tg:Expr) (J:It) (fp:List Addr) (it:Addr) (tn:Nat->Heap->Prop):Prop where
 mem:it∈fp
 obj:∀i h,tn i h->∀b∈fp,∃o,h.get? b=some o/\∀v,o.data≠.cell v
 keep:∀i h h',tn i h->(∀b∈fp,∀o,h.get? b=some o->h'.get? b=some o)->tn i h'
 item:∀(X:Cx),X.prog=P->X.w=w->X.K=K->X.calm=true->∀(i:Nat) (pins:List (Addr×Obj)) (s:Shared) (σ:St) (H:Hp) (E:ak->Shared->Prop),Inv X pins σ H s->(∀b∈fp,yJ X pins H b)->tn i s.heap->J.go i H ->
  az (aC P w) X.A (fm (.ref it)) (λr s1=>∃u,r=some u /\
   az (aC P w) X.A (cS tg (.ref it) u) (λ_ s2=>∃x H',Inv X pins σ H' s2/\jK x u/\J.yld i H x H'/\tn (i+1) s2.heap/\∀b∈fp,H' b=none) E s1) E s
 done:∀(X:Cx),X.prog=P->X.w=w->X.K=K->X.calm=true->∀(i:Nat) (pins:List (Addr×Obj)) (s:Shared) (σ:St) (H:Hp) (E:ak->Shared->Prop),Inv X pins σ H s->(∀b∈fp,yJ X pins H b)->tn i s.heap->J.stop i H ->
  az (aC P w) X.A (fm (.ref it)) (λr s1=>r=none/\Inv X pins σ H s1) E s
 self:∀(A:br) (i:Nat) (s:Shared) (Q:ak->Shared->Prop) (E:ak->Shared->Prop),tn i s.heap->Q (.ref it) s->az (aC P w) A (lB (.ref it)) Q E s
noncomputable abbrev TI:=St->Hp->(It->Hp->Prop)->Prop
noncomputable def PIE (X:Cx) (pins:List (Addr×Obj)) (σ:St) (tg:Expr) (R:It->Hp->Prop) (itv:ak) (s2:Shared):Prop :=
 ∃(it:Addr) (fp:List Addr) (tn:Nat->Heap->Prop) (J:It) (H':Hp),itv = .ref it/\Inv X pins σ H' s2/\Turn X.prog X.w X.K tg J fp it tn/\tn 0 s2.heap/\(∀b∈fp,yJ X pins H' b)/\R J H'
noncomputable def PI (X:Cx) (tg iter:Expr) (wi:TI):Prop :=
 ∀(pins:List (Addr×Obj)) (s:Shared) (σ:St) (H:Hp) (R:It->Hp->Prop),Inv X pins σ H s->wi σ H R ->
  az ↥6 X.A (eval iter X.env) (λv s1=>az ↥6 X.A (lB v) (PIE X pins σ tg R) X.xe s1) X.xe s
theorem Xo {s:Shared}{it:Addr}{n:String}{Q:Unit->Shared->Prop}(ho:s.heap.get? it=some o) (hc:o.cls = .type n) (hd:o.data = .fields vs)
  (hn:["enumerate","zip","dict_itemiterator","dict_reverseitemiterator","odict_iterator","itertools.zip_longest","itertools.pairwise"].contains n=false) (hQ:Q () s):az M A (cS tg (.ref it) u) Q E s:=by
 unfold cS
 cases tg <;> first
  | exact wpAny_pure hQ
  | (cases u <;> first
    | exact wpAny_pure hQ
    | (refine aa (wpAny_load ho ?_)
       rw [hc,hd]
       show az M A (if (["enumerate","zip","dict_itemiterator","dict_reverseitemiterator","odict_iterator","itertools.zip_longest","itertools.pairwise"].contains n && vs[0]? == some (c6 _))=true then _ else _) Q E s
       rw [if_neg (by intro h;rw [hn,Bool.false_and] at h;cases h)]
       exact wpAny_pure hQ))
noncomputable def Itl (K:ah) (a:Addr):It :=
 ⟨λi H=>∃xs x,SqL K H a xs/\xs[i]? = some x,λi H x H'=>H'=H/\∀xs,SqL K H a xs->xs[i]? = some x,λi H=>∃xs,SqL K H a xs/\xs.length<=i⟩
noncomputable def Itt (K:ah) (a:Addr):It :=
 ⟨λi H=>∃xs x,SqT K H a xs/\xs[i]? = some x,λi H x H'=>H'=H/\∀xs,SqT K H a xs->xs[i]? = some x,λi H=>∃xs,SqT K H a xs/\xs.length<=i⟩
noncomputable def Itr (lo:Int) (n:Nat):It:=⟨λi _=>i<n,λi H x H'=>H'=H/\x = .int (lo+i),λi _=>n<=i⟩
theorem Vc {K:ah}(a it:Addr):Turn P w K tg (Itl K a) [it] it (λi h=>h.IsListIter it a i) where
 mem:=by simp
 obj:=λi h st b hb=>by
  have e:b=it:=by simpa using hb
  subst e
  obtain ⟨o,e,c,d⟩:=st
  exact ⟨o,e,λv z=>by rw [d] at z;cases z⟩
 keep:=λi h h' st k=>st.at λo e=>k it (by simp) o e
 item:=by
  intro X hP hw hK hc i pins s σ H E I hf st hg
  subst hP hw hK
  obtain ⟨xs,x,hq,hx⟩:=hg
  obtain ⟨its,rv,p,hz⟩:=I.list hq
  obtain ⟨u,hu,ru⟩:=rv.get hx
  obtain ⟨f0,f1,f2,f3,f4,f5⟩:=hf it (by simp)
  refine lX st p.isList (x:=u) (by simpa using hu) λh' st' sb=>?_
  have I1:Inv X pins σ H { s with heap:=h' }:=I.turned (t':=s.toks) (λb o hb e=>(sb.2 b hb).trans e) f0 f1 f3 f4 f5
  obtain ⟨o,e,c,d⟩:=id st'
  exact ⟨u,rfl,Xo (s:={ s with heap:=h' }) e c d ⋯ ⟨x,H,I1,ru,⟨rfl,λys hy=>by rw [I.list_inj hy hq];exact hx⟩,st',λb hb=>(hf b hb).1⟩⟩
 done:=by
  intro X hP hw hK hc i pins s σ H E I hf st hg
  subst hP hw hK
  obtain ⟨xs,hq,hx⟩:=hg
  obtain ⟨its,rv,p,hz⟩:=I.list hq
  obtain ⟨f0,f1,f2,f3,f4,f5⟩:=hf it (by simp)
  have hl:=rv.length
  exact wpAny_pyNext_list_end (I.ok.hd hc) st p.isList (by simp;omega) λh' eb=>⟨rfl,I.turned (t':=s.toks) (λb o hb e=>eb b o hb e) f0 f1 f3 f4 f5⟩
 self:=λ_ _ _ _ _ st h=>my st h
theorem Z0 {K:ah}(a it:Addr):Turn P w K tg (Itt K a) [it] it (λi h=>h.IsTupleIter it a i) where
 mem:=by simp
 obj:=λi h st b hb=>by
  have e:b=it:=by simpa using hb
  subst e
  obtain ⟨o,e,c,d⟩:=st
  exact ⟨o,e,λv z=>by rw [d] at z;cases z⟩
 keep:=λi h h' st k=>st.at λo e=>k it (by simp) o e
 item:=by
  intro X hP hw hK hc i pins s σ H E I hf st hg
  subst hP hw hK
  obtain ⟨xs,x,hq,hx⟩:=hg
  obtain ⟨its,rv,p,hz⟩:=I.tuple hq
  obtain ⟨u,hu,ru⟩:=rv.get hx
  obtain ⟨f0,f1,f2,f3,f4,f5⟩:=hf it (by simp)
  refine wpAny_pyNext_tuple_item st (show s.heap.IsTuple a its.toArray from p) (x:=u) (by simpa using hu) λh' st' sb=>?_
  have I1:Inv X pins σ H { s with heap:=h' }:=I.turned (t':=s.toks) (λb o hb e=>(sb.2 b hb).trans e) f0 f1 f3 f4 f5
  obtain ⟨o,e,c,d⟩:=id st'
  exact ⟨u,rfl,Xo (s:={ s with heap:=h' }) e c d ⋯ ⟨x,H,I1,ru,⟨rfl,λys hy=>by rw [I.tuple_inj hy hq];exact hx⟩,st',λb hb=>(hf b hb).1⟩⟩
 done:=by
  intro X hP hw hK hc i pins s σ H E I hf st hg
  subst hP hw hK
  obtain ⟨xs,hq,hx⟩:=hg
  obtain ⟨its,rv,p,hz⟩:=I.tuple hq
  obtain ⟨f0,f1,f2,f3,f4,f5⟩:=hf it (by simp)
  have hl:=rv.length
  exact wpAny_pyNext_tuple_end (I.ok.hd hc) st (show s.heap.IsTuple a its.toArray from p) (by simp;omega) λh' eb=>⟨rfl,I.turned (t':=s.toks) (λb o hb e=>eb b o hb e) f0 f1 f3 f4 f5⟩
 self:=λ_ _ _ _ _ st h=>wpAny_pyIter_tupleiter st h
theorem Zn {K:ah}(it:Addr) (lo:Int) (n:Nat):Turn P w K tg (Itr lo n) [it] it (λi h=>IsRangeIter h it (lo+(i:Nat)*1) ((n:Int)-(i:Nat)) 1) where
 mem:=by simp
 obj:=λi h st b hb=>by
  have e:b=it:=by simpa using hb
  subst e
  exact ⟨_,st,λv z=>by
   have z':pV _=mZ v:=z
   cases z'⟩
 keep:=λi h h' st k=>k it (by simp) _ st
 item:=by
  intro X hP hw hK hc i pins s σ H E I hf st hg
  subst hP hw hK
  obtain ⟨f0,f1,f2,f3,f4,f5⟩:=hf it (by simp)
  have W:=Walks.range (prog:=X.prog) (w:=X.w) (I.ok.hd hc) it lo 1 n
  refine W.item i s _ _ hg st λv h' tk hv st' kk=>?_
  obtain ⟨t,rfl⟩:=hv
  have I1:Inv X pins σ H { s with heap:=h',toks:=tk }:=I.turned (λb o hb e=>kk b o (by simpa using hb) e) f0 f1 f3 f4 f5
  refine ⟨_,rfl,Xo (s:={ s with heap:=h',toks:=tk }) (n:="range_iterator") st' rfl rfl ⋯ ⟨.int (lo+i),H,I1,⟨t,?_⟩,⟨rfl,rfl⟩,st',λb hb=>(hf b hb).1⟩⟩
  rw [Int.mul_one]
 done:=by
  intro X hP hw hK hc i pins s σ H E I hf st hg
  subst hP hw hK
  obtain ⟨f0,f1,f2,f3,f4,f5⟩:=hf it (by simp)
  exact wpAny_pyNext_range_end (I.ok.hd hc) st (by have:n<=i:=hg;omega) λh' eb=>⟨rfl,I.turned (t':=s.toks) (λb o hb e=>eb b o hb e) f0 f1 f3 f4 f5⟩
 self:=λ_ _ _ _ _ st h=>wpAny_pyIter_rangeiter st h
end L2
namespace L2
section
variable {X:Cx}{tg:Expr}
noncomputable def Y9 (K:ah) (tl:TE):TI:=λσ H R=>tl σ H λx H1=>∃a,x = .ref a/\(∃xs,SqL K H1 a xs)/\R (Itl K a) H1
noncomputable def Ea (K:ah) (tl:TE):TI:=λσ H R=>tl σ H λx H1=>∃a,x = .ref a/\(∃xs,SqT K H1 a xs)/\R (Itt K a) H1
theorem UN (hl:PE X l tl):PI X tg l (Y9 X.K tl):=by
 intro pins s σ H R I h
 refine thn (hl pins s σ H _ I h) λv s1 ⟨x,H1,I1,r1,q1⟩=>?_
 obtain ⟨a,e,⟨xs,hq⟩,q⟩:=q1
 subst e
 cases r1
 obtain ⟨its,rv,p,hz⟩:=I1.list hq
 refine eS p.isList ?_
 refine ⟨s1.heap.objs.size,[s1.heap.objs.size],_,_,H1,rfl,I1.kept (t':=s1.toks) λb o e=>aj _ e,Vc a _,⟨_,aA _ rfl,rfl,rfl⟩,λb hb=>?_,q⟩
 have e:b=s1.heap.objs.size:=by simpa using hb
 subst e
 exact I1.fpOk (av _) (I1.hok.fresh (av _))
theorem Wq (hl:PE X l tl):PI X tg l (Ea X.K tl):=by
 intro pins s σ H R I h
 refine thn (hl pins s σ H _ I h) λv s1 ⟨x,H1,I1,r1,q1⟩=>?_
 obtain ⟨a,e,⟨xs,hq⟩,q⟩:=q1
 subst e
 cases r1
 obtain ⟨its,rv,p,hz⟩:=I1.tuple hq
 refine nR (show s1.heap.IsTuple a its.toArray from p) ?_
 refine ⟨s1.heap.objs.size,[s1.heap.objs.size],_,_,H1,rfl,I1.kept (t':=s1.toks) λb o e=>aj _ e,Z0 a _,⟨_,aA _ rfl,rfl,rfl⟩,λb hb=>?_,q⟩
 have e:b=s1.heap.objs.size:=by simpa using hb
 subst e
 exact I1.fpOk (av _) (I1.hok.fresh (av _))
theorem XM {R:It->Hp->Prop}{lo hi:Int}{tk:Nat}(I:Inv X pins σ H s) (h1 : -(2 ^ 62)<=lo) (h2:lo<2 ^ 62) (h3 : -(2 ^ 62)<=hi) (h4:hi<2 ^ 62)
  (q:R (Itr lo (hi-lo).toNat) H):az ↥6 X.A (lB ↥19) (PIE X pins σ tg R) E { s with heap:=s.heap.push { cls:=.type "range",data:=.fields #[.int lo t,.int hi u,.int 1 v] },toks:=tk }:=by
 refine wpAny_pyIter_range (IsRange.new ..) (small_one h1 h2 h3 h4) ?_
 have I1:Inv X pins σ H { s with heap:=s.heap.push { cls:=.type "range",data:=.fields #[.int lo t,.int hi u,.int 1 v] },toks:=tk }:=I.kept λb o e=>aj _ e
 refine ⟨(↥85).objs.size,[(↥85).objs.size],_,_,H,rfl,
  I1.kept (t':=tk) λb o e=>aj _ e,Zn _ lo (hi-lo).toNat,?_,λb hb=>?_,q⟩
 ·have e1:lo+((0:Nat):Int)*1=lo:=by simp
  have e2:(((hi-lo).toNat:Nat):Int)-((0:Nat):Int)=Builtin.Range.rangeSize lo hi 1:=by rw [rangeSize_one];split <;> omega
  show IsRangeIter _ _ (lo+((0:Nat):Int)*1) ((((hi-lo).toNat:Nat):Int)-((0:Nat):Int)) 1
  rw [e1,e2]
  exact aA _ rfl
 ·have e:b=(↥85).objs.size:=by simpa using hb
  subst e
  exact I1.fpOk (av _) (I1.hok.fresh (av _))
noncomputable def GY (ta:TA):TI:=λσ H R=>ta σ H λvs H1=>∃j:Int,vs=[.int j] /\ -(2 ^ 62)<=j/\j<2 ^ 62/\R (Itr 0 j.toNat) H1
noncomputable def GU (ta:TA):TI:=λσ H R=>ta σ H λvs H1=>∃i j:Int,vs=[.int i,.int j]/\(-(2 ^ 62)<=i/\i<2 ^ 62 /\ -(2 ^ 62)<=j/\j<2 ^ 62)/\R (Itr i (j-i).toNat) H1
theorem qI {a:Expr}{p:Pos}(hg:Gl X "range") (hm:X.mg "range" = none) (ha:PA X [a] ta) (hs:aJ [a] X.env=[(false,eval a X.env)]:=by rfl):PI X tg (.Call (.Name "range" p) [a] [] pos) (GY ta):=by
 intro pins s σ H R I h
 refine Call_ (vh I hg hm boot_range (cH (thn ↥67 λus s1 ⟨vs,H1,I1,r1,q1⟩=>?_) hs rfl))
 obtain ⟨j,e,q1,q2,q⟩:=q1
 subst e
 cases r1 with
 | cons r rr =>
  cases rr
  obtain ⟨t,rfl⟩:=r
  exact call_range_1 (XM I1 ∅ ∅ q1 q2 (by simpa using q))
theorem Yy {a b:Expr}{p:Pos}(hg:Gl X "range") (hm:X.mg "range" = none) (ha:PA X [a,b] ta) (hs:aJ [a,b] X.env=[(false,eval a X.env),(false,eval b X.env)]:=by rfl) (hs2:aJ [b] X.env=[(false,eval b X.env)]:=by rfl) :
  PI X tg (.Call (.Name "range" p) [a,b] [] pos) (GU ta):=by
 intro pins s σ H R I h
 refine Call_ (vh I hg hm boot_range (cH (thn ↥67 λus s1 ⟨vs,H1,I1,r1,q1⟩=>?_) (by rw [hs,hs2]) (by rw [hs2];rfl)))
 obtain ⟨i,j,e,⟨q1,q2,q3,q4⟩,q⟩:=q1
 subst e
 cases r1 with
 | cons r rr =>
  cases rr with
  | cons r' rr =>
   cases rr
   obtain ⟨t,rfl⟩:=r
   obtain ⟨t',rfl⟩:=r'
   exact call_range_2 (XM I1 q1 q2 q3 q4 q)
noncomputable def tFor (wi:TI) (g:TG) (tb:TS):TS:=λD σ H=>wi σ H λJ H1=>∃W:Nat->Nat->St->Hp->Prop,(∃m,W 0 m σ H1)/\∀i m σ H,W i m σ H ->
 (J.stop i H/\D.nx σ H)\/(J.go i H/\∃N:St->Hp->Prop,↥23/\∀x H',J.yld i H x H'->g x σ H' λσ2 H2=>tb { D with nx:=N,ct:=N,bk:=D.nx } σ2 H2)
noncomputable def zi (fp:List Addr) (h:Heap):List (Addr×Obj):=fp.filterMap λb=>(h.get? b).map λo=>(b,o)
theorem qE {fp:List Addr}{h:Heap}{b:Addr}(hb:b∈fp) (e:h.get? b=some o):(b,o)∈zi fp h:=List.mem_filterMap.mpr ⟨b,hb,by rw [e];rfl⟩
theorem YW {p:Addr×Obj}(hp:p∈zi fp h):p.1∈fp/\h.get? p.1=some p.2:=by
 obtain ⟨b,hb,e⟩:=List.mem_filterMap.mp hp
 cases q:h.get? b with
 | none=>rw [q] at e;cases e
 | some o =>
  rw [q] at e
  have e':(b,o)=p:=aI e
  subst e'
  exact ⟨hb,q⟩
theorem Inv.pinned {fp:List Addr}(I:Inv X pins σ H s) (hf:∀b∈fp,yJ X pins H b) (ho:∀b∈fp,∃o,s.heap.get? b=some o/\∀v,o.data≠.cell v):Inv X (pins++zi fp s.heap) σ H s :=
 I.pins_of λp hp=>(List.mem_append.mp hp).elim (λz=>I.pin p (aD _ z)) λz=>by
  obtain ⟨hb,e⟩:=YW z
  obtain ⟨f0,f1,f2,_⟩:=hf p.1 hb
  obtain ⟨o,e',d⟩:=ho p.1 hb
  rw [e] at e';cases e'
  exact ⟨e,f0,f1,f2,d⟩
theorem Inv.unpinned {pins pl:List (Addr×Obj)}(I:Inv X (pins++pl) σ H s):Inv X pins σ H s:=I.pins_of λp hp=>I.pin p (aD _ (cB _ hp))
theorem xk (hp:PassesOwn ↥6 X.A X.env X.xe) (hc:X.calm=true) (hi:PI X tg iter wi) (hg:PG X tg g) (hb:PSs X body tb)
  (hs:∀x,cq iter X.env x=pure x:=by intro _;rfl):PS X (.For tg iter body [] pos) (tFor wi g tb):=by
 intro pins s σ H D I h
 refine wpAny_For ↥76 hs
 obtain ⟨it,fp,tn,J,H2,e,I2,T,st2,f2,W,⟨m0,w0⟩,turn⟩:=h2
 subst e
 have stat:∀{H':Hp},↥65->∀b∈fp,yJ X pins H' b:=λhn b hb=>⟨hn b hb,(f2 b hb).2⟩
 refine codeAny_forLoop_any (λn s'=>∃i σ' H',Inv X pins σ' H' s'/\tn i s'.heap/\ ↥65/\W i n σ' H') ?_ m0 ⟨0,σ,H2,I2,st2,λb hb=>(f2 b hb).1,w0⟩
 rintro n s3 ⟨i,σ3,H3,I3,st3,fr3,w3⟩
 rcases turn i n σ3 H3 w3 with ⟨stop,qn⟩ | ⟨go,N,hN,step⟩
 ·refine dE hp (thn (T.done X rfl rfl rfl hc i pins s3 σ3 H3 X.xe I3 (stat fr3) st3 stop) λr s4 ⟨hr,I4⟩=>?_)
  subst hr
  exact fF ⟨σ3,H3,I4,qn⟩
 ·refine dE hp (thn (T.item X rfl rfl rfl hc i pins s3 σ3 H3 X.xe I3 (stat fr3) st3 go) λr s4 ⟨u,hr,h4⟩=>?_)
  subst hr
  refine dE hp (thn h4 λ_ s5 ⟨x,H5,I5,r5,y5,st5,fr5⟩=>?_)
  have I5':=I5.pinned (stat fr5) (T.obj _ _ st5)
  refine dE hp (thn (hg _ s5 σ3 H5 x u _ I5' r5 (step x H5 y5)) λ_ s6 ⟨σ6,H6,I6,q6⟩=>?_)
  refine dE hp (thn (hb _ s6 σ6 H6 _ I6 q6) λf s7 q7=>?_)
  have again:∀{σ7:St} {H7:Hp},Inv X (pins++zi fp s5.heap) σ7 H7 s7->N σ7 H7->∃m,m<n/\∃i σ' H',Inv X pins σ' H' s7/\tn i s7.heap/\ ↥65/\W i m σ' H':=λ{σ7 H7} I7 n7=>by
   obtain ⟨m',hm,w7⟩:=hN σ7 H7 n7
   refine ⟨m',hm,i+1,σ7,H7,I7.unpinned,T.keep _ _ _ st5 λb hb o e=>(I7.pin (b,o) (aD _ (aD _ (qE hb e)))).1,λb hb=>?_,w7⟩
   obtain ⟨o,e,d⟩:=T.obj _ _ st5 b hb
   exact (I7.pin (b,o) (aD _ (aD _ (qE hb e)))).2.1
  cases f with
  | next=>obtain ⟨σ7,H7,I7,n7⟩:=q7;exact again I7 n7
  | cont=>obtain ⟨σ7,H7,I7,n7⟩:=q7;exact again I7 n7
  | brk=>obtain ⟨σ7,H7,I7,q7⟩:=q7;exact ⟨σ7,H7,I7.unpinned,q7⟩
  | ret v=>obtain ⟨x7,σ7,H7,I7,r7,q7⟩:=q7;exact ⟨x7,σ7,H7,I7.unpinned,r7,q7⟩
end
theorem Xu {K:ah}{xs:List V}{g:TG}{tb:TS}{D:Ends}{σ:St}{H:Hp}(Pv:Nat->St->Hp->Prop) (h0:Pv 0 σ H) (hl:∀i σ H,i<=xs.length->Pv i σ H->SqL K H a xs)
  (hs:∀i x σ H,xs[i]? = some x->Pv i σ H->g x σ H λσ2 H2=>tb { D with nx:=Pv (i+1),ct:=Pv (i+1),bk:=D.nx } σ2 H2) (hd:∀σ H,Pv xs.length σ H->D.nx σ H) :
  ∃W:Nat->Nat->St->Hp->Prop,↥84/\∀i m σ H,W i m σ H ->
   ((Itl K a).stop i H/\D.nx σ H)\/((Itl K a).go i H/\∃N:St->Hp->Prop,↥23/\∀x H',(Itl K a).yld i H x H'->g x σ H' λσ2 H2=>tb { D with nx:=N,ct:=N,bk:=D.nx } σ2 H2):=by
 refine ⟨λi m σ H=>m=xs.length-i/\i<=xs.length/\Pv i σ H,⟨xs.length,by simp,aP _,h0⟩,?_⟩
 rintro i m σ H ⟨rfl,hi,p⟩
 have q:=hl i σ H hi p
 by_cases hlt:i<xs.length
 ·refine .inr ⟨⟨xs,xs[i],q,by simp [hlt]⟩,Pv (i+1),λσ' H' p'=>⟨xs.length-(i+1),∅,rfl,hlt,p'⟩,λx H' y=>?_⟩
  obtain ⟨e,y⟩:=y
  subst e
  exact hs i x σ _ (y xs q) p
 ·have e:i=xs.length:=∅
  subst e
  exact .inl ⟨⟨xs,q,av _⟩,hd σ H p⟩
theorem Yl {K:ah}{xs:List V}{g:TG}{tb:TS}{D:Ends}{σ:St}{H:Hp}(Pv:Nat->St->Hp->Prop) (h0:Pv 0 σ H) (hl:∀i σ H,i<=xs.length->Pv i σ H->SqT K H a xs)
  (hs:∀i x σ H,xs[i]? = some x->Pv i σ H->g x σ H λσ2 H2=>tb { D with nx:=Pv (i+1),ct:=Pv (i+1),bk:=D.nx } σ2 H2) (hd:∀σ H,Pv xs.length σ H->D.nx σ H) :
  ∃W:Nat->Nat->St->Hp->Prop,↥84/\∀i m σ H,W i m σ H ->
   ((Itt K a).stop i H/\D.nx σ H)\/((Itt K a).go i H/\∃N:St->Hp->Prop,↥23/\∀x H',(Itt K a).yld i H x H'->g x σ H' λσ2 H2=>tb { D with nx:=N,ct:=N,bk:=D.nx } σ2 H2):=by
 refine ⟨λi m σ H=>m=xs.length-i/\i<=xs.length/\Pv i σ H,⟨xs.length,by simp,aP _,h0⟩,?_⟩
 rintro i m σ H ⟨rfl,hi,p⟩
 have q:=hl i σ H hi p
 by_cases hlt:i<xs.length
 ·refine .inr ⟨⟨xs,xs[i],q,by simp [hlt]⟩,Pv (i+1),λσ' H' p'=>⟨xs.length-(i+1),∅,rfl,hlt,p'⟩,λx H' y=>?_⟩
  obtain ⟨e,y⟩:=y
  subst e
  exact hs i x σ _ (y xs q) p
 ·have e:i=xs.length:=∅
  subst e
  exact .inl ⟨⟨xs,q,av _⟩,hd σ H p⟩
theorem yn {lo:Int}{n:Nat}{g:TG}{tb:TS}{D:Ends}{σ:St}{H:Hp}(Pv:Nat->St->Hp->Prop) (h0:Pv 0 σ H)
  (hs:∀i σ H,i<n->Pv i σ H->g (.int (lo+i)) σ H λσ2 H2=>tb { D with nx:=Pv (i+1),ct:=Pv (i+1),bk:=D.nx } σ2 H2) (hd:∀σ H,Pv n σ H->D.nx σ H) :
  ∃W:Nat->Nat->St->Hp->Prop,↥84/\∀i m σ H,W i m σ H ->
   ((Itr lo n).stop i H/\D.nx σ H)\/((Itr lo n).go i H/\∃N:St->Hp->Prop,↥23/\∀x H',(Itr lo n).yld i H x H'->g x σ H' λσ2 H2=>tb { D with nx:=N,ct:=N,bk:=D.nx } σ2 H2):=by
 refine ⟨λi m σ H=>m=n-i/\i<=n/\Pv i σ H,⟨n,by simp,aP _,h0⟩,?_⟩
 rintro i m σ H ⟨rfl,hi,p⟩
 by_cases hlt:i<n
 ·refine .inr ⟨hlt,Pv (i+1),λσ' H' p'=>⟨n-(i+1),∅,rfl,hlt,p'⟩,λx H' y=>?_⟩
  obtain ⟨e,y⟩:=y
  subst e y
  exact hs i σ _ hlt p
 ·have e:i=n:=∅
  subst e
  exact .inl ⟨av _,hd σ H p⟩
theorem QX {c:TT}{tb:TS}{D:Ends}{σ:St}{H:Hp}(Pv:St->Hp->Prop) (μ:St->Hp->Nat) (h0:Pv σ H)
  (hs:∀σ H,Pv σ H->c σ H λb H1=>if b=true then tb { D with nx:=λσ' H'=>Pv σ' H'/\μ σ' H'<μ σ H,ct:=λσ' H'=>Pv σ' H'/\μ σ' H'<μ σ H,bk:=D.nx } σ H1 else D.nx σ H1)
  (mono:∀σ H Q Q',(∀b H1,Q b H1->Q' b H1)->c σ H Q->c σ H Q'):Vh c tb D σ H:=by
 refine ⟨λm σ H=>m=μ σ H/\Pv σ H,⟨_,rfl,h0⟩,?_⟩
 rintro m σ H ⟨rfl,p⟩
 refine mono σ H _ _ (λb H1 q=>?_) (hs σ H p)
 cases b with
 | true=>exact ⟨_,λσ' H' ⟨p',l⟩=>⟨_,l,rfl,p'⟩,q⟩
 | false=>exact q
end L2
namespace L2
noncomputable abbrev R2:=V->V->Hp->VK->Prop
noncomputable def OpR (X:Cx) (f:ak->ak->Sem ak) (r:R2):Prop :=
 ∀(pins:List (Addr×Obj)) (s:Shared) (σ:St) (H:Hp) (x y:V) (v u:ak) (Q:VK),Inv X pins σ H s->jK x v->jK y u->r x y H Q ->
  az ↥6 X.A (f v u) ↥73 X.xe s
noncomputable def UnR (X:Cx) (f:ak->Sem ak) (r:V->Hp->VK->Prop):Prop :=
 ∀(pins:List (Addr×Obj)) (s:Shared) (σ:St) (H:Hp) (x:V) (v:ak) (Q:VK),Inv X pins σ H s->jK x v->r x H Q ->
  az ↥6 X.A (f v) ↥73 X.xe s
noncomputable def qO (X:Cx) (f:ak) (r:List V->Hp->VK->Prop):Prop :=
 ∀(pins:List (Addr×Obj)) (s:Shared) (σ:St) (H:Hp) (xs:List V) (us:List ak) (Q:VK),Inv X pins σ H s->jJ xs us->r xs H Q ->
  az ↥6 X.A (call f us) ↥73 X.xe s
noncomputable def tOp (r:R2) (ta tb:TE):TE:=λσ H Q=>ta σ H λx H1=>tb σ H1 λy H2=>r x y H2 Q
noncomputable def tUn (r:V->Hp->VK->Prop) (ta:TE):TE:=λσ H Q=>ta σ H λx H1=>r x H1 Q
noncomputable def rI (C:Int->Int->Prop) (g:Int->Int->V):R2:=λx y H Q=>∃i j,x = .int i/\y = .int j/\C i j/\Q (g i j) H
noncomputable def rI0 (g:Int->Int->V):R2:=λx y H Q=>∃i j,x = .int i/\y = .int j/\Q (g i j) H
noncomputable def rU (g:Int->V):V->Hp->VK->Prop:=λx H Q=>∃i,x = .int i/\Q (g i) H
section
variable {X:Cx}{a b c:Expr}{ta tb tc:TE}{pos:Pos}
theorem WJ (ha:PE X a ta) (hb:PE X b tb) {s:Shared}{σ:St}{R:V->V->Hp->Prop}(I:Inv X pins σ H s)
  (h:ta σ H λx H1=>tb σ H1 λy H2=>R x y H2) {Q:ak->Shared->Prop} {f:ak->ak->Sem ak}
  (hf:∀v u s2 x y H2,Inv X pins σ H2 s2->jK x v->jK y u->R x y H2->az ↥6 X.A (f v u) Q X.xe s2) :
  az ↥6 X.A (eval a X.env) (λv s₁=>az ↥6 X.A (eval b X.env) (λu s₂=>az ↥6 X.A (f v u) Q X.xe s₂) X.xe s₁) X.xe s:=by
 refine thn ↥78 λv s1 ⟨x,H1,I1,r1,q1⟩=>?_
 refine thn (hb pins s1 σ H1 _ I1 q1) λu s2 ⟨y,H2,I2,r2,q2⟩=>?_
 exact hf v u s2 x y H2 I2 r1 r2 q2
theorem jv (ho:OpR X (eC op) r) (ha:PE X a ta) (hb:PE X b tb):PE X (.BinOp a op b pos) (tOp r ta tb):=by
 intro pins s σ H Q I h
 exact wpAny_BinOp (WJ ha hb I h λv u s2 x y H2 I2 rx ry q=>ho pins s2 σ H2 x y v u Q I2 rx ry q)
theorem Yp (ho:UnR X (unaryOp op) r) (ha:PE X a ta):PE X (.UnaryOp op a pos) (tUn r ta):=by
 intro pins s σ H Q I h
 exact UnaryOp_ (thn ↥78 λv s1 ⟨x,H1,I1,r1,q1⟩=>ho pins s1 σ H1 x v Q I1 r1 q1)
theorem opI {f:ak->ak->Sem ak}{C:Int->Int->Prop}{g:Int->Int->Int}
  (rule:∀(i j:Int) (t u:Tok) (s:Shared) (Q:ak->Shared->Prop) (E:ak->Shared->Prop),C i j->Q (.int (g i j) s.toks) { s with toks:=s.toks+1 }->az ↥6 X.A (f (.int i t) (.int j u)) Q E s) :
  OpR X f (rI C λi j=>.int (g i j)):=by
 intro pins s σ H x y v u Q I rx ry h
 obtain ⟨i,j,rfl,rfl,hc,q⟩:=h
 obtain ⟨t,rfl⟩:=rx
 obtain ⟨t',rfl⟩:=ry
 exact rule i j t t' s _ _ hc ⟨.int (g i j),H,I.tok _,⟨_,rfl⟩,q⟩
theorem E2 {f:ak->ak->Sem ak}{g:Int->Int->Int}
  (rule:∀(i j:Int) (t u:Tok) (s:Shared) (Q:ak->Shared->Prop) (E:ak->Shared->Prop),Q (.int (g i j) s.toks) { s with toks:=s.toks+1 }->az ↥6 X.A (f (.int i t) (.int j u)) Q E s) :
  OpR X f (rI0 λi j=>.int (g i j)):=by
 intro pins s σ H x y v u Q I rx ry h
 obtain ⟨i,j,rfl,rfl,q⟩:=h
 obtain ⟨t,rfl⟩:=rx
 obtain ⟨t',rfl⟩:=ry
 exact rule i j t t' s _ _ ⟨.int (g i j),H,I.tok _,⟨_,rfl⟩,q⟩
theorem UD {f:ak->ak->Sem ak}{g:Int->Int->Bool}
  (rule:∀(i j:Int) (t u:Tok) (s:Shared) (Q:ak->Shared->Prop) (E:ak->Shared->Prop),Q (.bool (g i j)) s->az ↥6 X.A (f (.int i t) (.int j u)) Q E s) :
  OpR X f (rI0 λi j=>.bl (g i j)):=by
 intro pins s σ H x y v u Q I rx ry h
 obtain ⟨i,j,rfl,rfl,q⟩:=h
 obtain ⟨t,rfl⟩:=rx
 obtain ⟨t',rfl⟩:=ry
 exact rule i j t t' s _ _ ⟨.bl (g i j),H,I,rfl,q⟩
noncomputable def Gm (i j:Int):Prop:=0<j/\j<1073741824
noncomputable def GV (i j:Int):Prop:=0<=j/\j<=1000000/\i.natAbs<2 ^ 64
noncomputable def Ud (i j:Int):Prop:=(-(2 ^ 64)<i/\i<2 ^ 64)\/(-(2 ^ 64)<j/\j<2 ^ 64)
theorem Ud.ok {i j:Int}(h:Ud i j):IntMulOk i j:=by
 rcases h with ⟨h1,h2⟩ | ⟨h1,h2⟩
 ·exact .of_left (sA h1 h2)
 ·exact .of_right (sA h1 h2)
theorem qr:OpR X (eC .Add) (rI0 λi j=>.int (i+j)):=E2 λ_ _ _ _ _ _ _ q=>add_int q
theorem yw:OpR X (eC .Sub) (rI0 λi j=>.int (i-j)):=E2 λ_ _ _ _ _ _ _ q=>sub_int q
theorem uQ:OpR X (eC .Mult) (rI Ud λi j=>.int (i*j)):=opI λ_ _ _ _ _ _ _ hc q=>mul_int q hc.ok
theorem W8:OpR X (eC .FloorDiv) (rI Gm λi j=>.int (i / j)):=opI λi j _ _ _ _ _ hc q=>by
 have h1:(0:Int)<j:=hc.1
 have h2:j<1073741824:=hc.2
 exact floordiv_int ∅ (by rw [iS i ∅];exact q) (.inl (PyProof.noPylong_small ∅))
theorem zh:OpR X (eC .Mod) (rI (λ_ j=>0<j) λi j=>.int (i % j)):=opI λi j _ _ _ _ _ hc q=>by
 have h1:(0:Int)<j:=hc
 exact mod_int' ∅ (by rw [Int.fmod_eq_emod_of_nonneg i ∅];exact q)
theorem Qk:OpR X (eC .Pow) (rI GV λi j=>.int (i ^ j.toNat)):=opI λ_ _ _ _ _ _ _ hc q=>pow_int_small hc.1 hc.2.1 hc.2.2 q
theorem unI {f:ak->Sem ak}{g:Int->Int}
  (rule:∀(i:Int) (t:Tok) (s:Shared) (Q:ak->Shared->Prop) (E:ak->Shared->Prop),Q (.int (g i) s.toks) { s with toks:=s.toks+1 }->az ↥6 X.A (f (.int i t)) Q E s) :
  UnR X f (rU λi=>.int (g i)):=by
 intro pins s σ H x v Q I rx h
 obtain ⟨i,rfl,q⟩:=h
 obtain ⟨t,rfl⟩:=rx
 exact rule i t s _ _ ⟨.int (g i),H,I.tok _,⟨_,rfl⟩,q⟩
theorem Q9:UnR X (unaryOp .USub) (rU λi=>.int (-i)):=unI λ_ _ _ _ _ q=>neg_int q
end
noncomputable def GO:V->V->Bool
 | .non,.non=>true | .non,.int _=>true | .int _,.non=>true | .non,.bl _=>true | .bl _,.non=>true | .non,.str _=>true | .str _,.non=>true
 | .int _,.int _=>true | .bl _,.bl _=>true | .str _,.str _=>true | .byt _,.byt _=>true
 | .int _,.str _=>true | .str _,.int _=>true | .bl _,.str _=>true | .str _,.bl _=>true
 | _,_=>false
noncomputable def rEq:R2:=λx y H Q=>GO x y=true/\Q (.bl (decide (x=y))) H
noncomputable def rNe:R2:=λx y H Q=>GO x y=true/\Q (.bl (!decide (x=y))) H
theorem ZL {i j:Int}:decide (V.int i=V.int j)=(i == j):=by
 rw [d5]
 simp
theorem Vk {i j:Bool}:decide (V.bl i=V.bl j)=(i == j):=by
 rw [d5]
 simp
theorem ZS :decide (V.str i=V.str j)=(i == j):=by
 rw [d5]
 simp
theorem ZI :decide (V.byt i=V.byt j)=(i.toList == j.toList):=by
 rw [d5]
 cases i
 cases j
 simp
section
variable {X:Cx}{a b c:Expr}{ta tb tc:TE}{pos:Pos}
theorem jY {Q:VK}{k k':Bool}(I:Inv X pins σ H s) (q:Q (.bl k) H) (e:k=k'):EP X pins σ Q (.bool k') s:=by
 subst e
 exact ⟨.bl k,H,I,rfl,q⟩
theorem qC:OpR X (cf .Eq) rEq:=by
 intro pins s σ H x y v u Q I rx ry h
 obtain ⟨hs,q⟩:=h
 cases x with
 | non =>
  cases rx
  cases y with
  | non=>cases ry;exact PySem.EqNone.eq_none_none ↥38
  | bl j=>cases ry;exact PySem.EqNone.eq_none_bool ↥38
  | int j=>obtain ⟨t',rfl⟩:=ry;exact PySem.EqNone.eq_none_int ↥38
  | str j=>obtain ⟨t',rfl⟩:=ry;exact PySem.EqNone.eq_none_str ↥38
  | _=>exact absurd (show false=true from hs) au
 | bl i =>
  cases rx
  cases y with
  | non=>cases ry;exact PySem.EqNone.eq_bool_none ↥38
  | bl j=>cases ry;exact eq_bool (jY I q Vk)
  | str j=>obtain ⟨t',rfl⟩:=ry;exact PySem.EqMixed.eq_bool_str ↥38
  | _=>exact absurd (show false=true from hs) au
 | int i =>
  obtain ⟨t,rfl⟩:=rx
  cases y with
  | non=>cases ry;exact PySem.EqNone.eq_int_none ↥38
  | int j=>obtain ⟨t',rfl⟩:=ry;exact eq_int (jY I q ZL)
  | str j=>obtain ⟨t',rfl⟩:=ry;exact PySem.EqMixed.eq_int_str ↥38
  | _=>exact absurd (show false=true from hs) au
 | str i =>
  obtain ⟨t,rfl⟩:=rx
  cases y with
  | non=>cases ry;exact PySem.EqNone.eq_str_none ↥38
  | bl j=>cases ry;exact PySem.EqMixed.eq_str_bool ↥38
  | int j=>obtain ⟨t',rfl⟩:=ry;exact PySem.EqMixed.eq_str_int ↥38
  | str j=>obtain ⟨t',rfl⟩:=ry;exact eq_str (jY I q ZS)
  | _=>exact absurd (show false=true from hs) au
 | byt i =>
  obtain ⟨t,rfl⟩:=rx
  cases y with
  | byt j=>obtain ⟨t',rfl⟩:=ry;exact PySem.W.eq_bytes (jY I q ZI)
  | _=>exact absurd (show false=true from hs) au
 | _=>cases y <;> exact absurd (show false=true from hs) au
theorem VM:OpR X (cf .NotEq) rNe:=by
 intro pins s σ H x y v u Q I rx ry h
 obtain ⟨hs,q⟩:=h
 cases x with
 | non =>
  cases rx
  cases y with
  | non=>cases ry;exact PySem.EqNone.ne_none_none ↥38
  | bl j=>cases ry;exact PySem.EqNone.ne_none_bool ↥38
  | int j=>obtain ⟨t',rfl⟩:=ry;exact PySem.EqNone.ne_none_int ↥38
  | str j=>obtain ⟨t',rfl⟩:=ry;exact PySem.EqNone.ne_none_str ↥38
  | _=>exact absurd (show false=true from hs) au
 | bl i =>
  cases rx
  cases y with
  | non=>cases ry;exact PySem.EqNone.ne_bool_none ↥38
  | bl j=>cases ry;exact ne_bool (jY I q (congrArg not Vk))
  | str j=>obtain ⟨t',rfl⟩:=ry;exact PySem.EqMixed.ne_bool_str ↥38
  | _=>exact absurd (show false=true from hs) au
 | int i =>
  obtain ⟨t,rfl⟩:=rx
  cases y with
  | non=>cases ry;exact PySem.EqNone.ne_int_none ↥38
  | int j=>obtain ⟨t',rfl⟩:=ry;exact ne_int (jY I q (congrArg not ZL))
  | str j=>obtain ⟨t',rfl⟩:=ry;exact PySem.EqMixed.ne_int_str ↥38
  | _=>exact absurd (show false=true from hs) au
 | str i =>
  obtain ⟨t,rfl⟩:=rx
  cases y with
  | non=>cases ry;exact PySem.EqNone.ne_str_none ↥38
  | bl j=>cases ry;exact PySem.EqMixed.ne_str_bool ↥38
  | int j=>obtain ⟨t',rfl⟩:=ry;exact PySem.EqMixed.ne_str_int ↥38
  | str j=>obtain ⟨t',rfl⟩:=ry;exact ne_str (jY I q (congrArg not ZS))
  | _=>exact absurd (show false=true from hs) au
 | byt i =>
  obtain ⟨t,rfl⟩:=rx
  cases y with
  | byt j=>obtain ⟨t',rfl⟩:=ry;exact PySem.W.ne_bytes (jY I q (congrArg not ZI))
  | _=>exact absurd (show false=true from hs) au
 | _=>cases y <;> exact absurd (show false=true from hs) au
theorem wR:OpR X (cf .Lt) (rI0 λi j=>.bl (decide (i<j))):=UD λ_ _ _ _ _ _ _ q=>lt_int q
theorem qk:OpR X (cf .LtE) (rI0 λi j=>.bl (decide (i<=j))):=UD λ_ _ _ _ _ _ _ q=>le_int q
theorem QM:OpR X (cf .Gt) (rI0 λi j=>.bl (decide (j<i))):=UD λ_ _ _ _ _ _ _ q=>gt_int q
theorem Wg:OpR X (cf .GtE) (rI0 λi j=>.bl (decide (j<=i))):=UD λ_ _ _ _ _ _ _ q=>ge_int q
theorem JO:OpR X (cf .Is) (λx y H Q=>y = .non/\Q (.bl (decide (x = .non))) H):=by
 intro pins s σ H x y v u Q I rx ry h
 obtain ⟨rfl,q⟩:=h
 cases ry
 refine is_none_gen (jY I q ?_)
 cases x <;> first
  | (cases rx;rfl)
  | (obtain ⟨t,rfl⟩:=rx;rfl)
theorem jB (b:Expr) {op:CmpOp}(h:op≠.In:=by decide) (h2:op≠.NotIn:=by decide):eI op b=false:=by
 have e1:(op == CmpOp.In)=false:=by cases op <;> first | rfl | exact absurd rfl h
 have e2:(op == CmpOp.NotIn)=false:=by cases op <;> first | rfl | exact absurd rfl h2
 cases b <;> simp [eI,e1,e2]
theorem zq (ho:OpR X (cf op) r) (ha:PE X a ta) (hb:PE X b tb) (hm:eI op b=false):PE X (.Compare a [op] [b] pos) (tOp r ta tb):=by
 intro pins s σ H Q I h
 exact wpAny_Compare1 (WJ ha hb I h λv u s2 x y H2 I2 rx ry q=>ho pins s2 σ H2 x y v u Q I2 rx ry q) hm
noncomputable def Yh (t:TE):TT:=λσ H Q=>t σ H λx H'=>∃k,x = .bl k/\Q k H'
theorem jr (ho:OpR X (cf op) r) (ha:PE X a ta) (hb:PE X b tb) (hm:eI op b=false):PT X (.Compare a [op] [b] pos) (Yh (tOp r ta tb)):=by
 intro pins s σ H Q I h
 refine mx (thn ↥78 λv s1 ⟨x,H1,I1,r1,q1⟩=>thn (hb pins s1 σ H1 _ I1 q1) λu s2 ⟨y,H2,I2,r2,q2⟩ =>
  thn (ho pins s2 σ H2 x y v u _ I2 r1 r2 q2) λc s3 ⟨z,H3,I3,r3,k,e,q3⟩=>?_) hm
 subst e
 cases r3
 exact bZ ⟨H3,I3,q3⟩
noncomputable def VS (r r':R2) (ta tb tc:TE):TE:=λσ H Q=>ta σ H λx H1=>tb σ H1 λy H2=>r x y H2 λz H3=>∃k,z = .bl k /\
 (if k=true then tc σ H3 λw' H4=>r' y w' H4 Q else Q (.bl false) H3)
theorem xx (ho:OpR X (cf op) r) (ho':OpR X (cf op') r') (ha:PE X a ta) (hb:PE X b tb) (hc:PE X c tc)
  (hm:lastMarks [op,op'] [b,c]=false:=by with_unfolding_all rfl):PE X (.Compare a [op,op'] [b,c] pos) (VS r r' ta tb tc):=by
 intro pins s σ H Q I h
 refine Compare_chain (thn ↥78 λv s1 ⟨x,H1,I1,r1,q1⟩=>chain_link (thn (hb pins s1 σ H1 _ I1 q1) λu s2 ⟨y,H2,I2,r2,q2⟩ =>
  thn (ho pins s2 σ H2 x y v u _ I2 r1 r2 q2) λd s3 ⟨z,H3,I3,r3,k,e,q3⟩=>?_)) hm
 subst e
 cases r3
 refine bZ ?_
 cases k with
 | false=>exact ite_ff ⟨.bl false,H3,I3,rfl,q3⟩
 | true=>exact ite_tt (chain_last (thn (hc pins s3 σ H3 _ I3 q3) λw' s4 ⟨z',H4,I4,r4,q4⟩=>ho' pins s4 σ H4 y z' u w' Q I4 r2 r4 q4))
theorem qS (ho:OpR X (cf op) r) (ho':OpR X (cf op') r') (ha:PE X a ta) (hb:PE X b tb) (hc:PE X c tc)
  (hm:lastMarks [op,op'] [b,c]=false:=by with_unfolding_all rfl):PT X (.Compare a [op,op'] [b,c] pos) (Yh (VS r r' ta tb tc)):=by
 intro pins s σ H Q I h
 refine isTrue_chain (thn ↥78 λv s1 ⟨x,H1,I1,r1,q1⟩=>test_link (thn (hb pins s1 σ H1 _ I1 q1) λu s2 ⟨y,H2,I2,r2,q2⟩ =>
  thn (ho pins s2 σ H2 x y v u _ I2 r1 r2 q2) λd s3 ⟨z,H3,I3,r3,k,e,q3⟩=>?_)) hm
 subst e
 cases r3
 refine bZ ?_
 cases k with
 | false =>
  obtain ⟨k',e',q'⟩:=q3
  cases e'
  exact ite_ff ⟨H3,I3,q'⟩
 | true =>
  refine ite_tt (test_last (thn (hc pins s3 σ H3 _ I3 q3) λw' s4 ⟨z',H4,I4,r4,q4⟩=>thn (ho' pins s4 σ H4 y z' u w' _ I4 r2 r4 q4) λd' s5 ⟨z2,H5,I5,r5,k2,e2,q5⟩=>?_))
  subst e2
  cases r5
  exact bZ ⟨H5,I5,q5⟩
theorem JM:(sizeLine:Nat)<2 ^ 63:=by rw [bH];decide
theorem yk {x:V}(r:jJ [x] us):∃u,us=[u]/\jK x u:=by
 cases r with
 | cons r1 r2=>cases r2;exact ⟨_,rfl,r1⟩
theorem XA {x y:V}(r:jJ [x,y] us):∃u w',us=[u,w']/\jK x u/\jK y w':=by
 cases r with
 | cons r1 r2 =>
  cases r2 with
  | cons r3 r4=>cases r4;exact ⟨_,_,rfl,r1,r3⟩
theorem YX (hc:X.calm=true):qO X (.builtin "max") (λxs H Q=>∃i j,xs=[.int i,.int j]/\Q (.int (if j > i then j else i)) H):=by
 intro pins s σ H xs us Q I r h
 obtain ⟨i,j,rfl,q⟩:=h
 obtain ⟨u,w',rfl,⟨t,rfl⟩,⟨t',rfl⟩⟩:=XA r
 refine max_two_ints (I.ok.hd hc) λh' tk k=>⟨_,H,I.kept k,?_,q⟩
 by_cases hj:j > i
 ·rw [if_pos hj,if_pos hj];exact ⟨_,rfl⟩
 ·rw [if_neg hj,if_neg hj];exact ⟨_,rfl⟩
theorem Jq (hc:X.calm=true):qO X (.builtin "min") (λxs H Q=>∃i j,xs=[.int i,.int j]/\Q (.int (if j<i then j else i)) H):=by
 intro pins s σ H xs us Q I r h
 obtain ⟨i,j,rfl,q⟩:=h
 obtain ⟨u,w',rfl,⟨t,rfl⟩,⟨t',rfl⟩⟩:=XA r
 refine min_two_ints (I.ok.hd hc) λh' tk k=>⟨_,H,I.kept k,?_,q⟩
 by_cases hj:j<i
 ·rw [if_pos hj,if_pos hj];exact ⟨_,rfl⟩
 ·rw [if_neg hj,if_neg hj];exact ⟨_,rfl⟩
theorem gX:qO X (.type "int") (λxs H Q=>(∃i,xs=[.int i]/\Q (.int i) H)\/∃k,xs=[.bl k]/\Q (.int (if k then 1 else 0)) H):=by
 intro pins s σ H xs us Q I r h
 rcases h with ⟨i,rfl,q⟩ | ⟨k,rfl,q⟩
 ·obtain ⟨u,rfl,t,rfl⟩:=yk r
  exact call_int_int ⟨.int i,H,I,⟨_,rfl⟩,q⟩
 ·obtain ⟨u,rfl,r1⟩:=yk r
  cases r1
  exact call_int_bool ⟨.int (if k then 1 else 0),H,I.tok _,⟨_,rfl⟩,q⟩
end
end L2
namespace L2
structure ObjM (h:Heap) (x dx C:Addr) (mA:Str->Option ak):Prop where
 obj:h.get? x=some (cZ C dx)
 ns:h.Ns1 dx mA
 ne:dx≠x
theorem Yx {h:Heap}(n:h.Ns1 dx mA):∃od,h.get? dx=some od/\∀name,iT name od=some (mA name):=by
 obtain ⟨o,es,ep,ho,hd,hk,_,hm⟩:=n
 refine ⟨o,ho,λname=>?_⟩
 have e:=hm name
 unfold nsFind findBy at e
 rw [<- Array.find?_toList] at e
 unfold iT
 rw [hd]
 dsimp only
 split
 ·rename_i y q
  rw [q] at e
  exact congrArg some e
 ·rename_i q
  rw [q] at e
  have a:es.toList.any (·.refKey)=false:=by
   rw [List.any_eq_false]
   intro y hy
   obtain ⟨z,t,hkey⟩:=hk y (Array.mem_toList_iff.mp hy)
   simp [DictEntry.refKey,hkey]
  have a':¬es.toList.any (·.refKey)=true:=by rw [a];exact au
  rw [if_neg a']
  exact congrArg some e
theorem ObjM.look {x dx:Addr}(I:ObjM h x dx C mA):∃od,rO h x (cZ C dx) C (some od)/\∀name,iT name od=some (mA name) :=
 let ⟨od,ho,hl⟩:=Yx I.ns
 ⟨od,⟨I.obj,rfl,rfl,ho⟩,hl⟩
section
variable {prog:Program}{w:bp}{A:br}{E:ak->Shared->Prop}{s:Shared}{K:ah}{x dx C f:Addr}{mA:Str->Option ak}{name:Str}{v:ak}
theorem W3 {expr:Bool}{Q:ak->Shared->Prop}(X:K.In s.heap) (I:ObjM s.heap x dx C mA) (hg:ff K C name=true) (hh:fT K C=true)
  (ha:bG K (.ref C) name=some none) (hv:mA name=some v) (hv':pE v=true) (h:Q v { s with toks:=s.toks+1 }) :
  az (aC prog w) A (getAttr (.ref x) name expr) Q E s:=by
 obtain ⟨od,J,hl⟩:=I.look
 exact PySem.W.get_value X J (iG hg).1 (PySem.W.findObj_own hh ha rfl (by rw [hl,hv])) hv' h
theorem Vu {Q:ak×List ak->Shared->Prop}(X:K.In s.heap) (I:ObjM s.heap x dx C mA) (hg:ff K C name=true)
  (hf:bG K (.ref C) name=some (some (.ref f))) (ht:oC K (.ref f)=true) (hv:mA name=none) (h:Q (.ref f,[.ref x]) s) :
  az (aC prog w) A (i9 (.ref x) name pl) Q E s:=by
 obtain ⟨od,J,hl⟩:=I.look
 exact PySem.W.method_fn X J (iG hg).1 (iG hg).2 hf (beq_iff_eq.mp ht) (by show (iT name od).map (·.isSome)=some false;rw [hl,hv];rfl) h
theorem W4 {Q:Unit->Shared->Prop}(X:K.In s.heap) (I:ObjM s.heap x dx C mA)
  (hs:bG K (.ref C) "__setattr__" = some (some (.builtin "object.__setattr__"))) (hp:lq K C=true) (ht:ml K C name=some none) (hh:fT K C=true)
  (hw:oA mA ns) (hsz:ns.length<=sizeLine)
  (h:∀h',ObjM h' x dx C (λy=>if y=name then some v else mA y)->dY dx s.heap h'->Q () { s with heap:=h',toks:=s.toks+2 }) :
  az (aC prog w) A (setAttr (.ref x) name v) Q E s:=by
 obtain ⟨od,J,hl⟩:=I.look
 refine PySem.W.set_plain X J hs (PySem.W.osa_open (s:={ s with toks:=s.toks+1 }) (r:=none) X J hp ht λb=>?_)
 obtain ⟨cd,hc,hd'⟩:=PySem.W.any_some hh
 have hx:s.heap.get? x=some ⟨.ref C,some dx,.plain,#[]⟩:=I.obj
 refine aa (wpAny_pure (aa (aa (rP hx (aa (PySem.W.Looks.here (s:={ s with toks:=s.toks+1 }) (PySem.W.looks_clsIn X hc) ?_))))))
 rw [hd']
 refine wpAny_pure (a:=some dx) (aa (wpAny_pure (aa ?_)))
 refine wpAny_nsSet1 (s:={ s with toks:=s.toks+1 }) I.ns λh' hn2 hs2=>?_
 obtain ⟨oD,esD,epD,hoD,hdD,hcD⟩:=hn2.count (PySem.Within.cons name v hw)
 refine aa (wpAny_lookBehind hoD (by rw [hdD];exact pastItsLine_dict (aE hcD (by rw [bb];omega))) ?_)
 exact wpAny_pure (h _ ⟨(hs2.2 _ (cG I.ne)).trans I.obj,hn2,I.ne⟩ hs2)
theorem Ui {vs:List ak}{kw:List (Str×ak)}(X:K.In s.heap) (hm:mm K C=true)
  (hi:bG K (.ref C) "__init__" = some (some (.ref f))) (hf:PySem.W.typeIn K (.ref f)=some (.type "function"))
  (h:cW (aC prog w) (A.under (.builtin "type.__call__" ⟨.ref C::vs,kw⟩)) (.call (.ref f) ⟨.ref ↥21::vs,kw⟩) (PySem.W.InitBack ↥21 R)
   { s with heap:=(s.heap.push cu).push (cZ C s.heap.objs.size) }) :
  cW (aC prog w) A (.call (.ref C) ⟨vs,kw⟩) R s:=by
 obtain ⟨hh,g,d,t,os⟩:=s
 exact PySem.W.make_core (PySem.W.makes_of X hm) (PySem.W.looks_findIn X hi) (λself=>PySem.W.bind_fn X self hf) (.inl rfl) h
end
noncomputable def jq (f:Str) (v:V):List (Str×V)->List (Str×V)
 | []=>[(f,v)]
 | (g,x)::r=>if g=f then (g,v)::r else (g,x)::jq f v r
theorem js (f g:Str) (v:V):∀fs:List (Str×V),(jq f v fs).lookup g=if g=f then some v else fs.lookup g
 | []=>by
  show dS g [(f,v)]=_
  by_cases h:g=f
  ·have hb:(g == f)=true:=beq_iff_eq.mpr h
   simp only [dS,hb,if_pos h]
  ·have hb:(g == f)=false:=beq_eq_false_iff_ne.mpr h
   simp only [dS,hb,if_neg h]
 | (k,x)::r=>by
  have ih:=js f g v r
  rw [show jq f v ((k,x)::r)=(if k=f then (k,v)::r else (k,x)::jq f v r) from rfl]
  by_cases hk:k=f
  ·rw [if_pos hk]
   by_cases h:g=k
   ·have hb:(g == k)=true:=beq_iff_eq.mpr h
    simp only [dS,hb,if_pos (h.trans hk)]
   ·have hb:(g == k)=false:=beq_eq_false_iff_ne.mpr h
    simp only [dS,hb,if_neg (λe:g=f=>h (e.trans hk.symm))]
  ·rw [if_neg hk]
   by_cases h:g=k
   ·have hb:(g == k)=true:=beq_iff_eq.mpr h
    simp only [dS,hb,if_neg (λe:g=f=>hk (h.symm.trans e))]
   ·have hb:(g == k)=false:=beq_eq_false_iff_ne.mpr h
    simp only [dS,hb]
    exact ih
theorem uR (f:Str) (v:V):∀fs:List (Str×V),f∈(jq f v fs).map (·.1)/\∀g,g∈fs.map (·.1)->g∈(jq f v fs).map (·.1)
 | []=>⟨by simp [jq],λg h=>by simp at h⟩
 | (k,x)::r=>by
  obtain ⟨i1,i2⟩:=uR f v r
  rw [show jq f v ((k,x)::r)=(if k=f then (k,v)::r else (k,x)::jq f v r) from rfl]
  by_cases hk:k=f
  ·rw [if_pos hk]
   subst hk
   exact ⟨by simp,λg h=>by simpa using h⟩
  ·rw [if_neg hk]
   refine ⟨?_,λg h=>?_⟩
   ·rw [aV]
    exact aH _ i1
   ·rw [aV] at h ⊢
    rcases List.mem_cons.mp h with e | e
    ·exact List.mem_cons.mpr (.inl e)
    ·exact aH _ (i2 g e)
theorem qj (f:Str) (v:V):∀fs:List (Str×V),(jq f v fs).length<=fs.length+1
 | []=>by simp [jq]
 | (k,x)::r=>by
  have ih:=qj f v r
  rw [show jq f v ((k,x)::r)=(if k=f then (k,v)::r else (k,x)::jq f v r) from rfl]
  by_cases hk:k=f
  ·rw [if_pos hk,bb,bb];omega
  ·rw [if_neg hk,bb,bb];omega
theorem yz.some_of (r:yz (some v) o):∃u,o=some u/\jK v u:=by
 cases o with
 | none=>exact (show False from r).elim
 | some u=>exact ⟨u,rfl,r⟩
theorem yz.none_of (r:yz none o):o=none:=by
 cases o with
 | none=>rfl
 | some u=>exact (show False from r).elim
theorem YS (r:jK v u):pE u=true:=by
 cases v with
 | non=>cases (show u=aT from r);rfl
 | bl b=>cases (show u=lV b from r);rfl
 | int i=>obtain ⟨t,e⟩:=(show ∃t,u=iO i t from r);cases e;rfl
 | str x=>obtain ⟨t,e⟩:=(show ∃t,u=lI x t from r);cases e;rfl
 | byt b=>obtain ⟨t,e⟩:=(show ∃t,u=Value.bytes b t from r);cases e;rfl
 | flt b=>obtain ⟨t,e⟩:=(show ∃t,u=pU b t from r);cases e;rfl
 | ref a=>cases (show u=aS a from r);rfl
 | ty n=>cases (show u=i7 n from r);rfl
section
variable {P:Program}{w:bp}{H H':Hp}{h h':Heap}{a C dx:Addr}{fs fs':List (Str×V)}
theorem wN (hok:HOk P w H h) (e:H a=some (.ins C dx fs)):∃mA,ObjM h a dx C mA/\(∀f,yz (fs.lookup f) (mA f))/\oA mA (fs.map (·.1))/\fs.length<=1000/\H dx=some (.own a):=by
 obtain ⟨d,z,ne,ob,mA,n,r,q⟩:=(show qv P w H h a (.ins C dx fs) from hok a _ e)
 exact ⟨mA,⟨ob,n,ne⟩,r,q,z,d⟩
end
structure Cls (K:ah) (C:Addr):Prop where
 pg:ff K C Str.empty=true
 hd:fT K C=true
 po:lq K C=true
 sa:bG K (.ref C) "__setattr__" = some (some (.builtin "object.__setattr__"))
theorem Cls.get {K:ah}(c:Cls K C) (f:Str):ff K C f=true:=c.pg
noncomputable def zK (K:ah) (C:Addr) (f:Str):Prop:=bG K (.ref C) f=some none
theorem zK.taker {K:ah}(n:zK K C f):ml K C f=some none:=by
 unfold ml
 rw [show bG K (.ref C) f=some none from n]
 rfl
structure Meth (K:ah) (C:Addr) (m:Str) (f:Addr):Prop where
 at_:bG K (.ref C) m=some (some (.ref f))
 fn:oC K (.ref f)=true
 kp:bK K (.ref f)=true
section
variable {X:Cx}{pins:List (Addr×Obj)}{σ:St}{H:Hp}{s:Shared}{a C dx:Addr}{fs:List (Str×V)}{f:Str}{v:V}{A:br}{E:ak->Shared->Prop}
theorem Zr {b:Bool}{Q:ak->Shared->Prop}(I:Inv X pins σ H s) (e:H a=some (.ins C dx fs)) (c:Cls X.K C) (n:zK X.K C f) (l:fs.lookup f=some v)
  (h:∀u s',Inv X pins σ H s'->jK v u->Q u s'):az ↥6 A (getAttr (.ref a) f b) Q E s:=by
 obtain ⟨mA,O,r,_,_,_⟩:=wN I.hok e
 obtain ⟨u,hu,ru⟩:=yz.some_of (v:=v) (o:=mA f) (by rw [<- l];exact r f)
 exact W3 I.kIn O (c.get f) c.hd n hu (YS ru) (h u _ (I.tok _) ru)
theorem yG {Q:ak×List ak->Shared->Prop}(I:Inv X pins σ H s) (e:H a=some (.ins C dx fs)) (c:Cls X.K C) (k:Meth X.K C m g) (l:fs.lookup m=none)
  (h:Q (.ref g,[.ref a]) s):az ↥6 A (i9 (.ref a) m pl) Q E s:=by
 obtain ⟨mA,O,r,_,_,_⟩:=wN I.hok e
 have hn:mA m=none:=yz.none_of (by rw [<- l];exact r m)
 exact Vu I.kIn O (c.get m) k.at_ k.fn hn h
theorem Zy {Q:Unit->Shared->Prop}(I:Inv X pins σ H s) (e:H a=some (.ins C dx fs)) (c:Cls X.K C) (n:zK X.K C f) (hl:fs.length<1000) (ry:jK y u)
  (h:∀s',Inv X pins σ (upd H a (.ins C dx (jq f y fs))) s'->Q () s'):az ↥6 A (setAttr (.ref a) f u) Q E s:=by
 obtain ⟨mA,O,r,wi,_,ho⟩:=wN I.hok e
 have hz:(fs.map (·.1)).length<=sizeLine:=by rw [af,bH];omega
 refine W4 I.kIn O c.sa c.po n.taker c.hd wi hz λh' O' sb=>h _ ?_
 have hd:∃o,h'.get? dx=some o:=let ⟨o,_,_,e',_⟩:=O'.ns;⟨o,e'⟩
 refine I.write (x:=a) (e:=dx) (by rw [e];exact cK) (.inr ho) (λb q hb z=>(sb.2 b hb).trans z) hd ?_
 refine ⟨by rw [j9 O.ne];exact ho,?_,O.ne,O'.obj,_,O'.ns,λg=>?_,λg hg=>?_⟩
 ·have:=qj f y fs;omega
 ·show yz ((jq f y fs).lookup g) (if g=f then some u else mA g)
  rw [js]
  by_cases q:g=f
  ·rw [if_pos q,if_pos q];exact ry
  ·rw [if_neg q,if_neg q];exact r g
 ·by_cases q:g=f
  ·rw [q];exact (uR f y fs).1
  ·refine (uR f y fs).2 g (wi g λz=>hg ?_)
   show (if g=f then some u else mA g)=none
   rw [if_neg q];exact z
theorem Inv.made (I:Inv X pins σ H s):Inv X pins σ (upd (upd H s.heap.objs.size (.own ↥21)) ↥21 (.ins C s.heap.objs.size []))
  { s with heap:=(s.heap.push cu).push (cZ C s.heap.objs.size) }:=by
 have e1:(s.heap.push cu).get? s.heap.objs.size=some cu:=aA s.heap rfl
 have e2:((s.heap.push cu).push (cZ C s.heap.objs.size)).get? ↥21=some (cZ C s.heap.objs.size):=by
  have:=aA (s.heap.push cu) (o:=cZ C s.heap.objs.size) rfl
  rwa [cx] at this
 have e3:(s.heap.push cu).Ns s.heap.objs.size (λ_=>none):=⟨cu,#[],_,e1,rfl,(λe he=>absurd he (by simp)),λ_=>rfl⟩
 have I1:=I.laid (a:=s.heap.objs.size) (o:=.own ↥21) (h':=s.heap.push cu) (t':=s.toks) (λb u q=>aj _ q) (av _) ⟨_,e1⟩
 refine I1.laid (a:=s.heap.objs.size+1) (o:=.ins C s.heap.objs.size []) (t':=s.toks) (λb u q=>aj _ q) (oE (cx _ _)) ?_
 have ne:s.heap.objs.size≠s.heap.objs.size+1:=aB (ia _)
 refine ⟨by rw [j9 ne,j7],aP _,ne,e2,λ_=>none,(Heap.Ns1.of_empty e3).at λo q=>aj _ q,λ_=>cK,λy hy=>absurd rfl hy⟩
theorem UK {prog:Program}{w:bp}{env:Env}{e:Expr}{f:Str}{pos:Pos}{s:Shared}{Q:ak->Shared->Prop}(hb:eJ e f env (eval e env)=eval e env)
  (h:az (aC prog w) A (eval e env) (λo s₁=>az (aC prog w) A (getAttr o f true) Q E s₁) E s):az (aC prog w) A (eval (.Attribute e f pos) env) Q E s :=
 Attribute_any_ h (by rw [arm_eval_Attribute,hb])
end
noncomputable def GK (K:ah) (ta:TE) (f:Str):TE:=λσ H Q=>ta σ H λx H1=>∃a C dx fs v,x = .ref a/\H1 a=some (.ins C dx fs)/\Cls K C/\zK K C f/\fs.lookup f=some v/\Q v H1
noncomputable def En (K:ah) (ta tv:TE) (f:Str):TS:=λD σ H=>tv σ H λy H1=>ta σ H1 λx H2=>∃a C dx fs,x = .ref a/\H2 a=some (.ins C dx fs)/\Cls K C/\zK K C f/\fs.length<1000 /\
 D.nx σ (upd H2 a (.ins C dx (jq f y fs)))
section
variable {X:Cx}{o e value:Expr}{f:Str}{pos pos' tpos:Pos}{ta tv:TE}
theorem WC (he:PE X e ta) (hb:eJ e f X.env (eval e X.env)=eval e X.env):PE X (.Attribute e f pos) (GK X.K ta f):=by
 intro pins s σ H Q I h
 refine UK hb (thn ↥69 λu s1 ⟨x,H1,I1,rx,a,C,dx,fs,v,ex,ea,c,n,l,q⟩=>?_)
 subst ex
 obtain rfl:u=aS a:=rx
 exact Zr I1 ea c n l λu' s2 I2 ru=>⟨v,H1,I2,ru,q⟩
theorem GC (ha:PE X o ta) (hv:PE X value tv) (hs:iP value (some (.Attribute o f pos')) pos.line X.env=pure false):PS X (.Assign [.Attribute o f pos'] value pos) (En X.K ta tv f):=by
 intro pins s σ H D I h
 refine plainObj_wpAny_Assign_Attribute (thn (hv pins s σ H _ I h) λu s1 ⟨y,H1,I1,ry,q⟩=>thn (ha pins s1 σ H1 _ I1 q) λov s2 ⟨x,H2,I2,rx,a,C,dx,fs,ex,ea,c,n,l,q2⟩=>?_) hs
 subst ex
 obtain rfl:ov=aS a:=rx
 exact Zy I2 ea c n l ry λs3 I3=>⟨σ,_,I3,q2⟩
theorem Wh (he:PE X e te) (I:Inv X pins σ H s)
  (h:te σ H λx H1=>∃a C dx fs g,x = .ref a/\H1 a=some (.ins C dx fs)/\Cls X.K C/\Meth X.K C m g/\fs.lookup m=none /\
   ∀s1,Inv X pins σ H1 s1->az ↥6 X.A (lM pos (.ref g) [.ref a] (cp pos (aJ args X.env)) (ft pos (dh [] X.env))) Q X.xe s1)
  (ht:eval (.Call (.Attribute e m apos) args [] pos) X.env=(do
   let ov <- eval e X.env
   fc apos.atName
   let (f,first) <- fe [ov] (i9 ov m pl)
   lM pos f first (cp pos (aJ args X.env)) (ft pos (dh [] X.env)))) :
  az ↥6 X.A (eval (.Call (.Attribute e m apos) args [] pos) X.env) Q X.xe s:=by
 refine eO (pl:=pl) (thn ↥69 λu s1 ⟨x,H1,I1,rx,a,C,dx,fs,g,ex,ea,c,k,l,q⟩=>?_) ht
 subst ex
 obtain rfl:u=aS a:=rx
 exact yG I1 ea c k l (q s1 I1)
end
section
variable {X:Cx}{pins:List (Addr×Obj)}{σ:St}{H:Hp}{s:Shared}{A:br}{E:ak->Shared->Prop}{Q:ak->Shared->Prop}{c:ak}{b:Bool}
inductive TyOf (K:ah) (H:Hp):V->ak->Prop where
 | non:TyOf K H .non (.type "NoneType")
 | bl (x:Bool):TyOf K H (.bl x) (.type "bool")
 | int (i:Int):TyOf K H (.int i) (.type "int")
 | str (x:Str):TyOf K H (.str x) (.type "str")
 | flt (x:UInt64):TyOf K H (.flt x) (.type "float")
 | lst {a:Addr} {xs:List V} (e:H a=some (.lst xs)):TyOf K H (.ref a) (.type "list")
 | frz {a:Addr} {o:Obj} {xs:List V} (e:H a=some (.frz o (.lst xs))):TyOf K H (.ref a) (.type "list")
 | tup {a:Addr} {xs:List V} (e:H a=some (.tup xs)):TyOf K H (.ref a) (.type "tuple")
 | dK {a:Addr} {kvs:List (Key×V)} (e:H a=some (.dK kvs)):TyOf K H (.ref a) (.type "dict")
 | dT {a:Addr} {kvs:List (List Key×V)} (e:H a=some (.dT kvs)):TyOf K H (.ref a) (.type "dict")
 | ins {a C dx:Addr} {fs:List (Str×V)} (e:H a=some (.ins C dx fs)) (cl:Cls K C) (ha:bG K (.ref C) "__class__" = some (some ↥55))
   (hn:oF K ↥55 "__get__" = some (some (.builtin "getset_descriptor.__get__"))) (htk:rh K ↥55=some true)
   (hm:sD K C (.type "object")=some true):TyOf K H (.ref a) (.ref C)
theorem Jm (I:Inv X pins σ H s) (rx:jK x u) (ty:TyOf X.K H x t) (e:aG X.K t c=some b) (h:∀tk,Q (.bool b) { s with toks:=tk }) :
  az ↥6 A (call (.builtin "isinstance") [u,c]) Q E s:=by
 cases ty with
 | non=>cases (show u=aT from rx);exact bT PySem.W.kitx_none I.kIn cK e (λz=>nomatch z) h
 | bl y=>cases (show u=lV y from rx);exact bT PySem.W.kitx_bool I.kIn cK e (λz=>nomatch z) h
 | int i=>obtain ⟨t,q⟩:=(show ∃t,u=iO i t from rx);cases q;exact bT PySem.W.kitx_int I.kIn cK e (λz=>nomatch z) h
 | str y=>obtain ⟨t,q⟩:=(show ∃t,u=lI y t from rx);cases q;exact bT PySem.W.kitx_str I.kIn cK e (λz=>nomatch z) h
 | flt y=>obtain ⟨t,q⟩:=(show ∃t,u=pU y t from rx);cases q;exact bT PySem.W.kitx_float I.kIn cK e (λz=>nomatch z) h
 | @lst a xs ea =>
  cases (show u=aS a from rx)
  obtain ⟨_,_,n,_,h1⟩:=(show qv X.prog X.w H s.heap a (.lst xs) from I.hok a _ ea)
  exact bT oG I.kIn ⟨_,h1,rfl⟩ e (λz=>nomatch z) h
 | @frz a ob xs ea =>
  cases (show u=aS a from rx)
  obtain ⟨_,_,_,n,_,h1⟩:=(show qv X.prog X.w H s.heap a (.frz ob (.lst xs)) from I.hok a _ ea)
  exact bT oG I.kIn ⟨_,h1,rfl⟩ e (λz=>nomatch z) h
 | @tup a xs ea =>
  cases (show u=aS a from rx)
  obtain ⟨_,_,_,p⟩:=(show qv X.prog X.w H s.heap a (.tup xs) from I.hok a _ ea)
  obtain ⟨o,h1,h2,_⟩:=p
  exact bT PySem.W.kitx_tuple I.kIn ⟨o,h1,h2⟩ e (λz=>nomatch z) h
 | @dK a kvs ea =>
  cases (show u=aS a from rx)
  obtain ⟨_,_,vs,_,p⟩:=(show qv X.prog X.w H s.heap a (.dK kvs) from I.hok a _ ea)
  obtain ⟨o,es,ep,h1,h2,_⟩:=p
  exact bT oH I.kIn ⟨o,h1,h2.1⟩ e (λz=>nomatch z) h
 | @dT a kvs ea =>
  cases (show u=aS a from rx)
  obtain ⟨_,_,xs,_,o,es,ep,h1,h2,_⟩:=(show qv X.prog X.w H s.heap a (.dT kvs) from I.hok a _ ea)
  exact bT oH I.kIn ⟨o,h1,h2.1⟩ e (λz=>nomatch z) h
 | @ins a C dx fs ea cl ha hn htk hm =>
  cases (show u=aS a from rx)
  obtain ⟨mA,O,_⟩:=wN I.hok ea
  obtain ⟨od,J,_⟩:=O.look
  exact bT (PySem.W.kitx_own (cl.get _) cl.hd ha hn htk hm) I.kIn J e (λz=>nomatch z) h
end
end L2
namespace L2
structure Room (k:Nat) (A:br):Prop where
 hd:A.handled=none
 dp:A.depth+3*k+5<recursionLimit
 un:A.units+16*k+200<cLine
theorem Room.mono {j k:Nat}{A:br}(r:Room k A) (h:j<=k):Room j A:=⟨r.hd,by have:=r.dp;omega,by have:=r.un;omega⟩
theorem Room.deeper {k:Nat}{A:br}(r:Room (k+1) A) (env:Env):Room k (A.deeper env) :=
 ⟨r.hd,by have:=r.dp;show A.depth+1+3*k+5<_;omega,by have:=r.un;show A.units+3+16*k+200<_;omega⟩
theorem Room.in1 {k:Nat}{A:br}(r:Room (k+1) A):Room k A.in1 :=
 ⟨r.hd,by have:=r.dp;show A.depth+3*k+5<_;omega,by have:=r.un;show A.units+1+16*k+200<_;omega⟩
theorem Za {A:br}{us:List ak}{kw:List (Str×ak)}: (↥86).depth=A.depth+1:=by
 first | rfl | simp [oI,Code.weight,Code.isCreation,Code.isGuard,Code.isCaller,Code.frames,oJ,guardIds]
theorem Zi {A:br}{us:List ak}{kw:List (Str×ak)}: (↥86).units=A.units+1:=by
 first | rfl | simp [oI,Code.cUnits,Code.frames,oJ]
theorem Room.make {k:Nat}{A:br}(r:Room (k+1) A) (C:Addr) (us:List ak) (kw:List (Str×ak)):Room k ↥86 :=
 ⟨r.hd,by have:=r.dp;rw [Za];omega,by have:=r.un;rw [Zi];omega⟩
theorem Room.depth {k:Nat}{A:br}(r:Room k A):A.depth<recursionLimit:=by have:=r.dp;omega
theorem Room.units {k:Nat}{A:br}(r:Room k A):A.units+64<cLine:=by have:=r.un;omega
noncomputable def Ww:TA:=λ_ H Q=>Q [] H
noncomputable def GS (ta:TE) (tr:TA):TA:=λσ H Q=>ta σ H λx H1=>tr σ H1 λxs H2=>Q (x::xs) H2
section
variable {X:Cx}{e:Expr}{es:List Expr}{te:TE}{t:TA}{pos:Pos}
theorem j5:PA X [] Ww:=λ_ _ _ _ H Q I h=>lr ⟨[],H,I,.nil,h⟩
theorem j2 (ha:PE X e te) (hr:PA X es t) (hs:aJ (e::es) X.env=↥45::aJ es X.env:=by rfl):PA X (e::es) (GS te t):=by
 intro pos pins s σ H Q I h
 rw [hs]
 show az _ _ (spliced (↥45::cp pos (aJ es X.env))) _ _ s
 refine fJ (thn ↥78 λu s1 ⟨x,H1,I1,r1,q1⟩=>?_)
 exact thn (hr pos pins s1 σ H1 _ I1 q1) λus s2 ⟨xs,H2,I2,r2,q2⟩=>⟨x::xs,H2,I2,.cons r1 r2,q2⟩
end
noncomputable abbrev Sp:=List V->Hp->VK->XK->Prop
noncomputable abbrev CXT:=List Env->Hp->Shared->XK->ak->Shared->Prop
structure Env0 (P:Program) (w:bp) (K:ah) (mg:Str->Option ak) (base:Heap) (A:br) (outer:List Env) (s:Shared) (H:Hp):Prop where
 frames:A.frames=some outer
 mod:Mod K mg base
 bs:∀b o,base.get? b=some o->s.heap.get? b=some o/\H b=none
 bsz:base.objs.size<=s.heap.objs.size
 funs:s.heap.FunFrames base outer
 frf:∀b∈frs outer,H b=none
 hok:HOk P w H s.heap
 bare:ij s.gens
noncomputable def CE (outer:List Env) (P:Program) (w:bp) (H:Hp) (s:Shared) (Q:VK) (u:ak) (s':Shared):Prop :=
 ∃v H',s'.os=s.os/\ij s'.gens/\Un (frs outer) [] H H' s.heap s'.heap/\HOk P w H' s'.heap/\jK v u/\Q v H'
noncomputable def CR (CX:CXT) (outer:List Env) (P:Program) (w:bp) (H:Hp) (s:Shared) (Q:VK) (E:XK) (r:nW) (s':Shared):Prop :=
 match r with
 | .ok (.ret u)=>CE outer P w H s Q u s'
 | .ok _=>False
 | .error e=>CX outer H s E e s'
structure FnOk (P:Program) (w:bp) (K:ah) (mg:Str->Option ak) (base:Heap) (CX:CXT) (k:Nat) (f:Addr) (fd:FuncData) (ps:List Str) (sp:Sp):Prop where
 len:∀vs H Q E,sp vs H Q E->vs.length=ps.length
 run:∀(A:br) (outer:List Env) (s:Shared) (H:Hp) (args:Args) (us:List ak) (vs:List V) (Q:VK) (E:XK),Room k A->Env0 P w K mg base A outer s H->oK s fd args (ps.zip us)->jJ vs us->sp vs H Q E ->
  cW (aC P w) A (.call (.ref f) args) (CR CX outer P w H s Q E) s
theorem Env0.make {P:Program}{w:bp}{K:ah}{mg:Str->Option ak}{base:Heap}{A:br}{outer:List Env}(e:Env0 P w K mg base A outer s H) (C:Addr) (us:List ak) (kw:List (Str×ak)) :
  Env0 P w K mg base ↥86 outer s H:=⟨by first | exact e.frames | (simpa [oI,Code.envs,oJ,pushEnvs] using e.frames),e.mod,e.bs,e.bsz,e.funs,e.frf,e.hok,e.bare⟩
theorem Env0.in1 {P:Program}{w:bp}{K:ah}{mg:Str->Option ak}{base:Heap}{A:br}{outer:List Env}(e:Env0 P w K mg base A outer s H) :
  Env0 P w K mg base A.in1 outer s H:=⟨e.frames,e.mod,e.bs,e.bsz,e.funs,e.frf,e.hok,e.bare⟩
section
variable {X:Cx}{pins:List (Addr×Obj)}{σ:St}{H:Hp}{s s':Shared}
theorem Inv.env0 (I:Inv X pins σ H s):Env0 X.prog X.w X.K X.mg X.base X.A X.stack s H :=
 ⟨I.ok.frames,I.ok.mod,I.bs,aE I.ok.bsz I.sz,I.stack,I.stkFree,I.hok,I.bare⟩
theorem Inv.after (I:Inv X pins σ H s) (h:CE X.stack X.prog X.w H s Q u s'):EP X pins σ Q u s':=by
 obtain ⟨v,H',os,bare,un,hok,r,q⟩:=h
 obtain ⟨hh,g,d,t,os'⟩:=s'
 obtain rfl:os'=s.os:=os
 exact ⟨v,H',I.call (h':=hh) (g':=g) (d':=d) (t':=t) (ch:=[]) un hok bare (λb z=>absurd z (by simp)),r,q⟩
end
noncomputable def Wf (sp:Sp) (dvs:List V) (E:XK) (t:TA):TE:=λσ H Q=>t σ H λvs H1=>sp (vs++dvs) H1 Q E
noncomputable def ZN (C:Addr) (m:Str) (sp:Sp) (dvs:List V) (E:XK) (ta:TE) (t:TA):TE:=λσ H Q=>ta σ H λx H1=>∃a dx fs,x = .ref a/\H1 a=some (.ins C dx fs)/\fs.lookup m=none /\
 t σ H1 λvs H2=>sp (x::(vs++dvs)) H2 Q E
noncomputable def zV (K:ah) (fd:FuncData) (ps:List Str) (ds:List ak):Prop :=
 ∀(s:Shared) (us:List ak),K.In s.heap->(us++ds).length=ps.length->oK s fd ⟨us,[]⟩ (ps.zip (us++ds))
theorem zV.all {K:ah}{ps:List Str}(h:∀us:List ak,us.length=ps.length->cC fd ⟨us,[]⟩=pure (ps.zip us)):zV K fd ps []:=λs us _ hl=>by
 rw [bj] at hl ⊢
 exact .of_eq (h us hl)
noncomputable def kG (CX:CXT) (X:Cx) (E:XK):Prop:=∀(pins:List (Addr×Obj)) (σ:St) (H:Hp) (s:Shared) (e:ak) (s':Shared),Inv X pins σ H s->CX X.stack H s E e s'->X.xe e s'
section
variable {X:Cx}{CX:CXT}{k:Nat}{f C:Addr}{fd:FuncData}{ps:List Str}{sp:Sp}{dvs:List V}{ds:List ak}{E:XK}{x m:Str}{p pos apos:Pos}{e o:Expr}{es:List Expr}{ta:TE}{t:TA}
theorem Zg (F:FnOk X.prog X.w X.K X.mg X.base CX k f fd ps sp) (hr:Room k X.A) (hb:zV X.K fd ps ds) (hd:jJ dvs ds) (hx:kG CX X E)
  (I:Inv X pins σ H s) (r:jJ vs us) (h:sp (vs++dvs) H Q E):az ↥6 X.A (call (.ref f) us) ↥73 X.xe s:=by
 have r2:jJ (vs++dvs) (us++ds):=r.append hd
 have hl:(us++ds).length=ps.length:=by rw [<- r2.length];exact F.len _ _ _ _ h
 refine fK (d9 (F.run X.A X.stack s H ⟨us,[]⟩ (us++ds) (vs++dvs) Q E hr I.env0 (hb s us I.kIn hl) r2 h) λr s' hq=>?_)
 cases r with
 | error e=>exact hx pins σ H s e s' I hq
 | ok fl =>
  cases fl with
  | ret u=>exact I.after hq
  | next=>exact bg hq
  | brk=>exact bg hq
  | cont=>exact bg hq
theorem US (F:FnOk X.prog X.w X.K X.mg X.base CX k f fd ps sp) (hr:Room k X.A) (hg:Gl X x) (hm:X.mg x=some (.ref f)) (hk:bK X.K (.ref f)=true) (hb:zV X.K fd ps ds) (hd:jJ dvs ds) (hx:kG CX X E)
  (ha:PA X (e::es) t) (hdb: ↥33=false:=by decide) (he:aJ (e::es) X.env=↥45::aJ es X.env:=by rfl) (hpl: (↥77).any (·.1)=false:=by rfl) :
  PE X ↥75 (Wf sp dvs E t):=by
 intro pins s σ H Q I h
 refine cU (yK I hg hm ?_ hdb)
 refine dm (h₀:=X.base) I.ok.mod.kin hk (thn ↥67 λus s1 ⟨vs,H1,I1,r,q⟩=>⟨I1.kIn,?_⟩) he hpl
 exact Zg F hr hb hd hx I1 r q
theorem Uv (he:PE X o ta) (c:Cls X.K C) (hm:Meth X.K C m f) (F:FnOk X.prog X.w X.K X.mg X.base CX k f fd ps sp) (hr:Room k X.A) (hb:zV X.K fd ps ds) (hd:jJ dvs ds) (hx:kG CX X E) (ha:PA X (e::es) t)
  (hst:aJ (e::es) X.env=↥45::aJ es X.env:=by rfl) (hpl: (↥77).any (·.1)=false:=by rfl)
  (ht:eval ↥63 X.env=(do
   let ov <- eval o X.env
   fc apos.atName
   let (f,first) <- fe [ov] (i9 ov m pl)
   lM pos f first (cp pos (aJ (e::es) X.env)) (ft pos (dh [] X.env))):=by rfl) :
  PE X ↥63 (ZN C m sp dvs E ta t):=by
 intro pins s σ H Q I h
 refine eO (pl:=pl) (thn ↥69 λu s1 ⟨x,H1,I1,rx,a,dx,fs,ex,ea,l,q⟩=>?_) ht
 subst ex
 obtain rfl:u=aS a:=rx
 refine yG I1 ea c hm l ?_
 refine dm (first:=[.ref a]) (h₀:=X.base) I.ok.mod.kin hm.kp (thn (ha pos pins s1 σ H1 _ I1 q) λus s2 ⟨vs,H2,I2,r,q2⟩=>⟨I2.kIn,?_⟩) hst hpl
 exact Zg (us:=.ref a::us) (vs:=.ref a::vs) F hr hb hd hx I2 (.cons rfl r) q2
theorem VD (he:PE X o ta) (c:Cls X.K C) (hm:Meth X.K C m f) (F:FnOk X.prog X.w X.K X.mg X.base CX k f fd ps sp) (hr:Room k X.A) (hb:zV X.K fd ps ds) (hd:jJ dvs ds) (hx:kG CX X E)
  (ht:eval (.Call (.Attribute o m apos) [] [] pos) X.env=(do
   let ov <- eval o X.env
   fc apos.atName
   let (f,first) <- fe [ov] (i9 ov m pl)
   lM pos f first (cp pos (aJ [] X.env)) (ft pos (dh [] X.env))):=by rfl) :
  PE X (.Call (.Attribute o m apos) [] [] pos) (ZN C m sp dvs E ta Ww):=by
 intro pins s σ H Q I h
 refine eO (pl:=pl) (thn ↥69 λu s1 ⟨x,H1,I1,rx,a,dx,fs,ex,ea,l,q⟩=>?_) ht
 subst ex
 obtain rfl:u=aS a:=rx
 refine yG I1 ea c hm l ?_
 exact PySem.W.callWith_K0 (first:=[.ref a]) I1.kIn hm.kp (Zg (us:=[.ref a]) (vs:=[.ref a]) F hr hb hd hx I1 (.cons rfl .nil) q)
structure Mk (K:ah) (C f:Addr):Prop where
 makes:mm K C=true
 init:bG K (.ref C) "__init__" = some (some (.ref f))
 fn:oC K (.ref f)=true
 kp:bK K (.ref C)=true
end
section
variable {X:Cx}{CX:CXT}{k:Nat}{f C:Addr}{fd:FuncData}{ps ks:List Str}{sp:Sp}{E:XK}{x m:Str}{p pos apos kpos:Pos}{e o:Expr}{es:List Expr}{kws:List iJ}{te ta:TE}{t tk:TA}{nm:Option Str}
variable {g:List ak->List ak->List ak}{gV:List V->List V->List V}
end
structure FnScope (N P:List Str) (sc:Scope):Prop where
 kind:sc.kind = .function
 co:sc.isCoroutine=false
 gen:sc.isGenerator=false
 nd:N.Nodup
 pre:N.take P.length=P
 par:∀x∈P,sc.names.lookup x=some .local\/sc.names.lookup x=some .cell
 nofree:∀y∈sc.names,y.2≠.free
theorem J5 {kindOf:Str->Option fU}{x:Str}:∀{binds:List (Str×ak)}{m:Str->Option ak},(∀v,(x,v)∉binds)->pW kindOf binds m x=m x
 | [],_,_=>rfl
 | (n,v)::r,m,h=>by
  unfold pW
  rw [J5 λw hw=>h w (aH _ hw)]
  split
  ·have:x≠n:=by rintro rfl;exact h v aO
   simp [this]
  ·rfl
theorem Jh {kindOf:Str->Option fU}{x:Str}:∀{binds:List (Str×ak)}{m:Str->Option ak},(∀v,(x,v)∉binds)->pX kindOf binds m x=m x
 | [],_,_=>rfl
 | (n,v)::r,m,h=>by
  unfold pX
  rw [Jh λw hw=>h w (aH _ hw)]
  split
  ·rfl
  ·have:x≠n:=by rintro rfl;exact h v aO
   simp [this]
theorem gZ {kindOf:Str->Option fU}:∀{P:List Str}{vs:List ak}{i:Nat}{m:Str->Option ak},P.Nodup->P[i]? = some x->vs[i]? = some v->kindOf x=some .local ->
  pW kindOf (P.zip vs) m x=some v
 | [],_,_,_,_,h,_,_=>by simp at h
 | _::_,[],_,_,_,_,h,_=>by simp at h
 | p::P,w::vs,0,m,nd,h1,h2,hk=>by
  simp at h1 h2;subst h1;subst h2
  show pW kindOf ((p,w)::P.zip vs) m p=_
  unfold pW
  rw [J5 λv hv=>(List.nodup_cons.mp nd).1 (fG hv).1,if_pos hk]
  simp
 | p::P,w::vs,i+1,m,nd,h1,h2,hk=>by
  show pW kindOf ((p,w)::P.zip vs) m x=_
  unfold pW
  exact gZ (i:=i) (List.nodup_cons.mp nd).2 (by simpa using h1) (by simpa using h2) hk
theorem J0 {kindOf:Str->Option fU}:∀{P:List Str}{vs:List ak}{i:Nat}{m:Str->Option ak},P.Nodup->P[i]? = some x->vs[i]? = some v->kindOf x≠some .local ->
  pX kindOf (P.zip vs) m x=some v
 | [],_,_,_,_,h,_,_=>by simp at h
 | _::_,[],_,_,_,_,h,_=>by simp at h
 | p::P,w::vs,0,m,nd,h1,h2,hk=>by
  simp at h1 h2;subst h1;subst h2
  show pX kindOf ((p,w)::P.zip vs) m p=_
  unfold pX
  rw [Jh λv hv=>(List.nodup_cons.mp nd).1 (fG hv).1,if_neg hk]
  simp
 | p::P,w::vs,i+1,m,nd,h1,h2,hk=>by
  show pX kindOf ((p,w)::P.zip vs) m x=_
  unfold pX
  exact J0 (i:=i) (List.nodup_cons.mp nd).2 (by simpa using h1) (by simpa using h2) hk
noncomputable def start (N:List Str) (vs:List V):St:=vs.map some++dq (N.length-vs.length) none
noncomputable def vI (CX:CXT) (P:Program) (w:bp) (K:ah) (mg:Str->Option ak) (base:Heap) (N:List Str) (qual:Str) (scope:Scope) (f:Addr) (cd:ak) (A:br) (outer:List Env) (s:Shared) (H:Hp) (E:XK):Cx where
 prog:=P
 w:=w
 K:=K
 mg:=mg
 base:=base
 A:=A.deeper ↥66
 N:=N
 s₀:=s
 H₀:=H
 env:=iB qual scope s.heap.objs.size f cd
 outer:=outer
 stack:=iB qual scope s.heap.objs.size f cd::outer
 ex:=[]
 calm:=true
 fn:=λ_=>true
 pn:=[]
 xe:=λe s'=>az (aC P w) (A.deeper ↥66) (nh ↥66 e) (λ_ s''=>CX outer H s E e s'') (λe' s''=>CX outer H s E e' s'') s'
theorem Xm {sc:Scope}{n:Nat}(h:sc.names.lookup x=some .cell):∃c,(lN n sc.names []).lookup x=some c:=by
 have q:=dZ sc.names n [] (.inl h)
 exact Option.isSome_iff_exists.mp q
theorem uK {CX:CXT}{P:Program}{w:bp}{K:ah}{mg:Str->Option ak}{base:Heap}{N ps:List Str}{qual:Str}{scope:Scope}{f:Addr}{cd:ak}{A:br}{outer:List Env}{s s1:Shared}{H:Hp}{E:XK}{us:List ak}{vs:List V}
  (S:FnScope N ps scope) (hd:A.handled=none) (e0:Env0 P w K mg base A outer s H) (hl:vs.length=ps.length) (r:jJ vs us)
  (x:InCallC s s.heap.objs.size (pW (↥66).kindOf (ps.zip us) λ_=>none) (lN ↥21 scope.names []) (pX (↥66).kindOf (ps.zip us) λ_=>none) s1) :
  Inv (vI CX P w K mg base N qual scope f cd A outer s H E) [] (start N vs) H s1:=by
 have hpl:ps.length<=N.length:=by have:=congrArg iq S.pre;rw [b0] at this;omega
 obtain ⟨h1,tk,rfl,hk⟩:=x.done
 have noA:∀b:Addr,b∉(vI CX P w K mg base N qual scope f cd A outer s H E).ex:=λb z=>absurd (show b∈([]:List Addr) from z) (by simp)
 refine ⟨⟨e0.mod,S.kind,rfl,rfl,av _,λy z c h1 h2=>?_,λy hy=>?_,λy c _ h=>?_,λ_=>hd,mF e0.frames,.inr ⟨rfl,rfl⟩,λb z=>absurd z (noA b),e0.bs,e0.bsz,λb _ _=>noA b,λb z=>absurd z (noA b),e0.funs,e0.frf⟩,
  rfl,e0.bare,Un.kept hk,⟨_,x.toInCall.ns,λi y v h1 h2 h3=>?_⟩,λy c h=>⟨_,x.cell y c h⟩,e0.hok.fresh (av _),λy c h=>?_,λp hp=>absurd (show p∈([]:List (Addr×Obj)) from hp) (by simp),e0.hok.kept hk,?_⟩
 ·exact name_of_addr x.apart (d7 h1) (d7 h2)
 ·have hy:scope.names.lookup y=some .cell\/scope.names.lookup y=some .free:=hy
  rcases hy with hy | hy
  ·exact Xm hy
  ·exact absurd rfl (S.nofree _ (d7 hy))
 ·exact dX (x.above y c (d7 h))
 ·have hi:i<vs.length:=by
   unfold start at h2
   by_cases hi:i<vs.length
   ·exact hi
   ·rw [c7 (by simpa using hi)] at h2
    rw [lO] at h2
    split at h2 <;> cases h2
  have ha:vs[i]? = some v:=by
   unfold start at h2
   rw [cj (by simpa using hi),aq] at h2
   cases e:vs[i]? with
   | none=>rw [e] at h2;cases h2
   | some a=>rw [e] at h2;cases h2;rfl
  obtain ⟨u,hu,rv⟩:=r.get ha
  have hp:ps[i]? = some y:=by
   rw [<- S.pre,List.getElem?_take_of_lt ∅];exact h1
  have ndP:ps.Nodup:=by rw [<- S.pre];exact S.nd.sublist (List.take_sublist _ _)
  refine ⟨u,rv,?_⟩
  rcases S.par y (ar hp) with k | k
  ·exact .inl ⟨k,gZ ndP hp hu k⟩
  ·obtain ⟨c,e⟩:=Xm (n:=s.heap.objs.size+1) k
   refine .inr ⟨.inl k,c,e,?_⟩
   have q:=x.cell y c e
   rw [J0 ndP hp hu (by show scope.names.lookup y≠_;rw [k];decide)] at q
   exact q
 ·exact e0.hok.fresh (dX (x.above y c (d7 h)))
 ·unfold start
  show _=N.length
  rw [ay,af,eP]
  omega
theorem Ul {K:ah}{k:Nat}{kV pm oc:ak}{od:Option Addr}
  {osl:Array (Option ak)}  {sp:Sp} (lk:K.lookup f=some ⟨oc,od,.func (bE name qual params body scope dV kV doc pm an cdv ct),osl⟩) (hcd:cz K cdv qual=true) (S:FnScope N ps scope)
  (len:∀vs H Q E,sp vs H Q E->vs.length=ps.length)
  (hbody:∀(A:br) (outer:List Env) (s:Shared) (H:Hp) (vs:List V) (Q:VK) (E:XK),Room k (A.deeper (iB qual scope s.heap.objs.size f cdv))->sp vs H Q E ->
   ∃t,PSs (vI CX P w K mg base N qual scope f cdv A outer s H E) body t/\t { nx:=λ_ H'=>Q .non H',rt:=Q } (start N vs) H) :
  FnOk P w K mg base CX (k+1) f (bE name qual params body scope dV kV doc pm an cdv ct) ps sp:=by
 refine ⟨len,λA outer s H args us vs Q E hr e0 hb r hsp=>?_⟩
 have hl:=len _ _ _ _ hsp
 have KX:K.In s.heap:=e0.mod.kin.keeps λb o e=>(e0.bs b o e).1
 have lim:s.heap.NoLimit:=e0.mod.nolimit.keeps λb o e=>(e0.bs b o e).1
 have hkind:∀y∈ps.zip us,scope.names.lookup y.1=some .local\/(scope.names.lookup y.1=some .cell/\((lN ↥21 scope.names []).lookup y.1).isSome=true):=λ⟨n,v⟩ hy=>by
  rcases S.par n (fG hy).1 with q | q
  ·exact .inl q
  ·exact .inr ⟨q,dZ _ _ _ (.inl q)⟩
 refine mz hr.depth (KX _ _ lk) rfl S.co S.gen rfl (nX KX hcd) (hb _ _ _ _ ?_)
 refine eW S.kind hkind λenv he s1 x=>?_
 subst he
 refine ⟨lim.keeps x.toInCall.keep,codeAny_func ?_⟩
 obtain ⟨t,ht,hq⟩:=hbody A outer s H vs Q E (hr.deeper _) hsp
 have I:Inv (vI CX P w K mg base N qual scope f cdv A outer s H E) [] (start N vs) H s1:=uK S hr.hd e0 hl r x
 refine aX (ht [] s1 (start N vs) H _ I hq) (λfl s' hs=>?_) λe s' hs=>hs
 have fin:∀{σ':St} {H':Hp} {v:V} {u:ak},Inv (vI CX P w K mg base N qual scope f cdv A outer s H E) [] σ' H' s'->jK v u->Q v H'->CE outer P w H s Q u s' :=
  λ{σ' H' v u} J rv q=>⟨v,H',J.os,J.bare,J.base,J.hok,rv,q⟩
 cases fl with
 | ret u =>
  obtain ⟨v,σ',H',J,rv,q⟩:=hs
  exact fin J rv q
 | next =>
  obtain ⟨σ',H',J,q⟩:=hs
  exact fin (v:=V.non) (u:=aT) J rfl q
 | brk =>
  obtain ⟨_,_,_,q⟩:=hs
  exact bg q
 | cont =>
  obtain ⟨_,_,_,q⟩:=hs
  exact bg q
end L2
namespace L2
section
variable {X:Cx}{x:Str}{p pos:Pos}{e:Expr}{es:List Expr}{t:TA}{id T:String}{r:List V->Hp->VK->Prop}
noncomputable def tCB (r:List V->Hp->VK->Prop) (t:TA):TE:=λσ H Q=>t σ H λvs H1=>r vs H1 Q
theorem jd (hc:qO X (.builtin id) r) (hg:Gl X x) (hm:X.mg x=none) (hv:fR x=some (.builtin id)) (ha:PA X (e::es) t) (hn:x ≠ "__name__":=by decide) (hdb: ↥33=false:=by decide)
  (he:aJ (e::es) X.env=↥45::aJ es X.env:=by rfl) (hpl: (↥77).any (·.1)=false:=by rfl):PE X ↥75 (tCB r t):=by
 intro pins s σ H Q I h
 refine cU (vh I hg hm hv ?_ hn hdb)
 exact PyProof.Rows.callWith_builtin1 (thn ↥67 λus s1 ⟨vs,H1,I1,r1,q1⟩=>hc pins s1 σ H1 vs us Q I1 r1 q1) he hpl
theorem jL (hc:qO X (.type T) r) (hg:Gl X x) (hm:X.mg x=none) (hv:fR x=some (.type T)) (ha:PA X (e::es) t) (hn:x ≠ "__name__":=by decide) (hdb: ↥33=false:=by decide)
  (he:aJ (e::es) X.env=↥45::aJ es X.env:=by rfl) (hpl: (↥77).any (·.1)=false:=by rfl):PE X ↥75 (tCB r t):=by
 intro pins s σ H Q I h
 refine cU (vh I hg hm hv ?_ hn hdb)
 exact cH (thn ↥67 λus s1 ⟨vs,H1,I1,r1,q1⟩=>hc pins s1 σ H1 vs us Q I1 r1 q1) he hpl
end
end L2
namespace HT
open PySem PyProof.Rows
section
open PySem.SeqAt
open PySem.AutoSeq1 (wpAny_loadPart')
open PySem.MeetsSeq PySem.MeetsSeq2 PySem.MeetsSeq3
end
section
variable {prog:Program}{w:bp}{A:br}{E:ak->Shared->Prop}{s:Shared}
theorem cat_tup {vs ws:List ak}{Q:ak->Shared->Prop}(ht:rM s.heap t vs.toArray) (hb:rM s.heap b ws.toArray) (hv:vs≠[])
  (h1:ws=[]->Q (.ref t) s) (h2:ws≠[]->Q ↥19 { s with heap:=s.heap.push { cls:=.type "tuple",data:=.seq (vs++ws).toArray } })
  (hsz:vs.length+ws.length<=sizeLine):az (aC prog w) A (eC .Add (.ref t) (.ref b)) Q E s:=by
 obtain ⟨⟨cls,dd,data,sl⟩,ho,hc,n,hd⟩:=id ht
 obtain ⟨⟨cls2,dd2,data2,sl2⟩,ho2,hc2,n2,hd2⟩:=id hb
 simp only at hc hd hc2 hd2
 subst hc hd hc2 hd2
 have e:vs.toArray++ws.toArray=(vs++ws).toArray:=by simp
 by_cases hw:ws=[]
 ·exact oM ⟨_,ho,rfl⟩ ⟨_,ho2,rfl⟩ lP nB fV fM (fA _ _)
   (tuple_addW1 t b vs.toArray ws.toArray n n2 dd dd2 sl sl2 (by simpa using hv) (by simp [hw])) ⟨ho,ho2,h1 hw⟩
 ·refine oM ⟨_,ho,rfl⟩ ⟨_,ho2,rfl⟩ lP nB fV fM (fA _ _)
   (tuple_addW2 t b vs.toArray ws.toArray n n2 dd dd2 sl sl2 (by simpa using hv) (by simpa using hw) (by rw [ax,ax];exact hsz)) ⟨ho,ho2,?_⟩
  rw [e]
  exact h2 hw
noncomputable def sIx (n d:Nat):Option Int->Nat
 | none=>d
 | some v=>if v<0 then (v+(n:Int)).toNat else min v.toNat n
theorem Wr (n d:Nat) (hd:d<=n) (o:Option Int):sIx n d o<=n:=by
 cases o with
 | none=>exact hd
 | some v =>
  show (if v<0 then (v+(n:Int)).toNat else min v.toNat n)<=n
  by_cases hv:v<0
  ·rw [if_pos hv];omega
  ·rw [if_neg hv];exact Nat.min_le_right _ _
theorem ZX (v:Int) (n d:Nat):(if v<0 then max (v+(n:Int)) 0 else min v (n:Int))=((sIx n d (some v):Nat):Int):=by
 show (if v<0 then max (v+(n:Int)) 0 else min v (n:Int))=(((if v<0 then (v+(n:Int)).toNat else min v.toNat n):Nat):Int)
 by_cases hv:v<0
 ·simp only [if_pos hv];omega
 ·simp only [if_neg hv];omega
theorem Zq (lo hi:Option Int) (n:Nat):ck lo hi 1 (n:Int)=(((sIx n 0 lo:Nat):Int),((sIx n n hi:Nat):Int)):=by
 have h1:¬((1:Int)<0):=∅
 unfold ck
 simp only [h1,if_false]
 refine Prod.ext ?_ ?_
 ·cases lo with
  | none=>rfl
  | some v=>exact ZX v n 0
 ·cases hi with
  | none=>rfl
  | some v=>exact ZX v n n
theorem Z5 (i j:Nat):bJ (i:Int) (j:Int) 1=j-i:=by
 unfold bJ
 have h1:(1:Int) > 0:=∅
 simp only [h1,if_true,Int.ediv_one]
 split <;> omega
theorem slicePart_ {Q:Option Int->Shared->Prop}(p:lY v o) (h:Q o s):az (aC prog w) A (Builtin.Slice.slicePartIndex v) Q E s:=by
 cases p with
 | none=>exact rQ h
 | int i t=>exact slicePart_int h
theorem w9 {lo:Option Int}{n:Nat}{Q:Int×Int×Nat->Shared->Prop}(hs:s.heap.IsSliceOf sl vl vu .none) (pl:lY vl lo) (pu:lY vu hi)
  (h:Q (((sIx n 0 lo:Nat):Int),1,sIx n n hi-sIx n 0 lo) s):az (aC prog w) A (dr (.ref sl) (pure (n:Int))) Q E s:=by
 obtain ⟨os,hos,hcs,hds⟩:=id hs
 unfold dr lg
 refine aa (aa (bw hos hds (x:=vl) rfl (aa (bw hos hds (x:=vu) rfl (aa (bw hos hds (x:=.none) rfl ↥52))))))
 refine aa (rQ ?_)
 show az _ _ (if ((1:Int) == 0)=true then _ else _) _ _ s
 rw [if_neg ⋯]
 refine aa (slicePart_ pl (aa (slicePart_ pu (aa ↥52))))
 show az _ _ (match ck lo hi 1 (n:Int) with | (lo,hi)=>pure (lo,(1:Int),bJ lo hi 1)) _ _ s
 rw [Zq lo hi n]
 show az _ _ (pure (((sIx n 0 lo:Nat):Int),(1:Int),bJ ((sIx n 0 lo:Nat):Int) ((sIx n n hi:Nat):Int) 1)) _ _ s
 rw [Z5]
 exact wpAny_pure h
theorem VW (xs:Array ak) (i k:Nat):((aW k).filterMap λ(m:Nat)=>xs[((i:Int)+(m:Int)*1).toNat]?).toArray=((xs.toList.drop i).take k).toArray:=by
 have e:(λ(m:Nat)=>xs[((i:Int)+(m:Int)*1).toNat]?)=λm=>xs[i+m]?:=by
  funext m
  have:((i:Int)+(m:Int)*1).toNat=i+m:=∅
  rw [this]
 rw [e]
 have:=pick_run xs i k
 rw [nZ] at this
 have e2:((λx=>xs[x]?) ∘ λx=>i+x)=λm=>xs[i+m]?:=rfl
 rw [e2] at this
 rw [this]
theorem getItem_tuple_cut {lo:Option Int}{Q:ak->Shared->Prop}(ht:rM s.heap t items) (hs:s.heap.IsSliceOf sl vl vu .none) (pl:lY vl lo) (pu:lY vu hi)
  (hw:¬(sIx items.size 0 lo=0/\sIx items.size items.size hi=items.size))
  (h:Q ↥19 { s with heap:=s.heap.push { cls:=.type "tuple",data:=.seq (↥68).toArray } })
  (hsz:items.size<=sizeLine):az (aC prog w) A (iK (.ref t) (.ref sl)) Q E s:=by
 have htake:sizeOk (.seq (↥68).toArray):=by
  show (↥68).toArray.size<=sizeLine
  rw [ax,b0,pG,bP]
  omega
 have hj:sIx items.size items.size hi<=items.size:=Wr _ _ (av _) hi
 obtain ⟨os,hos,hcs,hds⟩:=id hs
 have hTs:s.TypeIs (.ref sl) "slice":=⟨os,hos,hcs⟩
 unfold iK
 try with_reducible refine bD ?_
 first | refine aa ↥52 | skip
 refine aa (oN ht.typeIs ⋯ ?_)
 refine aa (bQ (name:=ai "__getitem__") ht.typeIs cT
  (cg cT ht.typeIs nk ?_ (o8 _ _)))
 show az _ _ (iU (.ref t) >>= _) _ _ s
 refine aa (sF ht ?_)
 refine aa (wpAny_typeOf hTs ?_)
 rw [if_pos ⋯]
 refine aa (w9 hs pl pu ?_)
 have hno:¬((((sIx items.size 0 lo:Nat):Int) == 0 && (1:Int) == 1 && (sIx items.size items.size hi-sIx items.size 0 lo) == items.size)=true):=by
  intro q
  rw [b9,b9] at q
  have q1:((sIx items.size 0 lo:Nat):Int)=0:=sM q.1.1
  have q2:sIx items.size items.size hi-sIx items.size 0 lo=items.size:=sM q.2
  exact hw ⟨∅,∅⟩
 show az _ _ (if (((sIx items.size 0 lo:Nat):Int) == 0 && (1:Int) == 1 && (sIx items.size items.size hi-sIx items.size 0 lo) == items.size)=true then _ else _) _ _ s
 rw [if_neg hno,VW]
 first
  | exact aa (m:=bM _) (bx ↥48 htake)
  | exact aa (m:=bM _) (bx (aa (wpAny_pure ↥48)) htake)
  | exact aa (aa (m:=bM _) (bx (wpAny_pure ↥48) htake))
  | exact aa (aa (m:=bM _) (bx ↥48 htake))
end
end HT
namespace L2
noncomputable abbrev TO:=St->Hp->(Option Int->Hp->Prop)->Prop
noncomputable def PO (X:Cx) (e:Option Expr) (t:TO):Prop :=
 ∀(pins:List (Addr×Obj)) (s:Shared) (σ:St) (H:Hp) (Q:Option Int->Hp->Prop),Inv X pins σ H s->t σ H Q ->
  az ↥6 X.A (evalPart e X.env) (λu s'=>∃o H',Inv X pins σ H' s'/\lY u o/\Q o H') X.xe s
noncomputable def UO:TO:=λ_ H Q=>Q none H
noncomputable def GJ (t:TE):TO:=λσ H Q=>t σ H λx H1=>∃i,x = .int i/\Q (some i) H1
section
variable {X:Cx}{e:Expr}{te:TE}{lo hi:Option Expr}{tl th:TO}{pos p2:Pos}
theorem Y7:PO X none UO:=by
 intro pins s σ H Q I h
 rw [lC]
 exact wpAny_pure ⟨none,H,I,.none,h⟩
theorem ZR (h:PE X e te):PO X (some e) (GJ te):=by
 intro pins s σ H Q I hw
 rw [nE]
 refine thn (h pins s σ H _ I hw) λu s1 ⟨x,H1,I1,r1,q1⟩=>?_
 obtain ⟨i,rfl,q⟩:=q1
 obtain ⟨t,rfl⟩:=r1
 exact ⟨some i,H1,I1,.int i t,q⟩
noncomputable def SlR (X:Cx) (r:V->Option Int->Option Int->Hp->VK->Prop):Prop :=
 ∀(pins:List (Addr×Obj)) (s:Shared) (σ:St) (H:Hp) (x:V) (v vl vu:ak) (lo hi:Option Int) (sl:Addr) (Q:VK),Inv X pins σ H s->jK x v->s.heap.IsSliceOf sl vl vu .none->lY vl lo->lY vu hi->r x lo hi H Q ->
  ∃T id,rR (.type T) "__getitem__" = pure (some (.builtin id))/\s.TypeIs v T/\az ↥6 X.A (iK v (.ref sl)) ↥73 X.xe s
noncomputable def tSl (r:V->Option Int->Option Int->Hp->VK->Prop) (te:TE) (tl th:TO):TE:=λσ H Q=>te σ H λx H1=>tl σ H1 λl H2=>th σ H2 λu H3=>r x l u H3 Q
theorem XJ (hr:SlR X r) (he:PE X e te) (hl:PO X lo tl) (hu:PO X hi th):PE X (.Subscript e (.Slice lo hi none p2) pos) (tSl r te tl th):=by
 intro pins s σ H Q I h
 refine lZ (thn ↥69 λv s1 ⟨x,H1,I1,r1,q1⟩=>?_)
 refine pY (thn (hl pins s1 σ H1 _ I1 q1) λvl s2 ⟨l,H2,I2,pl,q2⟩=>thn (hu pins s2 σ H2 _ I2 q2) λvu s3 ⟨u,H3,I3,pu,q3⟩=>?_)
 rw [lC]
 refine wpAny_pure ?_
 have I4:Inv X pins σ H3 { s3 with heap:=s3.heap.push { cls:=.type "slice",data:=.fields #[vl,vu,.none] } }:=I3.kept (t':=s3.toks) λb ob q=>aj _ q
 obtain ⟨T,id,hT,ht,hg⟩:=hr pins { s3 with heap:=s3.heap.push { cls:=.type "slice",data:=.fields #[vl,vu,.none] } } σ H3 x v vl vu l u s3.heap.objs.size Q I4 r1 (iV ..) pl pu q3
 show az ↥6 X.A (ik e (.Slice lo hi none p2) v (.ref s3.heap.objs.size)) ↥73 X.xe { s3 with heap:=s3.heap.push { cls:=.type "slice",data:=.fields #[vl,vu,.none] } }
 exact sW (ops:=[.ref s3.heap.objs.size,v]) ht hT hg ↥35
noncomputable def ZC (xs:List V) (lo hi:Option Int):List V:=(xs.drop (HT.sIx xs.length 0 lo)).take (HT.sIx xs.length xs.length hi-HT.sIx xs.length 0 lo)
theorem ww (xs:List V) (lo hi:Option Int):(ZC xs lo hi).length<=xs.length:=by
 unfold ZC
 rw [b0,pG]
 omega
noncomputable def rSlT (K:ah):V->Option Int->Option Int->Hp->VK->Prop:=λx lo hi H Q=>∃a xs,x = .ref a/\SqT K H a xs /\
 ¬(HT.sIx xs.length 0 lo=0/\HT.sIx xs.length xs.length hi=xs.length)/\∀p,H p=none->Q (.ref p) (upd H p (.tup (ZC xs lo hi)))
theorem WN:SlR X (rSlT X.K):=by
 intro pins s σ H x v vl vu lo hi sl Q I rx hs pl pu h
 obtain ⟨a,xs,rfl,hx,hw,q⟩:=h
 cases rx
 obtain ⟨its,r,ht,hz⟩:=I.tuple hx
 have hlen:its.toArray.size=xs.length:=by rw [ax];exact r.length.symm
 refine ⟨"tuple",_,PyProof.Rows.slot_tuple_getitem.lookup,ht.typeIs,?_⟩
 refine HT.getItem_tuple_cut ht hs pl pu (by rw [hlen];exact hw) ?_ (by rw [hlen];exact hz)
 rw [hlen]
 refine ⟨.ref s.heap.objs.size,_,I.laid (t':=s.toks) (o:=.tup (ZC xs lo hi)) (λb ob q=>aj _ q) (av _) ?_,rfl,q _ (I.hok.fresh (av _))⟩
 exact ⟨aE (ww xs lo hi) hz,_,(r.drop (HT.sIx xs.length 0 lo)).take (HT.sIx xs.length xs.length hi-HT.sIx xs.length 0 lo),pH _ _⟩
noncomputable def Es (K:ah):R2:=λx y H Q=>∃a b xs ys,x = .ref a/\y = .ref b/\SqT K H a xs/\SqT K H b ys/\xs≠[]/\xs.length+ys.length<=sizeLine /\
 (ys=[]->Q (.ref a) H)/\(ys≠[]->∀p,H p=none->Q (.ref p) (upd H p (.tup (xs++ys))))
theorem jJ.nil_iff {xs:List V}(r:jJ xs us):us=[]↔xs=[]:=by
 cases r with
 | nil=>simp
 | cons _ _=>simp
theorem UF:OpR X (eC .Add) (Es X.K):=by
 intro pins s σ H x y v u Q I rx ry h
 obtain ⟨a,b,xs,ys,rfl,rfl,ha,hb,hx,hz,q1,q2⟩:=h
 cases rx
 cases ry
 obtain ⟨its,r1,p1,_⟩:=I.tuple ha
 obtain ⟨its2,r2,p2,_⟩:=I.tuple hb
 refine HT.cat_tup p1 p2 (λz=>hx (r1.nil_iff.mp z)) (λz=>⟨.ref a,H,I,rfl,q1 (r2.nil_iff.mp z)⟩) (λz=>?_) (by rw [<- r1.length,<- r2.length];exact hz)
 refine ⟨.ref s.heap.objs.size,_,I.laid (t':=s.toks) (o:=.tup (xs++ys)) (λb ob q=>aj _ q) (av _) ?_,rfl,q2 (λw=>z (r2.nil_iff.mpr w)) _ (I.hok.fresh (av _))⟩
 exact ⟨by rw [ay];exact hz,_,r1.append r2,pH _ _⟩
end
end L2
namespace L2
noncomputable def ixN (n:Nat) (i:Int):Option Nat:=if 0<=i then (if i<n then some i.toNat else none) else if -(n:Int)<=i then some (i+n).toNat else none
noncomputable def atI {α:Type}(xs:List α) (i:Int):Option α:=(ixN xs.length i).bind λj=>xs[j]?
theorem ZH {n:Nat}{i:Int}{j:Nat}(h:ixN n i=some j):seqIndex? i n=some j/\j<n /\ -(n:Int)<=i/\i<n:=by
 unfold ixN at h
 by_cases h0:0<=i
 ·rw [if_pos h0] at h
  by_cases h1:i<n
  ·rw [if_pos h1] at h
   have e:i.toNat=j:=aI h
   exact ⟨by rw [pZ h0 h1,e],∅,∅,h1⟩
  ·rw [if_neg h1] at h;cases h
 ·rw [if_neg h0] at h
  by_cases h1 : -(n:Int)<=i
  ·rw [if_pos h1] at h
   have e:(i+n).toNat=j:=aI h
   exact ⟨by rw [oO ∅ h1,e],∅,h1,∅⟩
  ·rw [if_neg h1] at h;cases h
theorem Yj {α:Type}{xs:List α}{i:Int}{v:α}(h:atI xs i=some v):∃j,seqIndex? i xs.length=some j/\xs[j]? = some v/\j<xs.length /\ -(xs.length:Int)<=i/\i<xs.length:=by
 unfold atI at h
 cases e:ixN xs.length i with
 | none=>rw [e] at h;cases h
 | some j =>
  rw [e] at h
  obtain ⟨h1,h2,h3,h4⟩:=ZH e
  exact ⟨j,h1,h,h2,h3,h4⟩
theorem zW {α:Type}{xs:List α}{j:Nat}{v:α}(h:xs[j]? = some v):atI xs (j:Int)=some v:=by
 have hj:j<xs.length:=(List.getElem?_eq_some_iff.mp h).1
 have e:ixN xs.length (j:Int)=some j:=by
  unfold ixN
  rw [if_pos ∅,if_pos ∅];simp
 unfold atI;rw [e];exact h
theorem Vw {α:Type}(xs:List α) (v:α):atI (xs++[v]) (-1)=some v:=by
 have hl:(xs++[v]).length=xs.length+1:=by simp
 have e:ixN (xs++[v]).length (-1)=some xs.length:=by
  unfold ixN
  rw [hl,if_neg ⋯,if_pos ∅]
  congr 1
  omega
 unfold atI
 rw [e]
 show (xs++[v])[xs.length]? = some v
 simp
noncomputable def UE (b:Expr):Prop:=∀o i,mG b false o i=operate [o,i] (iK o i)
noncomputable def IxR (X:Cx) (r:R2):Prop :=
 ∀(value slice:Expr) (pins:List (Addr×Obj)) (s:Shared) (σ:St) (H:Hp) (x y:V) (v u:ak) (Q:VK),Inv X pins σ H s->jK x v->jK y u->r x y H Q ->
  mG slice false v u=operate [v,u] (iK v u)->az ↥6 X.A (ik value slice v u) ↥73 X.xe s
noncomputable def MtR (X:Cx) (id:String) (r:V->List V->Hp->VK->Prop):Prop :=
 ∀(pins:List (Addr×Obj)) (s:Shared) (σ:St) (H:Hp) (x:V) (xs:List V) (v:ak) (us:List ak) (Q:VK),Inv X pins σ H s->jK x v->jJ xs us->r x xs H Q ->
  az ↥6 X.A (call (.builtin id) (v::us)) ↥73 X.xe s
section
variable {X:Cx}{a b:Expr}{ta tb:TE}{pos:Pos}
theorem jj (hr:IxR X r) (ha:PE X a ta) (hb:PE X b tb) (hs:UE b):PE X (.Subscript a b pos) (tOp r ta tb):=by
 intro pins s σ H Q I h
 exact lZ (WJ ha hb I h λv u s2 x y H2 I2 rx ry q=>hr a b pins s2 σ H2 x y v u Q I2 rx ry q (hs _ _))
noncomputable def WA (K:ah):R2:=λx y H Q=>∃p xs i v,x = .ref p/\y = .int i/\SqL K H p xs/\atI xs i=some v/\Q v H
noncomputable def WW (K:ah):R2:=λx y H Q=>∃p xs i v,x = .ref p/\y = .int i/\SqT K H p xs/\atI xs i=some v/\Q v H
theorem Us:IxR X (WA X.K):=by
 intro value slice pins s σ H x y v u Q I rx ry h hs
 obtain ⟨p,xs,i,z,rfl,rfl,hq,he,q⟩:=h
 cases rx
 obtain ⟨t,rfl⟩:=ry
 obtain ⟨its,r,pl,hz⟩:=I.list hq
 obtain ⟨j,h1,h2,h3,h4,h5⟩:=Yj he
 obtain ⟨w,ew,rw'⟩:=r.get h2
 have hl:=r.length
 have hn:=JM
 have fin:EP X pins σ Q w s:=⟨z,H,I,rw',q⟩
 by_cases h0:0<=i
 ·have hj:i.toNat=j:=by
   rw [pZ h0 h5] at h1
   exact aI h1
  exact item_listR pl.isList h0 ∅ (by rw [hj];simpa using ew) fin hs
 ·have hj:(i+(its.toArray.size:Int)).toNat=j:=by
   rw [oO ∅ h4] at h1
   rw [ax,<- hl]
   exact aI h1
  exact m9 (x:=w) pl.isList.typeIs slot_list_getitem.lookup
   (wpAny_getItem_list_neg (Q:=λr s'=>r=w/\EP X pins σ Q r s') pl.isList ∅ (by rw [ax] <;> omega) ∅ (by rw [hj];simpa using ew) ⟨rfl,fin⟩) hs
theorem GE:IxR X (WW X.K):=by
 intro value slice pins s σ H x y v u Q I rx ry h hs
 obtain ⟨p,xs,i,z,rfl,rfl,hq,he,q⟩:=h
 cases rx
 obtain ⟨t,rfl⟩:=ry
 obtain ⟨its,r,pl,hz⟩:=I.tuple hq
 obtain ⟨j,h1,h2,h3,h4,h5⟩:=Yj he
 obtain ⟨w,ew,rw'⟩:=r.get h2
 have hl:=r.length
 have hn:=JM
 have fin:EP X pins σ Q w s:=⟨z,H,I,rw',q⟩
 exact m9 (x:=w) pl.typeIs slot_tuple_getitem.lookup
  (getItem_tuple (j:=j) (Q:=λr s'=>r=w/\EP X pins σ Q r s') pl ∅ ∅ (by rw [ax,<- hl];exact h1) (by simpa using ew) ⟨rfl,fin⟩) hs
theorem Zh (its:List ak) (n j:Nat) (u:ak):aY (·.setIfInBounds j u) { cls:=.type "list",data:=.seq its.toArray n }={ cls:=.type "list",data:=.seq (its.set j u).toArray n }:=by
 simp [aY]
theorem Inv.lst {p:Addr}{xs:List V}(I:Inv X pins σ H s) (h:H p=some (.lst xs)) :
  ∃(its:List ak) (n:Nat),jJ xs its/\s.heap.get? p=some { cls:=.type "list",data:=.seq its.toArray n }/\xs.length<=sizeLine:=by
 obtain ⟨z,its,n,r,e⟩:=I.hok p _ h
 exact ⟨its,n,r,e,z⟩
theorem Inv.lstUpd {p:Addr}{xs ys:List V}{its its':List ak}{n n':Nat}{f:Obj->Obj}(I:Inv X pins σ H s) (h:H p=some (.lst xs))
  (ho:s.heap.get? p=some { cls:=.type "list",data:=.seq its.toArray n }) (hf:f { cls:=.type "list",data:=.seq its.toArray n }={ cls:=.type "list",data:=.seq its'.toArray n' }) (r:jJ ys its') (hz:ys.length<=sizeLine) (t:Nat) :
  Inv X pins σ (upd H p (.lst ys)) { s with heap:=s.heap.update p f,toks:=t }:=by
 have e:(s.heap.update p f).get? p=some { cls:=.type "list",data:=.seq its'.toArray n' }:=by
  rw [dw f ho (by rw [hf] <;> rfl),hf]
 refine I.write (x:=p) (e:=p) (by rw [h];trivial) (.inl rfl) (λb u hb q=>(bS _ _ (cG hb)).trans q) ⟨_,e⟩ ?_
 exact ⟨hz,its',n',r,e⟩
noncomputable def E6:V->V->V->Hp->(Hp->Prop)->Prop:=λo i v H Q=>∃p xs k j,o = .ref p/\i = .int k/\H p=some (.lst xs)/\ixN xs.length k=some j/\Q (upd H p (.lst (xs.set j v)))
theorem vf:Et X E6:=by
 intro pins s σ H o i v ov iv u Q I ro ri rv h
 obtain ⟨p,xs,k,j,rfl,rfl,hp,hj,q⟩:=h
 cases ro
 obtain ⟨t,rfl⟩:=ri
 obtain ⟨its,n,r,ho,hz⟩:=I.lst hp
 obtain ⟨h1,h2,h3,h4⟩:=ZH hj
 have hl:=r.length
 have hn:=JM
 have I':Inv X pins σ (upd H p (.lst (xs.set j v))) { s with heap:=s.heap.update p (aY (·.setIfInBounds j u)) } :=
  I.lstUpd hp ho (Zh its n j u) (r.set rv j) (by rw [iC];exact hz) s.toks
 by_cases h0:0<=k
 ·have hk:k.toNat=j:=by
   rw [pZ h0 h4] at h1
   exact aI h1
  exact PySem.W.ki_setAt ho h0 ∅ (by rw [ax,<- hl];exact h4) (by rw [hk];exact ⟨_,I',q⟩)
 ·have hk:(k+(its.toArray.size:Int)).toNat=j:=by
   rw [oO ∅ h3] at h1
   rw [ax,<- hl]
   exact aI h1
  exact PySem.W.ki_setBack ho ∅ (by rw [ax,<- hl];exact h3) ∅ (by rw [hk];exact ⟨_,I',q⟩)
theorem Qi (lo hi:Option Int) (n:Nat):(fN lo hi none n).1=((HT.sIx n 0 lo:Nat):Int)/\(fN lo hi none n).2.1=((HT.sIx n n hi:Nat):Int)/\(fN lo hi none n).2.2=1:=by
 refine ⟨?_,?_,rfl⟩
 ·cases lo with
  | none=>simp [fN,HT.sIx]
  | some i =>
   simp only [fN,HT.sIx,pI,show (1:Int) > 0 by decide,if_true]
   by_cases h:i<0
   ·simp only [h,if_true] <;> omega
   ·simp only [h,if_false] <;> omega
 ·cases hi with
  | none=>simp [fN,HT.sIx]
  | some i =>
   simp only [fN,HT.sIx,pI,show (1:Int) > 0 by decide,if_true]
   by_cases h:i<0
   ·simp only [h,if_true] <;> omega
   ·simp only [h,if_false] <;> omega
theorem gJ (its:List ak) (lo hi:Option Int):slicePick its.toArray lo hi none=((its.drop (HT.sIx its.length 0 lo)).take (HT.sIx its.length its.length hi-HT.sIx its.length 0 lo)).toArray:=by
 obtain ⟨h1,h2,h3⟩:=Qi lo hi its.toArray.size
 unfold slicePick
 rw [h1,h2,h3]
 simp only [sliceRange_one,pick_run,ax] <;> rfl
noncomputable def rSlL (K:ah):V->Option Int->Option Int->Hp->VK->Prop:=λx lo hi H Q=>∃a xs,x = .ref a/\SqL K H a xs/\∀p,H p=none->Q (.ref p) (upd H p (.lst (ZC xs lo hi)))
theorem sl_list:SlR X (rSlL X.K):=by
 intro pins s σ H x v vl vu lo hi sl Q I rx hs pl pu h
 obtain ⟨a,xs,rfl,hx,q⟩:=h
 cases rx
 obtain ⟨its,r,ht,hz⟩:=I.list hx
 have hlen:=r.length
 refine ⟨"list",_,slot_list_getitem.lookup,ht.isList.typeIs,?_⟩
 refine lE ht.isList hs pl pu .none (by simp) ?_ (by rw [ax] <;> omega)
 rw [gJ,<- hlen]
 refine ⟨.ref s.heap.objs.size,_,I.laid (t':=s.toks) (o:=.lst (ZC xs lo hi)) (λb ob q=>aj _ q) (av _) ?_,rfl,q _ (I.hok.fresh (av _))⟩
 exact ⟨aE (ww xs lo hi) hz,_,0,(r.drop (HT.sIx xs.length 0 lo)).take (HT.sIx xs.length xs.length hi-HT.sIx xs.length 0 lo),aA _ rfl⟩
noncomputable def uF:V->Bool
 | .non=>true
 | .bl _=>true
 | .int _=>true
 | .str _=>true
 | _=>false
noncomputable def eqV:V->V->Bool
 | .non,.non=>true
 | .bl a,.bl b=>a == b
 | .bl a,.int b=>(if a then 1 else 0) == b
 | .int a,.bl b=>a == (if b then 1 else 0)
 | .int a,.int b=>a == b
 | .str a,.str b=>a == b
 | _,_=>false
theorem GF (ry:jK y u) (rx:jK x v) (fy:uF y=true) (fx:uF x=true):SeqAt.EqAt A s u v (eqV y x):=by
 cases y with
 | non =>
  cases ry
  cases x with
  | non=>cases rx;exact SeqAt.EqAt.same _
  | bl b=>cases rx;exact SeqAt.EqAt.none_bool b
  | int b=>obtain ⟨t,rfl⟩:=rx;exact SeqAt.EqAt.none_int b t
  | str b=>obtain ⟨t,rfl⟩:=rx;exact SeqAt.EqAt.none_str b t
  | _=>exact absurd (show false=true from fx) au
 | bl a =>
  cases ry
  cases x with
  | non=>cases rx;exact SeqAt.EqAt.bool_none a
  | bl b=>cases rx;exact SeqAt.EqAt.bool_bool a b
  | int b=>obtain ⟨t,rfl⟩:=rx;exact SeqAt.EqAt.bool_int a b t
  | str b=>obtain ⟨t,rfl⟩:=rx;exact SeqAt.EqAt.bool_str a b t
  | _=>exact absurd (show false=true from fx) au
 | int a =>
  obtain ⟨t',rfl⟩:=ry
  cases x with
  | non=>cases rx;exact SeqAt.EqAt.int_none a t'
  | bl b=>cases rx;exact SeqAt.EqAt.int_bool a t' b
  | int b=>obtain ⟨t,rfl⟩:=rx;exact SeqAt.EqAt.int_int a t' b t
  | str b=>obtain ⟨t,rfl⟩:=rx;exact nO a t' b t
  | _=>exact absurd (show false=true from fx) au
 | str a =>
  obtain ⟨t',rfl⟩:=ry
  cases x with
  | non=>cases rx;exact SeqAt.EqAt.str_none a t'
  | bl b=>cases rx;exact SeqAt.EqAt.str_bool a t' b
  | int b=>obtain ⟨t,rfl⟩:=rx;exact nQ a t' b t
  | str b=>obtain ⟨t,rfl⟩:=rx;exact SeqAt.EqAt.str_str a t' b t
  | _=>exact absurd (show false=true from fx) au
 | _=>exact absurd (show false=true from fy) au
noncomputable def eqU (x:V) (u:ak):Bool:=match u with
 | .none=>eqV .non x
 | .bool b=>eqV (.bl b) x
 | .int i _=>eqV (.int i) x
 | .str z _=>eqV (.str z) x
 | _=>false
theorem U8 (r:jK y u) (f:uF y=true):eqU x u=eqV y x:=by
 cases y with
 | non=>cases r;rfl
 | bl b=>cases r;rfl
 | int i=>obtain ⟨t,rfl⟩:=r;rfl
 | str z=>obtain ⟨t,rfl⟩:=r;rfl
 | _=>exact absurd (show false=true from f) au
theorem uz {x:V}:∀{xs:List V}{us:List ak},jJ xs us->xs.all uF=true->us.any (eqU x)=xs.any λy=>eqV y x
 | _,_,.nil,_=>rfl
 | y::xs,u::us,.cons r t,f=>by
  rw [di,b9] at f
  rw [fB,fB,U8 r f.1,uz t f.2]
theorem yZ (rx:jK x v) (fx:uF x=true):∀{xs:List V}{us:List ak},jJ xs us->xs.all uF=true->∀u∈us,SeqAt.EqAt A s u v (eqU x u)
 | _,_,.nil,_=>λu hu=>by cases hu
 | y::xs,u::us,.cons r t,f=>λu' hu=>by
  rw [di,b9] at f
  rcases List.mem_cons.mp hu with rfl | hu
  ·rw [U8 r f.1];exact GF r rx f.1 fx
  ·exact yZ rx fx t f.2 u' hu
noncomputable def inV (x:V) (xs:List V):Bool:=xs.any λy=>eqV y x
noncomputable def rIn (K:ah) (neg:Bool):R2:=λx y H Q=>∃p xs,y = .ref p/\(SqL K H p xs\/SqT K H p xs)/\uF x=true/\xs.all uF=true/\Q (.bl (if neg then !inV x xs else inV x xs)) H
theorem V0:OpR X (cf .In) (rIn X.K false):=by
 intro pins s σ H x y v u Q I rx ry h
 obtain ⟨p,xs,rfl,hq,fx,fs,q⟩:=h
 cases ry
 rcases hq with hq | hq
 ·obtain ⟨its,r,pl,hz⟩:=I.list hq
  refine SeqAt.in_listAt (eqU x) pl.isList (λw hw=>yZ rx fx r fs w (by simpa using hw)) ⟨.bl _,H,I,rfl,?_⟩
  rw [show its.toArray.any (eqU x)=its.any (eqU x) by simp,uz r fs]
  exact q
 ·obtain ⟨its,r,pl,hz⟩:=I.tuple hq
  refine SeqAt.in_tupleAt (eqU x) pl (λw hw=>yZ rx fx r fs w (by simpa using hw)) ⟨.bl _,H,I,rfl,?_⟩
  rw [show its.toArray.any (eqU x)=its.any (eqU x) by simp,uz r fs]
  exact q
theorem Qt:OpR X (cf .NotIn) (rIn X.K true):=by
 intro pins s σ H x y v u Q I rx ry h
 obtain ⟨p,xs,rfl,hq,fx,fs,q⟩:=h
 cases ry
 rcases hq with hq | hq
 ·obtain ⟨its,r,pl,hz⟩:=I.list hq
  refine SeqAt.notIn_listAt (eqU x) pl.isList (λw hw=>yZ rx fx r fs w (by simpa using hw)) ⟨.bl _,H,I,rfl,?_⟩
  rw [show its.toArray.any (eqU x)=its.any (eqU x) by simp,uz r fs]
  exact q
 ·obtain ⟨its,r,pl,hz⟩:=I.tuple hq
  refine SeqAt.notIn_tupleAt (eqU x) pl (λw hw=>yZ rx fx r fs w (by simpa using hw)) ⟨.bl _,H,I,rfl,?_⟩
  rw [show its.toArray.any (eqU x)=its.any (eqU x) by simp,uz r fs]
  exact q
theorem Qj:qO X (.builtin "len") (λxs H Q=>∃p ys,xs=[.ref p]/\(SqL X.K H p ys\/SqT X.K H p ys)/\Q (.int ys.length) H):=by
 intro pins s σ H xs us Q I r h
 obtain ⟨p,ys,rfl,hq,q⟩:=h
 obtain ⟨u,rfl,rx⟩:=yk r
 cases rx
 have hn:=JM
 rcases hq with hq | hq
 ·obtain ⟨its,r',pl,hz⟩:=I.list hq
  have hlen:=r'.length
  exact Calls.call_len_list pl.isList (by simp only [ax] <;> omega) ⟨.int ys.length,H,I.tok _,⟨s.toks+1,by rw [ax,hlen]⟩,q⟩
 ·obtain ⟨its,r',pl,hz⟩:=I.tuple hq
  have hlen:=r'.length
  exact len_tuple pl (by simp only [ax] <;> omega) ⟨.int ys.length,H,I.tok _,⟨s.toks+1,by rw [ax,hlen]⟩,q⟩
theorem JX:qO X (.type "list") (λxs H Q=>∃p ys,xs=[.ref p]/\(SqL X.K H p ys\/SqT X.K H p ys)/\∀l,H l=none->Q (.ref l) (upd H l (.lst ys))):=by
 intro pins s σ H xs us Q I r h
 obtain ⟨p,ys,rfl,hq,q⟩:=h
 obtain ⟨u,rfl,rx⟩:=yk r
 cases rx
 have fin:∀(its:List ak),jJ ys its->ys.length<=sizeLine->∀(h':Heap) (c':Nat),(∀b o',s.heap.get? b=some o'->h'.get? b=some o') ->
   h'.get? s.heap.objs.size=some { cls:=.type "list",dict:=none,data:=.seq its.toArray c',slots:=#[] }->EP X pins σ Q ↥19 { s with heap:=h' }:=λits r' hz h' c' kp e =>
  ⟨.ref s.heap.objs.size,_,I.laid (t':=s.toks) kp (av _) (show qv X.prog X.w _ h' _ (.lst ys) from ⟨hz,its,c',r',e⟩),rfl,q _ (I.hok.fresh (av _))⟩
 rcases hq with hq | hq
 ·obtain ⟨its,r',pl,hz⟩:=I.list hq
  have hlen:=r'.length
  obtain ⟨o,ho,hc,n,hd⟩:=pl.isList
  exact sG p (.inl rfl) ho hc hd (λh' c' kp e=>fin its r' hz h' c' kp e) (by simp only [ax] <;> omega)
 ·obtain ⟨its,r',pl,hz⟩:=I.tuple hq
  have hlen:=r'.length
  obtain ⟨o,ho,hc,n,hd⟩:=pl
  exact sG p (.inr rfl) ho hc hd (λh' c' kp e=>fin its r' hz h' c' kp e) (by simp only [ax] <;> omega)
theorem gH:qO X (.type "tuple") (λxs H Q=>∃p ys,xs=[.ref p]/\((SqL X.K H p ys/\∀l,H l=none->Q (.ref l) (upd H l (.tup ys)))\/(SqT X.K H p ys/\Q (.ref p) H))):=by
 intro pins s σ H xs us Q I r h
 obtain ⟨p,ys,rfl,h⟩:=h
 obtain ⟨u,rfl,rx⟩:=yk r
 cases rx
 rcases h with ⟨hq,q⟩ | ⟨hq,q⟩
 ·obtain ⟨its,r',pl,hz⟩:=I.list hq
  have hlen:=r'.length
  refine call_tuple_list pl.isList (λh' kp=>?_) (by simp only [ax] <;> omega)
  have I1:Inv X pins σ H { s with heap:=h' }:=I.kept (t':=s.toks) kp
  have I2:Inv X pins σ (upd H h'.objs.size (.tup ys)) { s with heap:=h'.push { cls:=.type "tuple",data:=.seq its.toArray } } :=
   I1.laid (t':=s.toks) (λb o e=>aj _ e) (av _) (show qv X.prog X.w _ _ _ (.tup ys) from ⟨hz,its,r',pH _ _⟩)
  exact ⟨.ref h'.objs.size,_,I2,rfl,q _ (I1.hok.fresh (av _))⟩
 ·obtain ⟨its,r',pl,hz⟩:=I.tuple hq
  exact call_tuple_same pl ⟨.ref p,H,I,rfl,q⟩
noncomputable def tyV (K:ah) (T:String) (x:V) (H:Hp):Prop:=match x with
 | .str _=>T = "str"
 | .int _=>T = "int"
 | .ref p=>(T = "list" /\ ∃xs,SqL K H p xs)\/(T = "tuple" /\ ∃o,K.lookup p=some o/\o.cls = .type "tuple" /\ o.dict=none) \/
   (T = "dict" /\ ((∃kvs,H p=some (.dK kvs))\/∃kvs,H p=some (.dT kvs)))\/(T = "set" /\ ∃S n,H p=some (.set S n))
 | _=>False
theorem WK {T:String}(I:Inv X pins σ H s) (r:jK x v) (ty:tyV X.K T x H) :
  s.TypeIs v T/\∀a,v = .ref a->∃ob,s.heap.get? a=some ob/\ob.dict=none:=by
 cases x with
 | str z =>
  obtain ⟨t,rfl⟩:=r
  cases (show T = "str" from ty)
  exact ⟨typeIs_str s z t,λ_ e=>nomatch e⟩
 | int i =>
  obtain ⟨t,rfl⟩:=r
  cases (show T = "int" from ty)
  exact ⟨typeIs_int s i t,λ_ e=>nomatch e⟩
 | ref p =>
  cases r
  rcases ty with ⟨rfl,xs,hq⟩ | ⟨rfl,o,hk,hc,hd⟩ | ⟨rfl,hk⟩ | ⟨rfl,S,n,hk⟩
  ·obtain ⟨its,_,pl,_⟩:=I.list hq
   refine ⟨pl.isList.typeIs,λa e=>?_⟩
   cases e
   obtain ⟨o,n,e,c,hd,_⟩:=pl
   exact ⟨o,e,hd⟩
  ·refine ⟨⟨o,I.kIn p o hk,hc⟩,λa e=>?_⟩
   cases e
   exact ⟨o,I.kIn _ o hk,hd⟩
  ·have z:∃o,s.heap.get? p=some o/\o.ExactDict:=by
    rcases hk with ⟨kvs,hk⟩ | ⟨kvs,hk⟩
    ·obtain ⟨_,_,_,_,o,_,_,e,ex,_⟩:=I.hok p _ hk
     exact ⟨o,e,ex⟩
    ·obtain ⟨_,_,_,_,o,_,_,e,ex,_⟩:=I.hok p _ hk
     exact ⟨o,e,ex⟩
   obtain ⟨o,e,ex⟩:=z
   refine ⟨⟨o,e,ex.1⟩,λa e2=>?_⟩
   cases e2
   exact ⟨o,e,ex.2.1⟩
  ·obtain ⟨o,_,_,_,e,ex,_⟩:=I.hok p _ hk
   refine ⟨⟨o,e,ex.1⟩,λa e2=>?_⟩
   cases e2
   exact ⟨o,e,ex.2.1⟩
 | _=>exact bg ty
noncomputable def tBM (K:ah) (T:String) (r:V->List V->Hp->VK->Prop) (to:TE) (t:TA):TE:=λσ H Q=>to σ H λx H1=>tyV K T x H1/\t σ H1 λxs H2=>r x xs H2 Q
variable {o e:Expr}{es:List Expr}{to:TE}{t:TA}{name:Str}{apos cpos:Pos}{T id:String}{r:V->List V->Hp->VK->Prop}
theorem GH (pa:PlainAttrs T) (slot:Slot T name id) (hty:rS (.builtin id)=pure (.type "method_descriptor")) (hm:MtR X id r) (ho:PE X o to) (ha:PA X (e::es) t)
  (hbase:eJ o name X.env (eval o X.env)=eval o X.env:=by rfl)
  (hfew:((cp cpos (aJ (e::es) X.env)).all (λx=>!x.1) && (ft cpos (dh [] X.env)).all (λx=>x.1.isSome)
   && decide ((e::es).length+([]:List iJ).length+(if ([]:List iJ).isEmpty then 0 else 1)<30))=true:=by rfl)
  (hline:(apos.endLine == cpos.line)=true:=by rfl) (hs:aJ (e::es) X.env=↥45::aJ es X.env:=by rfl) (hplain:(cp cpos (aJ es X.env)).any (·.1)=false:=by rfl) :
  PE X (.Call (.Attribute o name apos) (e::es) [] cpos) (tBM X.K T r to t):=by
 intro pins s σ H Q I h
 refine wpAny_Call_method_late hbase hfew hline rfl (thn (ho pins s σ H _ I h) λv s1 ⟨x,H1,I1,r1,ty,q1⟩=>?_)
 obtain ⟨h1,h2⟩:=WK I1 r1 ty
 refine ⟨T,id,pa,slot,hty,h1,h2,?_⟩
 have hA:=ha cpos pins s1 σ H1 _ I1 q1
 rw [hs] at hA ⊢
 refine fW (by show (false || (cp cpos (aJ es X.env)).any (·.1))=false;rw [hplain] <;> rfl) (eX ?_)
 exact thn hA λus s2 ⟨vs,H2,I2,r2,q2⟩=>hm pins s2 σ H2 x vs v us Q I2 r1 r2 q2
end
end L2
namespace L2
noncomputable def MtM (X:Cx) (id:String) (r:V->List V->Hp->VK->Prop):Prop :=
 ∀(pins:List (Addr×Obj)) (s:Shared) (σ:St) (H:Hp) (x:V) (xs:List V) (v:ak) (us:List ak) (Q:VK),Inv X pins σ H s->jK x v->jJ xs us->r x xs H Q ->
  az ↥6 X.A (call (.builtin id) (v::us)) ↥73 X.xe s
theorem jJ.one:∀{x:V}{us:List ak},jJ [x] us->∃u,us=[u]/\jK x u
 | _,_,.cons r .nil=>⟨_,rfl,r⟩
theorem jJ.dropLast {xs:List V}(h:jJ xs us):jJ xs.dropLast us.dropLast:=by
 induction h with
 | nil=>exact .nil
 | cons r t ih =>
  cases t with
  | nil=>exact .nil
  | cons q t'=>exact .cons r ih
theorem jJ.reverse {xs:List V}(h:jJ xs us):jJ xs.reverse us.reverse:=by
 induction h with
 | nil=>exact .nil
 | cons r t ih=>rw [lu,lu];exact jJ.append ih (.cons r .nil)
section
variable {X:Cx}{pins:List (Addr×Obj)}{σ:St}{H:Hp}{s:Shared}{l b:Addr}{xs ys zs:List V}
theorem Inv.lset {its its':List ak}{n:Nat}{f:Array ak->Array ak}{t':Nat}(I:Inv X pins σ H s) (hH:H l=some (.lst xs))
  (e:s.heap.get? l=some { cls:=.type "list",data:=.seq its.toArray n }) (hf:f its.toArray=its'.toArray) (hv:jJ ys its') (hz:ys.length<=sizeLine) :
  Inv X pins σ (upd H l (.lst ys)) { s with heap:=s.heap.update l (aY f),toks:=t' }:=by
 have q:=PySem.IsL.update e f
 rw [hf] at q
 refine I.write (x:=l) (e:=l) (by rw [hH];exact trivial) (.inl rfl) (λb' u hb hu=>(bS s.heap (aY f) (cG hb)).trans hu) ⟨_,q⟩ ?_
 exact ⟨hz,its',_,hv,q⟩
theorem Inv.lnew {t':Nat}(I:Inv X pins σ H s) (hv:jJ ys its) (hz:ys.length<=sizeLine) :
  Inv X pins σ (upd H s.heap.objs.size (.lst ys)) { s with heap:=s.heap.push { cls:=.type "list",data:=.seq its.toArray },toks:=t' } :=
 I.laid (λ_ _ q=>aj _ q) (av _) ⟨hz,its,0,hv,aA _ rfl⟩
theorem Inv.fresh (I:Inv X pins σ H s):H s.heap.objs.size=none:=I.hok.fresh (av _)
theorem Inv.lstM (I:Inv X pins σ H s) (hH:H l=some (.lst xs)):xs.length<=sizeLine/\∃(its:List ak) (n:Nat),jJ xs its/\xs.length=its.length/\s.heap.get? l=some { cls:=.type "list",data:=.seq its.toArray n }:=by
 obtain ⟨z,its,n,r,e⟩:=I.hok l _ hH
 exact ⟨z,its,n,r,r.length,e⟩
theorem Vj {n:Nat}(h:n<=sizeLine):fC n=false:=by
 unfold fC
 exact decide_eq_false ∅
end
section
variable {X:Cx}
noncomputable def UA:V->List V->Hp->VK->Prop:=λx vs H Q=>∃l xs y,x = .ref l/\vs=[y]/\H l=some (.lst xs)/\xs.length<sizeLine/\Q .non (upd H l (.lst (xs++[y])))
theorem qL:MtM X "list.append" UA:=by
 intro pins s σ H x vs v us Q I rx rv h
 obtain ⟨l,xs,y,rfl,rfl,hH,hz,q⟩:=h
 cases rx
 obtain ⟨u,rfl,ru⟩:=rv.one
 obtain ⟨z,its,n,r,hl,e⟩:=I.lstM hH
 refine rT F.slot_list_append ⟨_,e,rfl⟩ F.entry_list_append (F.args_list_append_2 _ _) (PySem.list_append l its.toArray n u (by rw [ax];omega)) ⟨e,?_⟩
 refine ⟨.non,_,I.lset (its':=its++[u]) hH e (by simp) (r.append (.cons ru .nil)) ?_,rfl,q⟩
 rw [ay,b7]
 omega
noncomputable def UV:V->List V->Hp->VK->Prop:=λx vs H Q=>∃l b xs zs,x = .ref l/\vs=[.ref b]/\H l=some (.lst xs)/\H b=some (.lst zs)/\xs.length+zs.length<=sizeLine/\Q .non (upd H l (.lst (xs++zs)))
theorem GG:MtM X "list.extend" UV:=by
 intro pins s σ H x vs v us Q I rx rv h
 obtain ⟨l,b,xs,zs,rfl,rfl,hH,hB,hz,q⟩:=h
 cases rx
 obtain ⟨u,rfl,ru⟩:=rv.one
 cases ru
 obtain ⟨z,its,n,r,hl,e⟩:=I.lstM hH
 obtain ⟨z2,its2,n2,r2,hl2,e2⟩:=I.lstM hB
 have hsz:its.toArray.size+its2.toArray.size<=sizeLine:=by rw [ax,ax];omega
 have hlong:¬(!its.toArray.isEmpty && fC (its.toArray.size+its2.toArray.size))=true:=by
  rw [Vj hsz,rV]
  exact au
 refine rT F.slot_list_extend ⟨_,e,rfl⟩ F.entry_list_extend (F.args_list_extend_2 _ _)
  (AutoSeq1.list_extend_list_list_0 l its.toArray n b its2.toArray n2 hlong (by rw [ax];omega) ∅) ⟨e,e2,?_⟩
 refine ⟨.non,_,I.lset (its':=its++its2) hH e (by simp) (r.append r2) ?_,rfl,q⟩
 rw [ay]
 omega
noncomputable def rCat:R2:=λx y H Q=>∃l b xs zs,x = .ref l/\y = .ref b/\H l=some (.lst xs)/\H b=some (.lst zs)/\xs.length+zs.length<=sizeLine/\∀p,H p=none->Q (.ref p) (upd H p (.lst (xs++zs)))
theorem WE:OpR X (eC .Add) rCat:=by
 intro pins s σ H x y v u Q I rx ry h
 obtain ⟨l,b,xs,zs,rfl,rfl,hH,hB,hz,q⟩:=h
 cases rx
 cases ry
 obtain ⟨z,its,n,r,hl,e⟩:=I.lstM hH
 obtain ⟨z2,its2,n2,r2,hl2,e2⟩:=I.lstM hB
 refine PySem.P.add_list e e2 ?_ (by rw [ax,ax];omega)
 have ea:its.toArray++its2.toArray=(its++its2).toArray:=by simp
 rw [ea]
 exact ⟨.ref _,_,I.lnew (t':=s.toks) (r.append r2) (by rw [ay];omega),rfl,q _ I.fresh⟩
end
section
variable {prog:Program}{w:bp}{A:br}{E:ak->Shared->Prop}{s:Shared}
set_option maxRecDepth 100000 in
end
section
variable {X:Cx}
end
end L2
namespace Att
open PySem PySem.W PySem.Calls PyProof.Rows
theorem wJ :∀(ns:List Int) (vs:List ak),WellAll P h vs (ns.map WData.int)->de vs ns:=by
 intro ns
 induction ns with
 | nil =>
  intro vs w
  rw [fh] at w
  cases w
  exact .nil
 | cons n ns ih =>
  intro vs w
  rw [aV] at w
  cases w with
  | cons a b =>
   cases a
   exact .cons _ _ (ih _ b)
theorem V2 {l:OpenLaw}{n:Nat}(hn:l.most=some n) 
  (hpre:l.row.toRowW.claim.pre args=true) (hwl:WellAll P h vals args) :
  ∃a vs ns,vals=[aS a]/\args=[WData.list (ns.map WData.int)]/\h.get? a=some { cls:=.type "list",data:=.seq vs.toArray }/\de vs ns/\ns.length<=n:=by
 have hsh:WShape.hasAll [] args [.list .int]=true:=(pre_splitW hpre).1
 have hc:l.pre.holds [] { args:=args }=true:=(pre_splitW hpre).2
 obtain ⟨d,r,rfl,h1,h2⟩:=hasAllW_cons hsh
 obtain rfl:=hasAllW_nil h2
 obtain ⟨xs,rfl,h3⟩:=hasW_list h1
 obtain ⟨ns,rfl⟩:=items_int h3
 have hlen:ns.length<=n:=by
  unfold OpenLaw.pre at hc
  have h4:(WTm.not (.lt (.lit (.int (n:Int))) (.len (.arg 0)))).holds [] { args:=[.list (ns.map .int)] }=true:=by
   have h4:=(holds_andW hc).1
   rw [hn] at h4
   exact h4
  have h5:=condW_of h4 (w_not (w_lt w_lit (w_len_list (w_arg rfl))))
  rw [af] at h5
  refine Nat.le_of_not_lt λq=>?_
  have q':(n:Int)<((ns.length:Nat):Int):=∅
  first
   | (rw [decide_eq_true q'] at h5;exact absurd h5 ⋯)
   | (simp at h5;omega)
 cases hwl with
 | cons w1 w2 =>
  cases w2
  cases w1 with
  | list ho hall=>exact ⟨_,_,ns,rfl,rfl,ho,wJ ns _ hall,hlen⟩
theorem V6 (l:OpenLaw) (args:List WData):l.row.toRowW.claim.post args (.bool true) args=true :=
 postW_of (r:=l.row.toRowW) (X:=(true == true))
  (show WShape.has [] (.bool true) .bool=true by first | rfl | decide | simp [WShape.has,WShape.arms,WShape.armsAll])
  (show (WTm.eq .res (.lit (.bool true))).value [] { args:=args,res:=some (.bool true),after:=args }=some (.bool (true == true)) from w_eq_bool (w_res rfl) w_lit) rfl
theorem attach_call {l:OpenLaw}{n:Nat}{q:Program}{loose:List Str}{XP:(Str->Option ak)->Heap->Prop}{YP:bp->Heap->Prop}{d:DefRec}
  (hn:l.most=some n) (hdf:d.params.defaults=[])
  (call:∀(w:bp) (s₀ s₁:Shared) (mg mb:Str->Option ak) (fa:Addr) (o:Obj) (pm cd doc:ak) (a:Addr) (vs:List ak) (ns:List Int),
   Ground q loose [] XP w s₀ mg mb s₁.heap->YP w s₁.heap ->
   s₁.heap.get? fa=some o->o.data = .func (docDef d.name d.params d.body d.scope pm cd doc)->s₁.heap.CodeRec cd d.name->mg d.name=some (.ref fa) ->
   s₁.heap.get? a=some { cls:=.type "list",data:=.seq vs.toArray }->de vs ns->ns.length<=n->s₁.gens = #[] ->
   cW (aC l.prog w) ni (.call (.ref fa) ⟨[.ref a],[]⟩) ↥81 s₁) :
  WalkO q loose XP YP l.row.toRowW d [] (λf vs=>PySem.call f vs):=by
 intro w s₀ s₁ mg mb G Y fa o pm cd doc dV kV ho hd hcd hD hmg hg args vals as hpre hlay hrd hwl hlo
 obtain rfl:dV = .none:=Dflts.none hD hdf
 obtain rfl:kV = .none:=Dflts.noKw hD
 obtain ⟨a,vs,ns,rfl,rfl,hobj,hints,hlen⟩:=V2 hn hpre hwl
 refine enter_call (d9 (call w s₀ s₁ mg mb fa o pm cd doc a vs ns G Y ho (fd_plain hd) hcd hmg hobj hints hlen hg) λr s' hq=>?_)
 obtain ⟨rfl,h2,h3,h4⟩:=hq
 exact ⟨.inl ⟨.bool true,.bool true,[],rfl,λ_=>rfl,.bool true,V6 l _,λ_=>⟨eU,λ_ hm=>(nomatch hm)⟩⟩,h2,h3,h4⟩
section
variable {prog:Program}{w:bp}{A:br}{E:ak->Shared->Prop}{s:Shared}{K:Frag}
noncomputable def ledger (h:Heap) (L d:Addr):List (Addr×Obj):=(aW h.objs.size).filterMap λa=>if a=L\/a=d then none else (h.get? a).map λo=>(a,o)
end
end Att
namespace L2
theorem uP:∀{vs:List ak}{ns:List Int},de vs ns->jJ (ns.map V.int) vs
 | _,_,.nil=>.nil
 | _,_,.cons n t h=>.cons ⟨t,rfl⟩ (uP h)
end L2
namespace L2
end L2
namespace L2
noncomputable def qz (s:Stmt) (j:Nat):Stmt:=match s with
 | .ClassDef _ _ _ body _ _ _ _ _ _ _=>body.getD j (.Pass ⟨0,0,0,0⟩)
 | _=>.Pass ⟨0,0,0,0⟩
noncomputable def qh (s:Stmt):Arguments:=match s with
 | .FunctionDef _ a _ _ _ _ _ _ _ _=>a
 | _=>{ posonlyargs:=[],args:=[],vararg:=none,kwonlyargs:=[],kw_defaults:=[],kwarg:=none,defaults:=[] }
noncomputable def jQ (s:Stmt):List Stmt:=match s with
 | .FunctionDef _ _ b _ _ _ _ _ _ _=>b
 | _=>[]
noncomputable def ja (s:Stmt):Scope:=match s with
 | .FunctionDef _ _ _ _ _ _ sc _ _ _=>sc
 | _=>{ kind:=.function,names:=[],isGenerator:=false,isCoroutine:=false }
noncomputable abbrev CX0:CXT:=λ_ _ _ _ _ _=>False
noncomputable abbrev E0:XK:=λ_ _ _=>False
theorem Vq :kG CX0 X E0:=λ_ _ _ _ _ _ _ h=>h.elim
structure Fun (K:ah) (x qual:Str) (st:Stmt) (f:Addr) (fd:FuncData):Prop where
 ex:∃(oc:ak) (od:Option Addr) (kV doc pm:ak) (an:Option Addr) (cdv ct:ak) (osl:Array (Option ak)),
  fd=bE x qual (qh st) (jQ st) (ja st) .none kV doc pm an cdv ct/\K.lookup f=some ⟨oc,od,.func fd,osl⟩/\cz K cdv qual=true
 kp:bK K (.ref f)=true
section
variable {P:Program}{w:bp}{K:ah}{mg:Str->Option ak}{base:Heap}
theorem Fun.ok {x:Str}{st:Stmt}{N:List Str}{k:Nat}{sp:Sp}(F:Fun K x qual st f fd) (S:FnScope N ps (ja st)) (len:∀vs H Q E,sp vs H Q E->vs.length=ps.length)
  (hbody:∀(cdv:ak) (A:br) (outer:List Env) (s:Shared) (H:Hp) (vs:List V) (Q:VK) (E:XK),Room k (A.deeper (iB qual (ja st) s.heap.objs.size f cdv))->sp vs H Q E ->
   ∃t,PSs (vI CX0 P w K mg base N qual (ja st) f cdv A outer s H E).nox (jQ st) t/\t { nx:=λ_ H'=>Q .non H',rt:=Q } (start N vs) H):FnOk P w K mg base CX0 (k+1) f fd ps sp:=by
 obtain ⟨oc,od,kV,doc,pm,an,cdv,ct,osl,rfl,lk,hcd⟩:=F.ex
 refine Ul lk hcd S len λA outer s H vs Q E hr hsp=>?_
 obtain ⟨t,h,q⟩:=hbody cdv A outer s H vs Q E hr hsp
 exact ⟨t,h.nox,q⟩
theorem Fun.binds {x:Str}{st:Stmt}{ps:List Str}(F:Fun K x qual st f fd)
  (h:∀(kV doc pm:ak) (an:Option Addr) (cdv ct:ak) (us:List ak),us.length=ps.length->cC (bE x qual (qh st) (jQ st) (ja st) .none kV doc pm an cdv ct) ⟨us,[]⟩=pure (ps.zip us)):zV K fd ps []:=by
 obtain ⟨oc,od,kV,doc,pm,an,cdv,ct,osl,rfl,lk,hcd⟩:=F.ex
 exact .all (h kV doc pm an cdv ct)
theorem vt {st:Stmt}{oc:ak}{od:Option Addr}{osl:Array (Option ak)}{kV pm:ak}(l:K.lookup f=some ⟨oc,od,.func (bE x qual (qh st) (jQ st) (ja st) .none kV doc pm an cdv ct),osl⟩)
  (c:cz K cdv qual=true) (k:bK K (.ref f)=true):Fun K x qual st f (bE x qual (qh st) (jQ st) (ja st) .none kV doc pm an cdv ct):=⟨⟨oc,od,kV,doc,pm,an,cdv,ct,osl,rfl,l,c⟩,k⟩
end
theorem jE {k:Nat}(hr:Room k A):A.units+1<cLine:=c8 (Nat.add_le_add_left (by decide:1<=64) _) hr.units
theorem jh {n:Nat}(h:n<=1000):n<sizeLine:=c8 h ⋯
section
variable {X:Cx}
theorem pv (i:Nat) (hN:X.N[i]? = some x:=by rfl) (hv:Vis X.env.scope x:=by first | exact bf rfl | exact ib (bf rfl) | exact ib (ib rfl)) (hd: ↥33=false:=by decide)
  (hcd:(x == ("__classdict__" : Str))=false:=by decide):PE X (.Name x pos) (uq i):=G1 hN hv hd hcd
end
theorem wY {A B:Prop}(h:B):if false=true then A else B:=by
 rw [if_neg au]
 exact h
theorem zw {A B:Prop}(h:A):if true=true then A else B:=by
 rw [if_pos rfl]
 exact h
noncomputable def jn (H H':Hp):Prop:=∀b o,H b=some o->H' b=some o
theorem jn.refl (H:Hp):jn H H:=λ_ _ h=>h
theorem jn.trans (a:jn H H1) (b:jn H1 H2):jn H H2:=λc o h=>b c o (a c o h)
theorem jn.free (e:jn H H') (h:H' l=Option.none):H l=Option.none:=by
 cases q:H l with
 | none=>rfl
 | some o =>
  rw [e l o q] at h
  cases h
end L2
section
namespace L2
theorem Zm (env:Env) (f:Str×fU->List (Str×Addr)->Sem (ForInStep (List (Str×Addr))))
  (hf:∀n k r,f (n,k) r=if (k == ba)=true then (sP env n >>= λa=>pure (bU ((n,a)::r))) else pure (bU r)) :
  ∀(names:List (Str×fU)) (acc:List (Str×Addr)),(∀x∈names,x.2 = .free->∃c,env.cells.lookup x.1=some c) ->
  ∃cl,sX names acc f=pure cl/\∀x,cl.lookup x=if (x,ba)∈names then env.cells.lookup x else acc.lookup x:=by
 intro names
 induction names with
 | nil=>intro acc _;exact ⟨acc,rfl,λx=>by rw [if_neg (by simp)]⟩
 | cons y r ih =>
  intro acc h
  obtain ⟨n,k⟩:=y
  have hr:∀x∈r,x.2 = .free->∃c,env.cells.lookup x.1=some c:=λx hx=>h x (aH _ hx)
  by_cases hk:k = .free
  ·subst hk
   obtain ⟨c,hc⟩:=h (n,.free) aO rfl
   obtain ⟨cl,e,p⟩:=ih ((n,c)::acc) hr
   refine ⟨cl,?_,λx=>?_⟩
   ·rw [iD,hf,if_pos (by rfl)]
    have e1:sP env n=pure c:=by unfold sP;rw [hc]
    rw [e1]
    exact e
   ·rw [p x]
    by_cases hx:x=n
    ·subst hx
     rw [if_pos (aO),cD,beq_self_eq_true]
     by_cases hm:(x,ba)∈r
     ·rw [if_pos hm]
     ·rw [if_neg hm];exact hc.symm
    ·have hb:(x == n)=false:=beq_eq_false_iff_ne.mpr hx
     rw [cD,hb]
     by_cases hm:(x,ba)∈r
     ·rw [if_pos hm,if_pos (aH _ hm)]
     ·rw [if_neg hm,if_neg (by
       intro z
       rcases List.mem_cons.mp z with z | z
       ·exact hx (congrArg oP z)
       ·exact hm z)]
  ·obtain ⟨cl,e,p⟩:=ih acc hr
   have hb:(k == ba)=false:=by simpa using hk
   refine ⟨cl,?_,λx=>?_⟩
   ·rw [iD,hf,hb,if_neg au]
    exact e
   ·rw [p x]
    by_cases hm:(x,ba)∈r
    ·rw [if_pos hm,if_pos (aH _ hm)]
    ·rw [if_neg hm,if_neg (by
      intro z
      rcases List.mem_cons.mp z with z | z
      ·exact hk (congrArg oQ z).symm
      ·exact hm z)]
theorem yB {scope:Scope}{env:Env}(h:∀x∈scope.names,x.2 = .free->∃c,env.cells.lookup x.1=some c) :
  ∃cl,o9 scope env=pure cl/\∀x,cl.lookup x=if (x,ba)∈scope.names then env.cells.lookup x else none:=by
 have hh:=Zm env (λ(x:Str×fU) r=>match x with | (n,k)=>if (k == ba)=true then (sP env n >>= λa=>pure (bU ((n,a)::r))) else pure (bU r)) (λ_ _ _=>rfl) scope.names [] h
 obtain ⟨cl,e,p⟩:=hh
 refine ⟨cl,?_,λx=>by rw [p x];rfl⟩
 unfold o9
 have e':sX scope.names ([]:List (Str×Addr)) (λ(x:Str×fU) r=>match x with | (n,k)=>if (k == ba)=true then (sP env n >>= λa=>pure (bU ((n,a)::r))) else pure (bU r))=(pure cl:Sem _):=e
 show (sX scope.names ([]:List (Str×Addr)) _ >>= λcs=>pure cs)=_
 first
  | (rw [e'];rfl)
  | (simp only [bind_pure];exact e')
structure CompSc (osc:Scope) (ON:List Str) (scope:Scope) (own:Nat) (N:List Str) (caps:List Nat):Prop where
 kind:scope.kind = .function
 nocell:∀y∈scope.names,y.2≠.cell
 loc:∀y∈scope.names,y.2 = .local->scope.names.lookup y.1=some .local
 fre:∀y∈scope.names,y.2 = .free->scope.names.lookup y.1=some .free/\(osc.names.lookup y.1=some .cell\/osc.names.lookup y.1=some .free)
 len:N.length=own+caps.length
 cap:∀p∈(N.drop own).zip caps,ON[p.2]? = some p.1/\(p.1,ba)∈scope.names
noncomputable def yQ (own:Nat) (caps:List Nat) (σ:St):St:=dq own none++caps.map λj=>(σ[j]?).getD none
noncomputable def Cx.block (X:Cx) (scope:Scope) (cl:List (Str×Addr)) (C:Addr) (N:List Str) (s:Shared) (H:Hp) (ex:List Addr):Cx :=
 { X with N:=N,s₀:=s,H₀:=H,env:=oR scope cl C X.env,outer:=X.stack,ex:=ex,fn:=λx=>decide (scope.names.lookup x=some .local),pn:=[],xe:=λ_ _=>False }
theorem yv {env:Env}:∀{names:List (Str×fU)}{x:Str}{k:fU},
  (names.map λ(n,k)=>if (k == ba && env.scope.kind == .function && env.kindOf n == some .cell) then (n,il) else (n,k)).lookup x=some k ->
  ∃k',names.lookup x=some k'/\(k'=k\/(k' = .free/\k = .cell))
 | [],_,_,h=>by simp at h
 | (n,k0)::r,x,k,h=>by
  have ih:=@yv env r x k
  have h':dS x ((if (k0 == ba && env.scope.kind == .function && env.kindOf n == some .cell)=true then (n,il) else (n,k0))::r.map λ(n,k)=>if (k == ba && env.scope.kind == .function && env.kindOf n == some .cell) then (n,il) else (n,k))=some k:=h
  cases hx:x == n with
  | true =>
   by_cases hc:(k0 == ba && env.scope.kind == .function && env.kindOf n == some .cell)=true
   ·rw [if_pos hc,cD,hx] at h'
    cases h'
    refine ⟨k0,by rw [cD,hx],.inr ⟨?_,rfl⟩⟩
    rw [b9,b9] at hc
    exact sM hc.1.1
   ·rw [if_neg hc,cD,hx] at h'
    cases h'
    exact ⟨k0,by rw [cD,hx],.inl rfl⟩
  | false =>
   have h2:dS x (r.map λ(n,k)=>if (k == ba && env.scope.kind == .function && env.kindOf n == some .cell) then (n,il) else (n,k))=some k:=by
    by_cases hc:(k0 == ba && env.scope.kind == .function && env.kindOf n == some .cell)=true
    ·rw [if_pos hc,cD,hx] at h';exact h'
    ·rw [if_neg hc,cD,hx] at h';exact h'
   obtain ⟨k',e,d⟩:=ih h2
   exact ⟨k',by rw [cD,hx];exact e,d⟩
noncomputable def hW (X:Cx) (ifs:List Expr) (t:TT):Prop :=
 ∀(pins:List (Addr×Obj)) (s:Shared) (σ:St) (H:Hp) (Q:Bool->Hp->Prop),Inv X pins σ H s->t σ H Q ->
  az ↥6 X.A (sX ifs true λc r=>if r=true then do let ok <- isTrue c X.env (eval c X.env);pure (bU ok) else pure (bU r)) (TP X pins σ Q) X.xe s
noncomputable def E3:TT:=λ_ H Q=>Q true H
theorem jC :hW X [] E3:=λ_ _ _ H _ I h=>wpAny_tests_nil ⟨H,I,h⟩
theorem kX (h:PT X c t):hW X [c] t:=λpins s σ H Q I hw=>wpAny_tests_one (h pins s σ H Q I hw)
section
variable {prog:Program}{w:bp}{A:br}{R:nW->Shared->Prop}{s:Shared}
theorem wn {elt target iter:Expr}{ifs:List Expr}{it acc:ak}{env:Env}(I:Nat->Shared->Prop)
  (turn:∀n s,I n s->az (aC prog w) A (fm it) (λr s₁=>match r with
   | none=>R (.ok .next) s₁
   | some v=>az (aC prog w) A (cS target it v) (λ_ s₂=>az (aC prog w) A (i8 target env v) (λ_ s₃ =>
     az (aC prog w) A (sX ifs true λc r=>if r=true then do let ok <- isTrue c env (eval c env);pure (bU ok) else pure (bU r)) (λok s₄ =>
      if ok=true then az (aC prog w) A (eval elt env) (λx s₅ =>
       az (aC prog w) A (call (.builtin "list.append") [acc,x]) (λ_ s₆=>∃m,m<n/\I m s₆) (λ_ _=>False) s₅) (λ_ _=>False) s₄
      else ∃m,m<n/\I m s₄) (λ_ _=>False) s₃) (λ_ _=>False) s₂) (λ_ _=>False) s₁) (λ_ _=>False) s)
  (n:Nat) (h:I n s) :
  cW (aC prog w) A (.compLoop (.ListComp elt [⟨target,iter,ifs,0⟩] scope pos) 0 it acc env) R s:=by
 refine oS rfl I (λn s hI=>?_) n h
 show az _ A ((oU (.ListComp elt [⟨target,iter,ifs,0⟩] scope pos) 0 it acc env).onRaise (λx=>do iQ x env;mn x)) _ _ s
 refine r9 ?_
 rw [compTurn_list]
 refine aa (cV (aa (aX (turn n s hI) (λr s₁ h₁=>?_) λ_ _ h'=>h'.elim)))
 cases r with
 | none=>exact wpAny_pure h₁
 | some v =>
  refine aa (aX h₁ (λ_ s₂ h₂=>?_) λ_ _ h'=>h'.elim)
  refine aa ↥70
  cases ok with
  | false=>exact wpAny_pure ⟨rfl,h₄⟩
  | true =>
   exact aa (aa (aX h₄ (λx s₅ h₅=>aa (aX h₅ (λ_ s₆ h₆=>wpAny_pure (wpAny_pure ⟨rfl,h₆⟩)) λ_ _ h'=>h'.elim)) λ_ _ h'=>h'.elim))
end
section
variable {X:Cx}{pos:Pos}
noncomputable def Vv (own:Nat) (caps:List Nat) (wi:TI) (g:TG) (ti:TT) (te:TE):TE:=λσ H Q=>wi σ H λJ H1=>∀acc,H1 acc=none ->
 ∃W:Nat->Nat->St->Hp->Prop,(∃m,W 0 m (yQ own caps σ) (upd H1 acc (.lst [])))/\∀i m σ' H',W i m σ' H' ->
  (J.stop i H'/\Q (.ref acc) H') \/
  (J.go i H'/\∃NX:St->Hp->Prop,↥17 /\
   ∀x H2,J.yld i H' x H2->g x σ' H2 λσ3 H3=>ti σ3 H3 λok H4=>if ok=true then te σ3 H4 λv H5=>∃ys,H5 acc=some (.lst ys)/\ys.length<sizeLine/\NX σ3 ↥31 else NX σ3 H4)
theorem VY {own:Nat}{cl:List (Str×Addr)}{C:Addr}{fp:List Addr}
  (S:CompSc osc ON scope own N caps) (hsc:X.env.scope=osc) (hcl:∀x,cl.lookup x=if (x,ba)∈scope.names then X.env.cells.lookup x else none)
  (I:Inv X pins σ H s) (hC:s.heap.objs.size<=C) (hf:∀b∈fp,yJ X pins H b) (hfs:∀b∈fp,b<s.heap.objs.size):(X.block scope cl C N s H fp).Ok:=by
 have fromX:∀x c,cl.lookup x=some c->X.env.cells.lookup x=some c/\(x,ba)∈scope.names:=λx c e=>by
  rw [hcl x] at e
  by_cases hm:(x,ba)∈scope.names
  ·rw [if_pos hm] at e;exact ⟨e,hm⟩
  ·rw [if_neg hm] at e;cases e
 refine ⟨I.ok.mod,S.kind,I.ok.glob,I.ok.blt,hC,λx y c h1 h2=>I.ok.inj x y c (fromX x c h1).1 (fromX y c h2).1,λx hx=>?_,λx c h1 h2=>?_,I.ok.hd,I.ok.frames,.inl rfl,λb hb=>?_,I.bs,aE I.ok.bsz I.sz,λb o e hb=>?_,λb hb hb2=>?_,I.stack,I.stkFree⟩
 ·-- has
  have key:∀k,(k=il\/k=ba)->(sQ scope X.env).names.lookup x=some k->∃c,cl.lookup x=some c:=λk hk e=>by
   obtain ⟨k',e',d⟩:=yv (env:=X.env) e
   have hmem:=d7 e'
   have hfree:k' = .free:=by
    rcases d with d | d
    ·subst d
     rcases hk with z | z
     ·exact absurd z (S.nocell _ hmem)
     ·exact z
    ·exact d.1
   subst hfree
   obtain ⟨_,hk2⟩:=S.fre _ hmem rfl
   obtain ⟨c,hc⟩:=I.ok.has x (by unfold rW;rw [hsc];exact hk2)
   exact ⟨c,by rw [hcl x,if_pos hmem];exact hc⟩
  rcases hx with z | z
  ·exact key _ (.inl rfl) z
  ·exact key _ (.inr rfl) z
 ·-- cab
  have h1':scope.names.lookup x=some .local:=of_decide_eq_true h1
  have hm:=(fromX x c h2).2
  have:=(S.fre _ hm rfl).1
  rw [h1'] at this
  cases this
 ·refine ⟨aB (aK (hfs b hb) hC),λx c e=>(hf b hb).2.2.2.2.1 x c (fromX x c e).1⟩
 ·rcases (hf b hb).2.2.2.1 with z | z
  ·exact I.ok.noex b o e z
  ·exact absurd (aK (aw e) (aE I.ok.bsz z)) (cw _)
 ·rcases List.mem_cons.mp (I.stkSub b hb2) with z | z
  ·exact (hf b hb).2.1 z
  ·exact (hf b hb).2.2.1 z
theorem vo {N:List Str}{scope:Scope}{own:Nat}{caps:List Nat}{cl:List (Str×Addr)}{C D:Addr}{σ:St}{H:Hp}{s:Shared}{h1:Heap}{fp:List Addr}
  (S:CompSc osc ON scope own N caps) (hsc:X.env.scope=osc) (hN:X.N=ON) (hcl:∀x,cl.lookup x=if (x,ba)∈scope.names then X.env.cells.lookup x else none)
  (I:Inv X pins σ H s) (hf:∀b∈fp,yJ X pins H b) (hfs:∀b∈fp,b<s.heap.objs.size) (hD:D=s.heap.objs.size) (hC:C=s.heap.objs.size+1)
  (k:∀b o,s.heap.get? b=some o->h1.get? b=some o) (eD:h1.get? D=some { cls:=.type "list",data:=.seq #[] }) (hn:h1.Ns C λ_=>none) (t':Nat) :
  Inv (X.block scope cl C N s H fp) [] (yQ own caps σ) (upd H D (.lst [])) { s with heap:=h1,toks:=t' }:=by
 subst hD
 subst hC
 have hCs:s.heap.objs.size<=s.heap.objs.size+1:=dH _
 have ok:=VY (C:=s.heap.objs.size+1) S hsc hcl I hCs hf hfs
 have fromX:∀x c,cl.lookup x=some c->X.env.cells.lookup x=some c/\(x,ba)∈scope.names:=λx c e=>by
  rw [hcl x] at e
  by_cases hm:(x,ba)∈scope.names
  ·rw [if_pos hm] at e;exact ⟨e,hm⟩
  ·rw [if_neg hm] at e;cases e
 have fr:∀a,s.heap.objs.size<=a->H a=none:=λa ha=>I.hok.fresh ha
 have newD:qv X.prog X.w (upd H s.heap.objs.size (.lst [])) h1 s.heap.objs.size (.lst []):=⟨aP _,[],0,.nil,eD⟩
 have cellK:∀x c,X.env.cells.lookup x=some c->∀v,s.heap.IsCell c v->h1.IsCell c v:=λx c _ v ⟨o,ho,hd⟩=>⟨o,k c o ho,hd⟩
 refine ⟨ok,rfl,I.bare,Un.laid k (av _) (fr _ (av _)),⟨_,hn,λi x v e1 e2 e3=>?_⟩,λx c e=>?_,?_,λx c e=>?_,λp hp=>absurd (show p∈([]:List (Addr×Obj)) from hp) (by simp),I.hok.laid k (av _) newD,?_⟩
 ·-- the captured names
  have e1':N[i]? = some x:=e1
  have hi:own<=i:=by
   by_cases hi:own<=i
   ·exact hi
   ·unfold yQ at e2
    rw [cj (by simp;omega),lO] at e2
    split at e2 <;> cases e2
  obtain ⟨j',rfl⟩:∃j',i=own+j':=⟨i-own,∅⟩
  have e2':(caps.map λj=>(σ[j]?).getD none)[j']? = some (some v):=by
   unfold yQ at e2
   rw [c7 (by simp)] at e2
   simpa using e2
  rw [aq] at e2'
  cases hj:caps[j']? with
  | none=>rw [hj] at e2';cases e2'
  | some j =>
   rw [hj] at e2'
   have e3':(σ[j]?).getD none=some v:=aI e2'
   have e4:σ[j]? = some (some v):=by
    cases q:σ[j]? with
    | none=>rw [q] at e3';cases e3'
    | some z=>rw [q] at e3';exact congrArg some e3'
   have hz:(x,j)∈(N.drop own).zip caps:=by
    refine ar (i:=j') ?_
    rw [dz]
    exact ⟨by rw [List.getElem?_drop];exact e1',hj⟩
   obtain ⟨c1,c2⟩:=S.cap _ hz
   obtain ⟨_,hk⟩:=S.fre _ c2 rfl
   have hkX:X.env.kindOf x=some .cell\/X.env.kindOf x=some .free:=by unfold rW;rw [hsc];exact hk
   obtain ⟨m,hm,hl⟩:=I.loc
   obtain ⟨u,ru,l⟩:=hl j x v (by rw [hN];exact c1) e4 (by
    rcases hkX with z | z
    ·exact .inr (.inl z)
    ·exact .inr (.inr z))
   refine ⟨u,ru,?_⟩
   rcases l with ⟨l1,_⟩ | ⟨_,c,lc,lv⟩
   ·rcases hkX with z | z
    ·rw [z] at l1;cases l1
    ·rw [z] at l1;cases l1
   ·refine .inr ⟨?_,c,by show cl.lookup x=some c;rw [hcl x,if_pos c2];exact lc,cellK x c lc _ lv⟩
    rcases e3 with z | z
    ·obtain ⟨k',e',d⟩:=yv (env:=X.env) z
     have:=(S.fre _ c2 rfl).1
     rw [e'] at this
     cases this
     rcases d with d | d
     ·cases d
     ·cases d.2
    ·exact z
 ·obtain ⟨v,z⟩:=I.cell x c (fromX x c e).1
  exact ⟨v,cellK x c (fromX x c e).1 v z⟩
 ·show upd H s.heap.objs.size (.lst []) ↥21=none
  rw [j9 (cJ (ia _))]
  exact fr _ hCs
 ·have e':=(fromX x c e).1
  obtain ⟨v,z⟩:=I.cell x c e'
  rw [j9 (aB z.lt)]
  exact I.freeC x c e'
 ·unfold yQ
  show _=N.length
  rw [ay,eP,af,S.len]
structure BlockAt (X:Cx) (pins:List (Addr×Obj)) (H:Hp) (C:Addr):Prop where
 free:H C=none
 loc:C≠X.env.locals
 new:X.s₀.heap.objs.size<=C
 cell:∀x c,X.env.cells.lookup x=some c->c≠C
 pin:∀p∈X.pn++pins,p.1≠C
theorem BlockAt.gone (B:BlockAt X pins H C) (I:Inv X pins σ H s) (hs:dY C s.heap h'):Inv X pins σ H { s with heap:=h' } :=
 I.turned (t':=s.toks) (λb o hb e=>(hs.2 b hb).trans e) B.free B.loc (.inr B.new) B.cell B.pin
theorem Xe {scope:Scope}{own:Nat}{cl:List (Str×Addr)}{tg elt iter:Expr}{ti:TT}{te:TE}{H:Hp}{s:Shared}{fp:List Addr}
    {Q:VK} {RR:ak->Addr->nW->Shared->Prop} 
  (hc:X.calm=true) (S:CompSc osc ON scope own N caps) (hsc:X.env.scope=osc) (hN:X.N=ON) (hcl:∀x,cl.lookup x=if (x,ba)∈scope.names then X.env.cells.lookup x else none)
  (hg:∀cl C s H ex,PG ↥10 tg g) (hif:∀cl C s H ex,hW ↥10 ifs ti) (he:∀cl C s H ex,PE ↥10 elt te)
  (I:Inv X pins σ H s) (T:Turn X.prog X.w X.K tg J fp it tn) (st:tn 0 s.heap) (hf:∀b∈fp,yJ X pins H b)
  (hw:∀acc,H acc=none->∃W:Nat->Nat->St->Hp->Prop,(∃m,W 0 m (yQ own caps σ) (upd H acc (.lst [])))/\∀i m σ' H',W i m σ' H' ->
   (J.stop i H'/\Q (.ref acc) H')\/(J.go i H'/\∃NX:St->Hp->Prop,↥17 /\
    ∀x H2,J.yld i H' x H2->g x σ' H2 λσ3 H3=>ti σ3 H3 λok H4=>if ok=true then te σ3 H4 λv H5=>∃ys,H5 acc=some (.lst ys)/\ys.length<sizeLine/\NX σ3 ↥31 else NX σ3 H4))
  (fin:∀(D C:Addr) (H':Hp) (s':Shared),Inv X pins σ H' s'->BlockAt X pins H' C->(∃m,s'.heap.Ns C m)->Q (.ref D) H'->RR (.ref D) C (.ok .next) s') :
  az ↥6 X.A (oV []) (λacc s₃=>az ↥6 X.A (mH scope X.env.globals cl [] X.env.qual none .none (some X.env)) (λcenv s₄ =>
   cW ↥6 X.A (.compStart ↥25 0 (.ref it) acc { cenv with scope:=sQ scope X.env }) (RR acc cenv.locals) s₄) E s₃) E s:=by
 have hfs:∀b∈fp,b<s.heap.objs.size:=λb hb=>by
  obtain ⟨o,e,_⟩:=T.obj _ _ st b hb
  exact aw e
 refine bx (ir S.nocell (by intro y hy;simp at hy) (λh₁ hns₁ hsb₁=>?_) S.kind)
 dsimp only at hns₁ hsb₁ ⊢
 generalize hH2:s.heap.push { cls:=.type "list",dict:=none,data:=.seq ([]:List ak).toArray }=H2 at hns₁ hsb₁ ⊢
 have hCsz:H2.objs.size=s.heap.objs.size+1:=by rw [<- hH2,cx]
 have old:∀b o,s.heap.get? b=some o->h₁.get? b=some o:=λb o e=>hsb₁.extBut b o (aB (by rw [hCsz];exact c3 (aw e))) (aj _ (hH2 ▸ aj _ e))
 have eD:h₁.get? s.heap.objs.size=some { cls:=.type "list",data:=.seq #[] }:=hsb₁.extBut _ _ (aB ∅) (aj _ (hH2 ▸ aA _ rfl))
 have hDn:H s.heap.objs.size=none:=I.hok.fresh (av _)
 obtain ⟨W,⟨m0,w0⟩,turn⟩:=hw s.heap.objs.size hDn
 have hns:h₁.Ns H2.objs.size λ_=>none:=hns₁
 have I1:Inv ↥5 [] (yQ own caps σ) (upd H s.heap.objs.size (.lst [])) { s with heap:=h₁,toks:=s.toks+([]:List (Str×ak)).length } :=
  vo S hsc hN hcl I hf hfs rfl hCsz old eD hns _
 have st1:tn 0 h₁:=T.keep 0 _ _ st λb _ o e=>old b o e
 have fpB:∀{H':Hp},↥65->∀b∈fp,yJ ↥5 [] H' b:=λ{H'} hn b hb=>by
  have ok:=I1.ok
  exact ⟨hn b hb,(ok.exf b hb).1,ok.exfs b hb,.inl hb,(ok.exf b hb).2,λp hp=>absurd (show p∈([]:List (Addr×Obj)) from hp) (by simp)⟩
 have back:∀{σ':St} {H':Hp} {s':Shared},Inv ↥5 [] σ' H' s'->Q ↥19 H'->RR ↥19 H2.objs.size (.ok .next) s':=λ{σ' H' s'} J1 q=>by
  have J2:Inv X pins σ H' s':=I.call' (ch:=fp) J1.os J1.base J1.hok J1.bare λb hb=>⟨(hf b hb).2.2.2.1,(hf b hb).2.1,(hf b hb).2.2.2.2.1,(hf b hb).2.2.2.2.2⟩
  obtain ⟨m,hm,_⟩:=J1.loc
  refine fin _ _ H' s' J2 ⟨J1.free,cJ (aK I.lt ∅),aE I.sz ∅,λx c e z=>?_,λp hp z=>?_⟩ ⟨m,hm⟩ q
  ·obtain ⟨v,y⟩:=I.cell x c e
   have h1:H2.objs.size<s.heap.objs.size:=z ▸ y.lt
   exact absurd h1 ∅
  ·have h1:H2.objs.size<s.heap.objs.size:=z ▸ aw (I.pin p hp).1
   exact absurd h1 ∅
 have loop:∀s₃:Shared,s₃={ s with heap:=h₁,toks:=s.toks+([]:List (Str×ak)).length } ->
   cW ↥6 X.A (.compLoop ↥25 0 (.ref it) ↥19 (oR scope cl H2.objs.size X.env)) (RR ↥19 H2.objs.size) s₃:=by
  rintro s₃ rfl
  refine wn ↥88 ?_ m0
   ⟨0,_,_,I1,st1,λb hb=>by rw [j9 (aB (hfs b hb))];exact (hf b hb).1,w0⟩
  rintro n s3 ⟨i,σ3,H3,I3,st3,fr3,w3⟩
  rcases turn i n σ3 H3 w3 with ⟨stop,qn⟩ | ⟨go,NX,hNX,step⟩
  ·refine thn (T.done ↥5 rfl rfl rfl hc i [] s3 σ3 H3 _ I3 (fpB fr3) st3 stop) λr s4 ⟨hr,I4⟩=>?_
   subst hr
   exact back I4 qn
  ·refine thn (T.item ↥5 rfl rfl rfl hc i [] s3 σ3 H3 _ I3 (fpB fr3) st3 go) λr s4 ⟨u,hr,h4⟩=>?_
   subst hr
   refine thn h4 λ_ s5 ⟨x,H5,I5,r5,y5,st5,fr5⟩=>?_
   have I5':=I5.pinned (fpB fr5) (T.obj _ _ st5)
   refine thn (hg cl H2.objs.size s H fp _ s5 σ3 H5 x u _ I5' r5 (step x H5 y5)) λ_ s6 ⟨σ6,H6,I6,q6⟩=>?_
   refine thn (hif cl H2.objs.size s H fp _ s6 σ6 H6 _ I6 q6) λok s7 ⟨H7,I7,q7⟩=>?_
   have again:∀{s8:Shared} {σ8:St} {H8:Hp},Inv ↥5 ([]++zi fp s5.heap) σ8 H8 s8->NX σ8 H8->∃m,m<n/\∃i σ' H',Inv ↥5 [] σ' H' s8/\tn i s8.heap/\ ↥65/\W i m σ' H':=λ{s8 σ8 H8} I8 n8=>by
    obtain ⟨m',hm,w8⟩:=hNX σ8 H8 n8
    refine ⟨m',hm,i+1,σ8,H8,I8.unpinned,T.keep _ _ _ st5 λb hb o e=>(↥82).1,λb hb=>?_,w8⟩
    obtain ⟨o,e,d⟩:=T.obj _ _ st5 b hb
    exact (↥82).2.1
   cases ok with
   | false =>
    rw [if_neg au] at q7 ⊢
    exact again I7 q7
   | true =>
    rw [if_pos rfl] at q7 ⊢
    refine thn (he cl H2.objs.size s H fp _ s7 σ6 H7 _ I7 q7) λv s8 ⟨y,H8,I8,r8,ys,e8,z8,q8⟩=>?_
    refine thn (qL _ s8 σ6 H8 ↥19 [y] _ [v] (λ_ H9=>NX σ6 H9) I8 rfl (.cons r8 .nil) ⟨_,ys,y,rfl,rfl,e8,z8,q8⟩) λ_ s9 ⟨_,H9,I9,_,q9⟩=>?_
    exact again I9 q9
 exact fX (loop _ rfl) (T.self _ 0 _ _ _ st1 (loop _ rfl))
theorem Qa {scope:Scope}{own:Nat}(S:CompSc osc ON scope own N caps) (hsc:X.env.scope=osc) (I:Inv X pins σ H s) :
  ∀x∈scope.names,x.2 = .free->∃c,X.env.cells.lookup x.1=some c:=λx hx hk=>I.ok.has x.1 (by unfold rW;rw [hsc];exact (S.fre x hx hk).2)
theorem jX {own:Nat}(S:CompSc osc ON scope own N caps)
  (hc:X.calm=true) (hsc:X.env.scope=osc) (hN:X.N=ON) (hi:PI X tg iter wi)
  (hg:∀cl C s H ex,PG ↥10 tg g) (hif:∀cl C s H ex,hW ↥10 ifs ti) (he:∀cl C s H ex,PE ↥10 elt te)
  (hs:∀x,cq iter X.env x=pure x:=by intro _;rfl):PE X ↥25 (Vv own caps wi g ti te):=by
 intro pins s σ H Q I h
 obtain ⟨cl,hclos,hcl⟩:=yB (Qa S hsc I)
 rw [nI]
 refine dJ (use:=none) rfl hs hclos S.kind S.loc ↥76
 obtain ⟨it,fp,tn,J,H2,e,I2,T,st2,f2,hw⟩:=h2
 subst e
 refine Xe (RR:=λacc C=>rX ↥6 X.A X.xe none ↥73 acc C) hc S hsc hN hcl hg hif he I2 T st2 f2 hw λD C H' s' J1 B ⟨m,hm⟩ q=>?_
 exact ⟨m,hm,λh' hs'=>⟨.ref D,H',B.gone J1 hs',rfl,q⟩⟩
theorem ut {own:Nat}{j:Nat}{spos:Pos}(S:CompSc osc ON scope own N caps)
  (hnd:X.N.Nodup) (hj:X.N[j]? = some y) (hy:Loc X.env.scope y)
  (hc:X.calm=true) (hsc:X.env.scope=osc) (hN:X.N=ON) (hi:PI X tg iter wi)
  (hg:∀cl C s H ex,PG ↥10 tg g) (hif:∀cl C s H ex,hW ↥10 ifs ti) (he:∀cl C s H ex,PE ↥10 elt te)
  (hsw:iP ↥25 (some (.Name y py)) spos.line X.env=pure true:=by rfl)
  (hf:X.fn y=true\/X.env.scope.names.lookup y=some .local:=by first | exact .inl rfl | exact .inr rfl | assumption)
  (hs:∀x,cq iter X.env x=pure x:=by intro _;rfl):PS X (.Assign [.Name y py] ↥25 spos) (Wa (Vv own caps wi g ti te) (J9 j)):=by
 intro pins s σ H D0 I h
 obtain ⟨cl,hclos,hcl⟩:=yB (Qa S hsc I)
 rw [exec_Assign_Name_used _ _ _ _ hsw]
 refine aa (cV (aa ?_))
 show az _ X.A (do let _ <- comprehension ↥25 scope X.env _ (oV []) false (eval iter X.env) (some (i8 (.Name y py) X.env))) _ _ s
 refine aa (aX (dJ (use:=some (i8 (.Name y py) X.env)) (Q:=λ_ s'=>SP X pins D0 .next s') rfl hs hclos S.kind S.loc
  (thn (hi pins s σ H _ I h) λv s1 h1=>thn h1 λitv s2 h2=>?_)) (λ_ s' hq=>wpAny_pure (wpAny_pure hq)) λ_ _ e=>e)
 obtain ⟨it,fp,tn,J,H2,e,I2,T,st2,f2,hw⟩:=h2
 subst e
 refine Xe (Q:=λv H'=>D0.nx (σ.set j (some v)) H') (RR:=λacc C=>rX ↥6 X.A X.xe (some (i8 (.Name y py) X.env)) (λ_ s'=>SP X pins D0 .next s') acc C) hc S hsc hN hcl hg hif he I2 T st2 f2 hw λD C H' s' J1 B ⟨m,hm⟩ q=>?_
 show az _ X.A (i8 (.Name y py) X.env (.ref D)) _ _ s'
 refine oB (Js (v:=V.ref D) J1 hnd hj hy rfl (λs2 J2 ⟨a,hsame,ha⟩=>?_) hf)
 have hCa:C≠a:=by
  rcases ha with z | z
  ·rw [z];exact B.loc
  ·exact λz2=>B.cell y a z z2.symm
 exact ⟨m,hm.sameBut hsame hCa,λh' hs'=>⟨_,H',B.gone J2 hs',q⟩⟩
end
theorem jT {K:ah}{xs:List V}{g:TG}{ti:TT}{te:TE}{R:Hp->Prop}{σ:St}{H:Hp}(Pv:Nat->St->Hp->Prop) (h0:Pv 0 σ H) (hl:∀i σ H,i<=xs.length->Pv i σ H->SqL K H a xs)
  (hs:∀i x σ H,xs[i]? = some x->Pv i σ H->g x σ H λσ3 H3=>ti σ3 H3 λok H4=>if ok=true then te σ3 H4 λv H5=>∃ys,H5 acc=some (.lst ys)/\ys.length<sizeLine/\Pv (i+1) σ3 ↥31 else Pv (i+1) σ3 H4)
  (hd:∀σ H,Pv xs.length σ H->R H) :
  ∃W:Nat->Nat->St->Hp->Prop,↥84/\∀i m σ' H',W i m σ' H' ->
   ((Itl K a).stop i H'/\R H')\/((Itl K a).go i H'/\∃NX:St->Hp->Prop,↥17 /\
    ∀x H2,(Itl K a).yld i H' x H2->g x σ' H2 λσ3 H3=>ti σ3 H3 λok H4=>if ok=true then te σ3 H4 λv H5=>∃ys,H5 acc=some (.lst ys)/\ys.length<sizeLine/\NX σ3 ↥31 else NX σ3 H4):=by
 refine ⟨λi m σ H=>m=xs.length-i/\i<=xs.length/\Pv i σ H,⟨xs.length,by simp,aP _,h0⟩,?_⟩
 rintro i m σ H ⟨rfl,hi,p⟩
 have q:=hl i σ H hi p
 by_cases hlt:i<xs.length
 ·refine .inr ⟨⟨xs,xs[i],q,by simp [hlt]⟩,Pv (i+1),λσ' H' p'=>⟨xs.length-(i+1),∅,rfl,hlt,p'⟩,λx H' y=>?_⟩
  obtain ⟨e,y⟩:=y
  subst e
  exact hs i x σ _ (y xs q) p
 ·have e:i=xs.length:=∅
  subst e
  exact .inl ⟨⟨xs,q,av _⟩,hd σ H p⟩
theorem QT {K:ah}{xs:List V}{g:TG}{ti:TT}{te:TE}{R:Hp->Prop}{σ:St}{H:Hp}(Pv:Nat->St->Hp->Prop) (h0:Pv 0 σ H) (hl:∀i σ H,i<=xs.length->Pv i σ H->SqT K H a xs)
  (hs:∀i x σ H,xs[i]? = some x->Pv i σ H->g x σ H λσ3 H3=>ti σ3 H3 λok H4=>if ok=true then te σ3 H4 λv H5=>∃ys,H5 acc=some (.lst ys)/\ys.length<sizeLine/\Pv (i+1) σ3 ↥31 else Pv (i+1) σ3 H4)
  (hd:∀σ H,Pv xs.length σ H->R H) :
  ∃W:Nat->Nat->St->Hp->Prop,↥84/\∀i m σ' H',W i m σ' H' ->
   ((Itt K a).stop i H'/\R H')\/((Itt K a).go i H'/\∃NX:St->Hp->Prop,↥17 /\
    ∀x H2,(Itt K a).yld i H' x H2->g x σ' H2 λσ3 H3=>ti σ3 H3 λok H4=>if ok=true then te σ3 H4 λv H5=>∃ys,H5 acc=some (.lst ys)/\ys.length<sizeLine/\NX σ3 ↥31 else NX σ3 H4):=by
 refine ⟨λi m σ H=>m=xs.length-i/\i<=xs.length/\Pv i σ H,⟨xs.length,by simp,aP _,h0⟩,?_⟩
 rintro i m σ H ⟨rfl,hi,p⟩
 have q:=hl i σ H hi p
 by_cases hlt:i<xs.length
 ·refine .inr ⟨⟨xs,xs[i],q,by simp [hlt]⟩,Pv (i+1),λσ' H' p'=>⟨xs.length-(i+1),∅,rfl,hlt,p'⟩,λx H' y=>?_⟩
  obtain ⟨e,y⟩:=y
  subst e
  exact hs i x σ _ (y xs q) p
 ·have e:i=xs.length:=∅
  subst e
  exact .inl ⟨⟨xs,q,av _⟩,hd σ H p⟩
theorem xi {lo:Int}{n:Nat}{g:TG}{ti:TT}{te:TE}{R:Hp->Prop}{σ:St}{H:Hp}(Pv:Nat->St->Hp->Prop) (h0:Pv 0 σ H)
  (hs:∀i σ H,i<n->Pv i σ H->g (.int (lo+i)) σ H λσ3 H3=>ti σ3 H3 λok H4=>if ok=true then te σ3 H4 λv H5=>∃ys,H5 acc=some (.lst ys)/\ys.length<sizeLine/\Pv (i+1) σ3 ↥31 else Pv (i+1) σ3 H4)
  (hd:∀σ H,Pv n σ H->R H) :
  ∃W:Nat->Nat->St->Hp->Prop,↥84/\∀i m σ' H',W i m σ' H' ->
   ((Itr lo n).stop i H'/\R H')\/((Itr lo n).go i H'/\∃NX:St->Hp->Prop,↥17 /\
    ∀x H2,(Itr lo n).yld i H' x H2->g x σ' H2 λσ3 H3=>ti σ3 H3 λok H4=>if ok=true then te σ3 H4 λv H5=>∃ys,H5 acc=some (.lst ys)/\ys.length<sizeLine/\NX σ3 ↥31 else NX σ3 H4):=by
 refine ⟨λi m σ H=>m=n-i/\i<=n/\Pv i σ H,⟨n,by simp,aP _,h0⟩,?_⟩
 rintro i m σ H ⟨rfl,hi,p⟩
 by_cases hlt:i<n
 ·refine .inr ⟨hlt,Pv (i+1),λσ' H' p'=>⟨n-(i+1),∅,rfl,hlt,p'⟩,λx H' y=>?_⟩
  obtain ⟨e,y⟩:=y
  subst e y
  exact hs i σ _ hlt p
 ·have e:i=n:=∅
  subst e
  exact .inl ⟨av _,hd σ H p⟩
end L2
end
section
namespace L2
structure Cal (P:Program) (w:bp) (K:ah) (mg:Str->Option ak) (base:Heap) (k:Nat) (x:Str) (ps:List Str) (sp:Sp):Prop where
 ex:∃f fd,FnOk P w K mg base CX0 k f fd ps sp/\zV K fd ps []/\mg x=some (.ref f)/\bK K (.ref f)=true
theorem je {X:Cx}{k:Nat}{e:Expr}{es:List Expr}(c:Cal X.prog X.w X.K X.mg X.base k x ps sp) (hr:Room k X.A) (hg:Gl X x) (ha:PA X (e::es) t)
  (hdb: ↥33=false:=by decide) (he:aJ (e::es) X.env=↥45::aJ es X.env:=by rfl) (hpl: (↥77).any (·.1)=false:=by rfl) :
  PE X ↥75 (Wf sp [] E0 t):=by
 obtain ⟨f,fd,F,hb,hm,hk⟩:=c.ex
 exact US F hr hg hm hk hb .nil Vq ha hdb he hpl
theorem Cal.mk' {P:Program}{w:bp}{K:ah}{mg:Str->Option ak}{base:Heap}{k:Nat}{x:Str}{ps:List Str}{st:Stmt}{f:Addr}{oc:ak}{od an:Option Addr}{osl:Array (Option ak)}{kV doc pm cdv ct:ak}
  (X:K.In h) (G:h.Ns mainGlobals mg) (a:aU K mainGlobals x=some (some (.ref f)))
  (l:K.lookup f=some ⟨oc,od,.func ↥28,osl⟩) (c:cz K cdv x=true) (k':bK K (.ref f)=true)
  (hb:∀(kV doc pm:ak) (an:Option Addr) (cdv ct:ak) (us:List ak),us.length=ps.length->cC ↥28 ⟨us,[]⟩=pure (ps.zip us))
  (ok:∀{f:Addr} {fd:FuncData},Fun K x x st f fd->FnOk P w K mg base CX0 k f fd ps sp):Cal P w K mg base k x ps sp:=by
 have F:=vt (st:=st) l c k'
 exact ⟨f,_,ok F,F.binds hb,aN X G a,k'⟩
section
variable {X:Cx}
theorem Xs:qO X (.builtin "isinstance") (λxs H Q=>∃x n t b,xs=[x,.ty n]/\TyOf X.K H x t/\aG X.K t (.type n)=some b/\Q (.bl b) H):=by
 intro pins s σ H xs us Q I r h
 obtain ⟨x,n,t,b,rfl,ty,e,q⟩:=h
 obtain ⟨u,w',rfl,r1,r2⟩:=XA r
 cases (show w'=i7 n from r2)
 exact Jm I r1 ty e λtk=>⟨.bl b,H,I.tok tk,rfl,q⟩
noncomputable def Wc (i j:Int):Prop:=0<j/\j<2 ^ 200
theorem uc:OpR X (eC .FloorDiv) (rI Wc λi j=>.int (i / j)):=opI λi j _ _ _ _ _ hc q=>by
 have h1:(0:Int)<j:=hc.1
 have h2:j<2 ^ 200:=hc.2
 refine floordiv_int ∅ (by rw [iS i ∅];exact q) (.inl (PyProof.noPylong_of_log2 ?_))
 have h3:j.natAbs<2 ^ 200:=∅
 have h4:j.natAbs≠0:=∅
 have:=(Nat.log2_lt h4).mpr h3
 omega
theorem U0 (hc:X.calm=true):qO X (.builtin "all") (λxs H Q=>∃(p:Addr) (bs:List Bool),xs=[.ref p]/\SqL X.K H p (bs.map V.bl)/\Q (.bl (bs.all λb=>b)) H):=by
 intro pins s σ H xs us Q I r h
 obtain ⟨p,bs,rfl,hq,q⟩:=h
 obtain ⟨u,rfl,ru⟩:=yk r
 cases ru
 obtain ⟨its,rv,pl,hz⟩:=I.list hq
 have hne:p≠s.heap.objs.size:=by
  obtain ⟨o,n,e,_⟩:=id pl
  exact aB (aw e)
 have hlen:its.length=bs.length:=by rw [<- rv.length,af]
 have itsAt:∀i v,its[i]? = some v->∃b,bs[i]? = some b/\v=lV b:=λi v e=>by
  have hi:i<its.length:=(List.getElem?_eq_some_iff.mp e).1
  have hb:(bs.map V.bl)[i]? = some (V.bl (bs[i]'∅)):=by rw [aq,ag ∅];rfl
  obtain ⟨u,h1,h2⟩:=rv.get hb
  rw [e] at h1
  cases h1
  exact ⟨bs[i]'∅,ag ∅,h2⟩
 refine call_all_walk (eS pl.isList ?_)
 refine ⟨s.heap.objs.size,_,_,_,_,_,λi=>bs.getD i true,rfl,Walks.list (show (X.A.in1).handled=none from I.ok.hd hc) s.heap.objs.size p hne its.toArray,⟨⟨_,aA _ rfl,rfl,rfl⟩,pl.isList.at λo e=>aj _ e⟩,?_,?_⟩
 ·intro i v s' Q' E' hP hQ
  obtain ⟨b,hb,rfl⟩:=itsAt i v (by simpa using hP)
  have e:bs.getD i true=b:=by rw [ao,hb];rfl
  have hQ:Q' (bs.getD i true) s':=hQ
  rw [e] at hQ
  exact bZ hQ
 ·intro h' tk hk
  have e:((aW its.toArray.size).all λi=>bs.getD i true)=bs.all λb=>b:=by
   rw [ax,hlen,d5,bB,bB]
   constructor
   ·intro z b hb
    obtain ⟨i,hi,rfl⟩:=List.mem_iff_getElem.mp hb
    have:=z i (List.mem_range.mpr hi)
    rw [ao,ag hi] at this
    exact this
   ·intro z i hi
    have hi':=List.mem_range.mp hi
    rw [ao,ag hi']
    exact z _ (bW hi')
  rw [e]
  refine ⟨.bl _,H,I.kept (t':=tk) λb o eo=>hk b o (by
   intro z
   have:=List.mem_singleton.mp z
   subst this
   exact absurd (aw eo) (cw _)) (aj _ eo),rfl,q⟩
end
noncomputable def kitT (a b:String):Option Bool:=if (i7 a == i7 b)=true then some true else if PySem.W.kitMeta b=true then (fastBuiltinMro a).map (·.contains (.type b)) else none
theorem qq (K:ah) (a b:String):aG K (.type a) (.type b)=kitT a b:=rfl
theorem wu (K:ah):aG K (.type "int") (.type "bool")=some false:=(qq K _ _).trans ↥49
theorem kF (K:ah):aG K (.type "int") (.type "int")=some true:=(qq K _ _).trans ↥49
theorem ul (K:ah):aG K (.type "bool") (.type "bool")=some true:=(qq K _ _).trans ↥49
theorem JS (K:ah):aG K (.type "list") (.type "bool")=some false:=(qq K _ _).trans ↥49
theorem X0 (K:ah):aG K (.type "list") (.type "int")=some false:=(qq K _ _).trans ↥49
theorem QE (K:ah):aG K (.type "list") (.type "str")=some false:=(qq K _ _).trans ↥49
theorem um (K:ah):aG K (.type "list") (.type "list")=some true:=(qq K _ _).trans ↥49
theorem vP (K:ah):aG K (.type "list") (.type "tuple")=some false:=(qq K _ _).trans ↥49
theorem gS (K:ah):aG K (.type "tuple") (.type "bool")=some false:=(qq K _ _).trans ↥49
theorem Qs (K:ah):aG K (.type "tuple") (.type "int")=some false:=(qq K _ _).trans ↥49
theorem JR (K:ah):aG K (.type "tuple") (.type "str")=some false:=(qq K _ _).trans ↥49
theorem vN (K:ah):aG K (.type "tuple") (.type "list")=some false:=(qq K _ _).trans ↥49
theorem vq (K:ah):aG K (.type "tuple") (.type "tuple")=some true:=(qq K _ _).trans ↥49
noncomputable def Ext (b:Addr) (H H':Hp):Prop:=∀c o,H c=some o->c≠b->H' c=some o
theorem Ext.refl {b:Addr}:Ext b H H:=λ_ _ h _=>h
theorem Ext.trans {b:Addr}(x:Ext b H H1) (y:Ext b H1 H2):Ext b H H2:=λc o h n=>y c o (x c o h n) n
theorem Ext.of_same {b:Addr}(x:jn H H'):Ext b H H':=λc o h _=>x c o h
theorem Ext.put {b:Addr}:Ext b H (upd H b o):=λc _ h n=>by rw [j9 n];exact h
theorem jn.new {H:Hp}{p:Addr}(n:H p=none):jn H (upd H p o):=λc u h=>by rw [j9 (j4 h n)];exact h
theorem Ext.new {b:Addr}{H:Hp}{p:Addr}(n:H p=none):Ext b H (upd H p o):=Ext.of_same (jn.new n)
theorem Ext.free {b:Addr}(x:Ext b H H') {p:Addr}(h:H' p=none) (n:p≠b):H p=none:=by
 cases q:H p with
 | none=>rfl
 | some o=>rw [x p o q n] at h;cases h
end L2
end
section
namespace L2
section
variable {X:Cx}
theorem jf (K:ah) (h:X.K=K:=by rfl):IxR X (WA K):=by subst h;exact Us
theorem jt (K:ah) (h:X.K=K:=by rfl):IxR X (WW K):=by subst h;exact GE
theorem ji (K:ah) (h:X.K=K:=by rfl):qO X (.builtin "len") (λxs H Q=>∃p ys,xs=[.ref p]/\(SqL K H p ys\/SqT K H p ys)/\Q (.int ys.length) H):=by subst h;exact Qj
theorem vQ (K:ah) (h:X.K=K:=by rfl):OpR X (cf .In) (rIn K false):=by subst h;exact V0
theorem yc (K:ah) (h:X.K=K:=by rfl):OpR X (cf .NotIn) (rIn K true):=by subst h;exact Qt
theorem qg (K:ah) (h:X.K=K:=by rfl):qO X (.builtin "isinstance") (λxs H Q=>∃x n t b,xs=[x,.ty n]/\TyOf K H x t/\aG K t (.type n)=some b/\Q (.bl b) H):=by subst h;exact Xs
theorem zr (K:ah) (hc:X.calm=true) (h:X.K=K:=by rfl):qO X (.builtin "all") (λxs H Q=>∃(p:Addr) (bs:List Bool),xs=[.ref p]/\SqL K H p (bs.map V.bl)/\Q (.bl (bs.all λb=>b)) H):=by subst h;exact U0 hc
theorem qi (K:ah) (hl:PE X l tl) (h:X.K=K:=by rfl):PI X tg l (Y9 K tl):=by subst h;exact UN hl
theorem vx (K:ah) (hl:PE X l tl) (h:X.K=K:=by rfl):PI X tg l (Ea K tl):=by subst h;exact Wq hl
theorem xQ {k:Nat}{n:Nat}(K:ah) (hc:X.calm=true) (h:PGs X es t)
  (hn:(d4 es X.env).length=n:=by rfl) (hst:(d4 es X.env).findIdx? (·.1)=none:=by rfl) (hK:X.K=K:=by rfl):PG X (.Tuple es k pos) (WV K n t):=by subst hK;exact Wl hc h hn hst
theorem vm {T id:String}{e:Expr}{es:List Expr}{apos cpos:Pos}(K:ah) (pa:PlainAttrs T) (slot:Slot T name id) (hty:rS (.builtin id)=pure (.type "method_descriptor")) (hm:MtR X id r) (ho:PE X o to) (ha:PA X (e::es) t)
  (hbase:eJ o name X.env (eval o X.env)=eval o X.env:=by rfl)
  (hfew:((cp cpos (aJ (e::es) X.env)).all (λx=>!x.1) && (ft cpos (dh [] X.env)).all (λx=>x.1.isSome)
   && decide ((e::es).length+([]:List iJ).length+(if ([]:List iJ).isEmpty then 0 else 1)<30))=true:=by rfl)
  (hline:(apos.endLine == cpos.line)=true:=by rfl) (hs:aJ (e::es) X.env=↥45::aJ es X.env:=by rfl) (hplain:(cp cpos (aJ es X.env)).any (·.1)=false:=by rfl) (hK:X.K=K:=by rfl) :
  PE X (.Call (.Attribute o name apos) (e::es) [] cpos) (tBM K T r to t):=by subst hK;exact GH pa slot hty hm ho ha hbase hfew hline hs hplain
end
noncomputable def New (H:Hp) (o:HO) (Q:VK):Prop:=∀p H',H p=none->H' p=some o->jn H H'->Q (.ref p) H'
theorem New.at (h:New H o Q):∀p,H p=none->Q (.ref p) (upd H p o):=λp n=>h p _ n j7 (jn.new n)
section
variable {X:Cx}{es:List Expr}{t:TA}{pos:Pos}
noncomputable def Ef (t:TA):TE:=λσ H Q=>t σ H λxs H1=>xs.length<=sizeLine/\New H1 (.tup xs) Q
noncomputable def GR (t:TA):TE:=λσ H Q=>t σ H λxs H1=>xs.length<=sizeLine/\New H1 (.lst xs) Q
theorem jx {x1}(h:PA X es t):PE X (.Tuple es x1 pos) (Ef t):=by
 intro pins s σ H Q I hq
 refine wpAny_Tuple_spliced (thn (h pos pins s σ H _ I hq) λus s1 ⟨xs,H1,I1,r,z,q⟩=>⟨by rw [<- r.length];exact z,?_⟩)
 have hf:H1 s1.heap.objs.size=none:=I1.hok.fresh (av _)
 refine ⟨.ref s1.heap.objs.size,upd H1 s1.heap.objs.size (.tup xs),I1.laid (t':=s1.toks) (λb u e=>aj _ e) (av _) ?_,rfl,q.at _ hf⟩
 exact ⟨z,us,r,⟨_,aA _ rfl,rfl,_,rfl⟩⟩
theorem jD (h:PA X es t):PE X (.List es pos) (GR t):=by
 intro pins s σ H Q I hq
 refine wpAny_List_spliced (thn (h pos pins s σ H _ I hq) λus s1 ⟨xs,H1,I1,r,z,q⟩=>⟨by rw [<- r.length];exact z,?_⟩)
 have hf:H1 s1.heap.objs.size=none:=I1.hok.fresh (av _)
 refine ⟨.ref s1.heap.objs.size,upd H1 s1.heap.objs.size (.lst xs),I1.laid (t':=s1.toks) (λb u e=>aj _ e) (av _) ?_,rfl,q.at _ hf⟩
 exact ⟨z,us,0,r,aA _ rfl⟩
theorem OpR.weak {r':R2}(h:OpR X f r) (w:∀x y H Q,r' x y H Q->r x y H Q):OpR X f r':=λpins s σ H x y v u Q I rx ry q=>h pins s σ H x y v u Q I rx ry (w _ _ _ _ q)
theorem qO.weak {r':List V->Hp->VK->Prop}(h:qO X f r) (w:∀x H Q,r' x H Q->r x H Q):qO X f r':=λpins s σ H xs us Q I rx q=>h pins s σ H xs us Q I rx (w _ _ _ q)
theorem SlR.weak {r':V->Option Int->Option Int->Hp->VK->Prop}(h:SlR X r) (w:∀x lo hi H Q,r' x lo hi H Q->r x lo hi H Q):SlR X r':=λpins s σ H x v vl vu lo hi sl Q I rx hs pl pu q=>h pins s σ H x v vl vu lo hi sl Q I rx hs pl pu (w _ _ _ _ _ q)
noncomputable def E5:R2:=λx y H Q=>∃l b xs zs,x = .ref l/\y = .ref b/\H l=some (.lst xs)/\H b=some (.lst zs)/\xs.length+zs.length<=sizeLine/\New H (.lst (xs++zs)) Q
theorem zo:OpR X (eC .Add) E5:=WE.weak λ_ _ _ _ ⟨l,b,xs,zs,h1,h2,h3,h4,h5,q⟩=>⟨l,b,xs,zs,h1,h2,h3,h4,h5,q.at⟩
theorem jN (K:ah) (h:X.K=K:=by rfl):qO X (.type "list") (λxs H Q=>∃p ys,xs=[.ref p]/\(SqL K H p ys\/SqT K H p ys)/\New H (.lst ys) Q):=by
 subst h
 exact JX.weak λ_ _ _ ⟨p,ys,h1,h2,q⟩=>⟨p,ys,h1,h2,q.at⟩
theorem Xw (K:ah) (h:X.K=K:=by rfl):SlR X (λx lo hi H Q=>∃a xs,x = .ref a/\SqT K H a xs/\¬(HT.sIx xs.length 0 lo=0/\HT.sIx xs.length xs.length hi=xs.length)/\New H (.tup (ZC xs lo hi)) Q):=by
 subst h
 exact WN.weak λ_ _ _ _ _ ⟨a,xs,h1,h2,h3,q⟩=>⟨a,xs,h1,h2,h3,q.at⟩
end
theorem qH {A B:Prop} [Decidable p] (h1:p->A) (h2:¬p->B):if decide p=true then A else B:=by
 by_cases h:p
 ·rw [if_pos (decide_eq_true h)];exact h1 h
 ·rw [if_neg (by rw [decide_eq_false h];exact au)];exact h2 h
theorem xz {A B:Prop} [Decidable p] (h1:¬p->A) (h2:p->B):if (!decide p)=true then A else B:=by
 by_cases h:p
 ·rw [if_neg (by rw [decide_eq_true h];exact au)];exact h2 h
 ·rw [if_pos (by rw [decide_eq_false h];rfl)];exact h1 h
theorem qV {α:Type}{xs:List α}{i:Int}{v:α}(h0:0<=i) (h:xs[i.toNat]? = some v):atI xs i=some v:=by
 obtain ⟨n,rfl⟩:=Int.eq_ofNat_of_zero_le h0
 exact zW (by simpa using h)
theorem yq {ns:List Int}{i:Int}(h0:0<=i) (h:i<ns.length):∃z,atI (ns.map V.int) i=some (.int z):=by
 refine ⟨ns[i.toNat]'∅,qV h0 ?_⟩
 rw [aq,ag ∅]
 rfl
theorem yW {ns:List Int}{i:Nat}(h:(ns.map V.int)[i]? = some y):∃z,y=V.int z:=by
 rw [aq] at h
 cases e:ns[i]? with
 | none=>rw [e] at h;cases h
 | some z=>rw [e] at h;exact ⟨z,(aI h).symm⟩
noncomputable def Yc:Sp:=λvs H Q _=>∃a b:Int,vs=[.int a,.int b]/\∀r:Int,Q (.int r) H
noncomputable def Yk:Sp:=λvs H Q _=>∃i:Int,vs=[.int i]/\Q (.bl true) H
structure Nb (mg:Str->Option ak):Prop where
 b_len:mg "len" = none
 b_range:mg "range" = none
 b_isinstance:mg "isinstance" = none
 b_int:mg "int" = none
 b_bool:mg "bool" = none
 b_str:mg "str" = none
 b_list:mg "list" = none
 b_tuple:mg "tuple" = none
 b_min:mg "min" = none
 b_max:mg "max" = none
 b_all:mg "all" = none
 b_zip:mg "zip" = none
end L2
end
section
namespace L2
noncomputable def VN (M:Addr->Prop) (H H':Hp):Prop:=∀c o,H c=some o->¬M c->H' c=some o
theorem VN.of_same (x:jn H H'):VN M H H':=λc o h _=>x c o h
section
variable {X:Cx}
end
end L2
end
section
namespace L2
noncomputable def tCut (t u:TS):TS:=λD σ H=>∃P:St->Hp->Prop,t { D with nx:=P } σ H/\∀σ' H',P σ' H'->u D σ' H'
theorem zQ {st:Stmt}{zn:List Stmt}(h1:PS X st t) (h2:PSs X zn u):PSs X (st::zn) (tCut t u):=by
 intro pins s σ H D I h
 obtain ⟨P,h,hP⟩:=h
 refine lL (thn (h1 pins s σ H { D with nx:=P } I h) λf s1 q=>?_)
 cases f with
 | next =>
  obtain ⟨σ',H',I',q⟩:=q
  exact h2 pins s1 σ' H' D I' (hP _ _ q)
 | ret v=>exact q
 | brk=>exact q
 | cont=>exact q
section
variable {X:Cx}
noncomputable def WQ:R2:=λx y H Q=>∃a b xs ys,x = .ref a/\y = .ref b/\H a=some (.tup xs)/\H b=some (.tup ys)/\xs.length+ys.length<=sizeLine /\
 ∀p H',jn H H'->H' p=some (.tup (xs++ys))->Q (.ref p) H'
theorem gk:OpR X (eC .Add) WQ:=by
 intro pins s σ H x y v u Q I rx ry h
 obtain ⟨a,b,xs,ys,rfl,rfl,ha,hb,hz,q⟩:=h
 by_cases hx:xs=[]
 ·subst hx
  cases rx
  cases ry
  obtain ⟨its,r1,p1,_⟩:=I.tuple (SqT.of ha)
  obtain ⟨its2,r2,p2,_⟩:=I.tuple (SqT.of hb)
  have hi:its=[]:=r1.nil_iff.mpr rfl
  subst hi
  obtain ⟨⟨cls,dd,data,sl⟩,ho,hc,n,hd⟩:=id p1
  obtain ⟨⟨cls2,dd2,data2,sl2⟩,ho2,hc2,n2,hd2⟩:=id p2
  simp only at hc hd hc2 hd2
  subst hc hd hc2 hd2
  exact oM ⟨_,ho,rfl⟩ ⟨_,ho2,rfl⟩ lP nB fV fM (fA _ _)
   (tuple_addW0 a b #[] its2.toArray n n2 dd dd2 sl sl2 (by simp)) ⟨ho,ho2,⟨.ref b,H,I,rfl,q b H (jn.refl H) hb⟩⟩
 ·refine UF pins s σ H (.ref a) (.ref b) v u Q I rx ry ⟨a,b,xs,ys,rfl,rfl,SqT.of ha,SqT.of hb,hx,hz,λz=>?_,λ_ p n=>q p _ (jn.new n) j7⟩
  subst z
  exact q a H (jn.refl H) (by rw [bj];exact ha)
end
noncomputable def jG (L:Addr) (H:Hp) (b:Addr):Prop:=∃(ns:List Int) (a r c d:Int),H b=some (.lst [.ref L,.int a,.int r,.int c,.int d])/\L≠b/\H L=some (.lst (ns.map V.int))/\0<=a
theorem jG.same {b:Addr}(B:jG L H b) (s:jn H H'):jG L H' b:=by
 obtain ⟨ns,a,r,c,d,h1,h2,h3,h4⟩:=B
 exact ⟨ns,a,r,c,d,s _ _ h1,h2,s _ _ h3,h4⟩
theorem jG.ext {b acc:Addr}(B:jG L H b) (n:acc≠b) (m:acc≠L) (e:Ext acc H H'):jG L H' b:=by
 obtain ⟨ns,a,r,c,d,h1,h2,h3,h4⟩:=B
 exact ⟨ns,a,r,c,d,e _ _ h1 n.symm,h2,e _ _ h3 m.symm,h4⟩
theorem jG.put {b acc:Addr}(B:jG L H b) (n:acc≠b) (m:acc≠L):jG L (upd H acc o) b:=B.ext n m Ext.put
theorem jG.ne {b p:Addr}(B:jG L H b) (n:H p=none):p≠b:=by
 obtain ⟨ns,a,r,c,d,h1,h2,h3,h4⟩:=B
 exact (j4 h1 n).symm
theorem jG.neL {b p:Addr}(B:jG L H b) (n:H p=none):p≠L:=by
 obtain ⟨ns,a,r,c,d,h1,h2,h3,h4⟩:=B
 exact (j4 h3 n).symm
theorem jG.ne_tup {b p:Addr}{xs:List V}(B:jG L H b) (n:H p=some (.tup xs)):p≠b:=by
 obtain ⟨ns,a,r,c,d,h1,h2,h3,h4⟩:=B
 exact jg n h1 ↥47
noncomputable def xG:Sp:=λvs H Q _=>∃(L b:Addr) (n:Int),vs=[.ref b,.int n]/\jG L H b/\(0<n/\n<2 ^ 200)/\∀(v:Int) (H':Hp),0<=v->v<n->jG L H' b->Ext b H H'->Q (.int v) H'
noncomputable def Vn (K:ah):Sp:=λvs H Q _=>∃(a:Addr) (ns:List Int),vs=[.ref a]/\SqL K H a (ns.map V.int)/\∀(L b:Addr) (H':Hp),H b=none->jG L H' b->jn H H'->Q (.ref b) H'
noncomputable abbrev T3:=Int×Int×Int
noncomputable abbrev zM (t:T3):HO:=.tup [.int t.1,.int t.2.1,.int t.2.2]
noncomputable def WI (H:Hp) (v:V) (t:T3):Prop:=∃p,v = .ref p/\H p=some (zM t)
noncomputable def jH (H:Hp) (vs:List V) (ts:List T3):Prop:=d8 (WI H) vs ts
theorem jH.length {ts:List T3}(r:jH H vs ts):vs.length=ts.length:=aZ r
theorem jH.get :∀{vs:List V}{ts:List T3}{i:Nat}{v:V},jH H vs ts->vs[i]? = some v->∃t,ts[i]? = some t/\WI H v t
 | _,_,_,_,.nil,e=>by simp at e
 | _,_,0,_,.cons r _,e=>by simp at e;subst e;exact ⟨_,rfl,r⟩
 | _,_,i+1,v,.cons _ t,e=>by
  obtain ⟨d,h1,h2⟩:=jH.get (i:=i) (v:=v) t (by simpa using e)
  exact ⟨d,by simpa using h1,h2⟩
theorem jH.imp {H':Hp}{ts:List T3}(r:jH H vs ts) (h:∀p t,H p=some (zM t)->H' p=some (zM t)):jH H' vs ts :=
 Paired.mapP r λ_ t ⟨p,e,q⟩=>⟨p,e,h p t q⟩
theorem jH.snoc {ts:List T3}(r:jH H vs ts) (h:WI H v t):jH H (vs++[v]) (ts++[t]):=cE r h
theorem qA {α β:Type}(f:α->β) (l:List α) (i:Nat) (v:α) (h:l[i]? = some v):(l.take (i+1)).map f=(l.take i).map f++[f v]:=by
 rw [bL,h,aF]
 rfl
end L2
end
section
namespace L2
open PySem PySem.W PyProof.Rows
noncomputable def x3 {α:Type}(lt:Nat->Nat->Bool) (n:Nat):KasT α->(α->Prop)->Prop
 | .ret a,G=>G a
 | .ask i j k,G=>i<n/\j<n/\x3 lt n (k (lt i j)) G
theorem x3.bind {α β:Type}{lt:Nat->Nat->Bool}{n:Nat}{f:α->KasT β}{G:β->Prop}:∀{t:KasT α},x3 lt n t (λa=>x3 lt n (f a) G)->x3 lt n (t.bind f) G
 | .ret _,h=>h
 | .ask _ _ k,h=>⟨h.1,h.2.1,x3.bind (t:=k _) h.2.2⟩
theorem x3.wp {α:Type}{lt:Nat->Nat->Bool}{n:Nat}{cmp:Nat->Nat->(Bool->Shared->Prop)->Shared->Prop}{I:Shared->Prop}(hc:∀i j C s,i<n->j<n->I s->(∀s',I s'->C (lt i j) s')->cmp i j C s)
  {G:α->Prop} {Q:α->Shared->Prop} (hq:∀a s,G a->I s->Q a s):∀{t:KasT α} {s:Shared},x3 lt n t G->I s->t.kasWp cmp Q s
 | .ret a,s,h,hs=>hq a s h hs
 | .ask i j k,s,h,hs=>hc i j _ s h.1 h.2.1 hs λs' hs'=>x3.wp hc hq (t:=k _) h.2.2 hs'
section
variable {O:KeyOrd}{key:Nat->O.α}{n:Nat}{p:Array Nat}
noncomputable abbrev ltK (O:KeyOrd) (key:Nat->O.α):Nat->Nat->Bool:=λi j=>O.blt (key i) (key j)
noncomputable abbrev kp (key:Nat->O.α) (p:Array Nat) (i:Nat):O.α:=key (p.getD i 0)
noncomputable def zG (key:Nat->O.α) (p:Array Nat) (k:Nat):Prop:=∀i j,i<=j->j<k->O.kle (kp key p i) (kp key p j)
noncomputable def kP (key:Nat->O.α) (p:Array Nat) (k:Nat):Prop:=∀i j,i<=j->j<k->O.kle (kp key p j) (kp key p i)
noncomputable def qy (n:Nat) (p:Array Nat):Prop:=p.Perm (aW n).toArray
theorem qy.size (h:qy n p):p.size=n:=by have:=h.size_eq;simpa using this
theorem qy.lt (h:qy n p) (hn:0<n) (i:Nat):p.getD i 0<n:=by
 by_cases hi:i<p.size
 ·have e:p.getD i 0=p[i]:=by simp [oa,hi]
  rw [e]
  have hm:p[i]∈(aW n).toArray.toList:=(Array.perm_iff_toList_perm.mp h).mem_iff.mp (by simp)
  simpa using hm
 ·have e:p.getD i 0=0:=by simp [oa,hi]
  rw [e];exact hn
theorem zv {p q:Array Nat}{i j:Nat}(h:p[i]? = q[j]?):p.getD i 0=q.getD j 0:=by
 rw [iL,iL,h]
theorem gY {src d:Nat}(hs:src<p.size) (hd:d<=src) (k:Nat) :
  kp (O:=O) key (bubble p src d) k=if k=src-d then kp key p src else if src-d<k/\k<=src then kp key p (k-1) else kp key p k:=by
 have e:=getElem?_bubble hs d hd k
 unfold kp
 by_cases h1:k=src-d
 ·rw [if_pos h1] at e ⊢;rw [zv e]
 ·rw [if_neg h1] at e ⊢
  by_cases h2:src-d<k/\k<=src
  ·rw [if_pos h2] at e ⊢;rw [zv e]
  ·rw [if_neg h2] at e ⊢;rw [zv e]
theorem Zk {i j:Nat}(hj:j<=p.size) (k:Nat):kp (O:=O) key (rG p i j) k=if i<=k/\k<j then kp key p (i+j-1-k) else kp key p k:=by
 have e:=getElem?_mirror_all (i:=i) hj k
 unfold kp rG
 by_cases h1:i<=k/\k<j
 ·rw [if_pos h1] at e ⊢;rw [zv e]
 ·rw [if_neg h1] at e ⊢;rw [zv e]
theorem xw {i j:Nat}(hj:j<=p.size) (heq:∀k,i<=k->k<j->kp (O:=O) key p k=kp key p (j-1)) (k:Nat):kp (O:=O) key (rG p i j) k=kp key p k:=by
 rw [Zk hj]
 split
 ·rw [heq _ ∅ ∅,heq k ∅ ∅]
 ·rfl
theorem qy.rev (h:qy n p) (i j:Nat):qy n (rG p i j):=(mirror_perm _ _ _ _).trans h
theorem qy.bub (h:qy n p) (i j:Nat):qy n (bubble p i j):=(bubble_perm _ _ _).trans h
theorem JH (hP:qy n p) (hn:0<n) {G:Nat->Prop}:∀(f a:Nat),1<=a->zG (O:=O) key p a ->
  (∀m,a<=m->m<=a+f->zG (O:=O) key p m->(m=a+f\/O.klt (kp key p m) (kp key p (m-1)))->G m)->x3 (ltK O key) n (kas_asc p f a) G
 | 0,a,_,hs,h=>h a (av _) (av _) hs (.inl rfl)
 | f+1,a,h1,hs,h=>by
  refine ⟨hP.lt hn _,hP.lt hn _,?_⟩
  show x3 _ _ (if O.blt (kp key p a) (kp key p (a-1))=true then _ else _) _
  cases hless:O.blt (kp key p a) (kp key p (a-1)) with
  | true=>rw [if_pos rfl];exact h a (av _) ∅ hs (.inr hless)
  | false =>
   rw [if_neg au]
   refine JH hP hn f (a+1) ∅ (λi j hij hj=>?_) λm hm1 hm2 hsm ho=>h m ∅ ∅ hsm (ho.imp (λz=>∅) id)
   by_cases hja:j<a
   ·exact hs i j hij hja
   ·have hj':j=a:=∅
    subst hj'
    by_cases hi':i=j
    ·subst hi';exact d6 _
    ·exact ic (hs i (j-1) ∅ ∅) hless
theorem J8 (hP:qy n p) {m nrem:Nat}{G:Nat×Array Nat->Prop}(h1:1<=m) (hm:m<=nrem) (hn:nrem<=n) (hs:kP (O:=O) key p m)
  (h:∀k p',qy n p'->1<=k->k<=nrem->zG (O:=O) key p' k->G (k,p')):x3 (ltK O key) n (sN m nrem p) G:=by
 have hsz:m<=p.size:=by rw [hP.size];omega
 refine x3.bind (JH (hP.rev _ _) ∅ _ m h1 (λi j hij hj=>?_) λk hk1 hk2 hk3 _=>h k _ (hP.rev _ _) ∅ ∅ hk3)
 rw [Zk hsz,Zk hsz,if_pos ∅,if_pos ∅]
 exact hs _ _ ∅ ∅
theorem uv {nrem:Nat}(hn:nrem<=n) {G:Array Nat×Nat×Nat->Prop}:∀(f:Nat) (p:Array Nat) (x q:Nat),qy n p->1<=x->x+f=nrem->kP (O:=O) key p x->q+1<=x ->
  (∀i,x-(q+1)<=i->i<x->kp (O:=O) key p i=kp key p (x-1)) ->
  (∀p' m q',qy n p'->x<=m->m<=nrem->kP (O:=O) key p' m->q'+1<=m->(∀i,m-(q'+1)<=i->i<m->kp (O:=O) key p' i=kp key p' (m-1))->G (p',m,q')) ->
  x3 (ltK O key) n (kas_desc f p x q) G
 | 0,p,x,q,hP,h1,hx,hs,hq,he,h=>h p x q hP (av _) ∅ hs hq he
 | f+1,p,x,q,hP,h1,hx,hs,hq,he,h=>by
  have hsz:x<=p.size:=by rw [hP.size];omega
  refine ⟨hP.lt ∅ _,hP.lt ∅ _,?_⟩
  show x3 _ _ (if O.blt (kp key p x) (kp key p (x-1))=true then _ else _) _
  cases hless:O.blt (kp key p x) (kp key p (x-1)) with
  | true =>
   rw [if_pos rfl]
   have step1:∀p':Array Nat,(∀k,kp (O:=O) key p' k=kp key p k)->kP (O:=O) key p' (x+1):=by
    intro p' hk i j hij hj
    rw [hk,hk]
    by_cases hjx:j<x
    ·exact hs i j hij hjx
    ·have hj':j=x:=∅
     subst hj'
     by_cases hi':i=j
     ·subst hi';exact d6 _
     ·exact ic (fY hless) (hs i (j-1) ∅ ∅)
   by_cases hneq:q > 0
   ·rw [if_pos hneq]
    exact uv hn f _ (x+1) 0 (hP.rev _ _) ∅ ∅ (step1 _ (xw hsz he)) ∅ (λi h1 h2=>by congr 1;omega) λp' m q' a b=>h p' m q' a ∅
   ·rw [if_neg hneq]
    exact uv hn f _ (x+1) 0 hP ∅ ∅ (step1 _ λ_=>rfl) ∅ (λi h1 h2=>by congr 1;omega) λp' m q' a b=>h p' m q' a ∅
  | false =>
   rw [if_neg au]
   refine ⟨hP.lt ∅ _,hP.lt ∅ _,?_⟩
   show x3 _ _ (if O.blt (kp key p (x-1)) (kp key p x)=true then _ else _) _
   cases hlarger:O.blt (kp key p (x-1)) (kp key p x) with
   | true=>rw [if_pos rfl];exact h p x q hP (av _) ∅ hs hq he
   | false =>
    rw [if_neg au]
    have heqx:kp (O:=O) key p x=kp key p (x-1):=iH hlarger hless
    refine uv hn f p (x+1) (q+1) hP ∅ ∅ (λi j hij hj=>?_) ∅ (λi h1 h2=>?_) λp' m q' a b=>h p' m q' a ∅
    ·by_cases hjx:j<x
     ·exact hs i j hij hjx
     ·have hj':j=x:=∅
      subst hj'
      by_cases hi':i=j
      ·subst hi';exact d6 _
      ·rw [heqx];exact hs i (j-1) ∅ ∅
    ·rw [show x+1-1=x by omega]
     by_cases hix:i=x
     ·subst hix;rfl
     ·rw [heqx];exact he i ∅ ∅
theorem uG (hP:qy n p) {m nrem:Nat}{G:Nat×Array Nat->Prop}(hm:m+1<=nrem) (hn:nrem<=n) (hs:kP (O:=O) key p (m+1))
  (h:∀k p',qy n p'->1<=k->k<=nrem->zG (O:=O) key p' k->G (k,p')):x3 (ltK O key) n (kas_descPart m nrem p) G:=by
 refine x3.bind (uv hn _ p (m+1) 0 hP ∅ ∅ hs ∅ (λi h1 h2=>by congr 1;omega) λp' k q hP' hk1 hk2 hs' hq he=>?_)
 have hsz:k<=p'.size:=by rw [hP'.size];omega
 show x3 _ _ (if q > 0 then sN k nrem (rG p' (k-(q+1)) k) else sN k nrem p') _
 by_cases hneq:q > 0
 ·rw [if_pos hneq]
  refine J8 (hP'.rev _ _) ∅ hk2 hn (λi j hij hj=>?_) h
  rw [xw hsz he,xw hsz he]
  exact hs' i j hij hj
 ·rw [if_neg hneq]
  exact J8 hP' ∅ hk2 hn hs' h
theorem Yz (hP:qy n p) (hn:0<n) {G:Nat×Array Nat->Prop}(h:∀k p',qy n p'->1<=k->k<=n->zG (O:=O) key p' k->G (k,p')):x3 (ltK O key) n (kas_count n p) G:=by
 refine x3.bind (JH hP hn _ 1 (av 1) (λi j hij hj=>by have:i=j:=∅;subst this;exact d6 _) λm hm1 hm2 hsm hor=>?_)
 by_cases hnn:m=n
 ·rw [if_pos (by simpa using hnn)]
  exact h m p hP hm1 ∅ hsm
 ·rw [if_neg (by simpa using hnn)]
  have hlt:O.klt (kp key p m) (kp key p (m-1)):=by
   rcases hor with z | z
   ·omega
   ·exact z
  by_cases hgt:m > 1
  ·rw [if_pos hgt]
   refine ⟨hP.lt hn _,hP.lt hn _,?_⟩
   show x3 _ _ (if O.blt (kp key p 0) (kp key p (m-1))=true then _ else _) _
   cases hrose:O.blt (kp key p 0) (kp key p (m-1)) with
   | true=>rw [if_pos rfl];exact h m p hP hm1 ∅ hsm
   | false =>
    rw [if_neg au]
    have hsz:m<=p.size:=by rw [hP.size];omega
    have hall:∀k,0<=k->k<m->kp (O:=O) key p k=kp key p (m-1):=by
     intro k _ hk
     have a1:=hsm 0 k ∅ hk
     have a2:=hsm k (m-1) ∅ ∅
     exact iH a2 (ic hrose a1)
    refine uG (hP.rev _ _) ∅ (av _) (λi j hij hj=>?_) h
    rw [xw hsz hall,xw hsz hall]
    by_cases hjn:j<m
    ·rw [hall i ∅ ∅,hall j ∅ hjn];exact d6 _
    ·have hj':j=m:=∅
     subst hj'
     by_cases hi':i=j
     ·subst hi';exact d6 _
     ·rw [hall i ∅ ∅];exact fY hlt
  ·rw [if_neg hgt]
   have hm1':m=1:=∅
   subst hm1'
   refine uG hP ∅ (av _) (λi j hij hj=>?_) h
   by_cases hi':i=j
   ·subst hi';exact d6 _
   ·have hi0:i=0:=∅
    have hj1:j=1:=∅
    subst hi0;subst hj1
    exact fY hlt
theorem wc (hP:qy n p) (hn:0<n) {k:Nat}(hs:zG (O:=O) key p k) {G:Nat->Prop}:∀(f l r:Nat),l<=r->r<=k->r-l<=f ->
  (∀i,i<l->O.kle (kp key p i) (kp key p k))->(∀i,r<=i->i<k->O.klt (kp key p k) (kp key p i)) ->
  (∀l,l<=k->(∀i,i<l->O.kle (kp key p i) (kp key p k))->(∀i,l<=i->i<k->O.klt (kp key p k) (kp key p i))->G l)->x3 (ltK O key) n (kas_place p k f l r) G
 | 0,l,r,hlr,hrk,hm,hlo,hhi,h=>by
  have:l=r:=∅
  subst this
  exact h l hrk hlo hhi
 | f+1,l,r,hlr,hrk,hm,hlo,hhi,h=>by
  unfold kas_place
  by_cases hge:l>=r
  ·rw [if_pos hge]
   have:l=r:=∅
   subst this
   exact h l hrk hlo hhi
  ·rw [if_neg hge]
   refine ⟨hP.lt hn _,hP.lt hn _,?_⟩
   show x3 _ _ (if O.blt (kp key p k) (kp key p ((l+r) / 2))=true then _ else _) _
   cases hless:O.blt (kp key p k) (kp key p ((l+r) / 2)) with
   | true =>
    rw [if_pos rfl]
    exact wc hP hn hs f l _ ∅ ∅ ∅ hlo (λi h1 h2=>KeyOrd.klt_of_klt_of_kle hless (hs _ _ h1 h2)) h
   | false =>
    rw [if_neg au]
    exact wc hP hn hs f _ r ∅ ∅ ∅ (λi h1=>ic (hs i ((l+r) / 2) ∅ ∅) (show O.kle _ _ from hless)) hhi h
theorem ZO (hn:0<n) {G:Array Nat->Prop}:∀(f:Nat) (p:Array Nat) (k:Nat),qy n p->k+f=n->zG (O:=O) key p k ->
  (∀p',qy n p'->zG (O:=O) key p' n->G p')->x3 (ltK O key) n (kas_bin f p k) G
 | 0,p,k,hP,hk,hs,h=>h p hP (by rw [<- hk];exact hs)
 | f+1,p,k,hP,hk,hs,h=>by
  refine x3.bind (wc hP hn hs k 0 k (aP _) (av _) ∅ (λi hi=>∅) (λi h1 h2=>∅) λl hlk hlo hhi=>?_)
  refine ZO hn f _ (k+1) (hP.bub _ _) ∅ (λi j hij hj=>?_) h
  have hks:k<p.size:=by rw [hP.size];omega
  rw [gY hks ∅,gY hks ∅,show k-(k-l)=l by omega]
  repeat' split
  all_goals first
   | (exfalso;omega)
   | exact d6 _
   | exact hlo _ ∅
   | exact fY (hhi _ ∅ ∅)
   | exact hs _ _ ∅ ∅
theorem uh (hn:0<n) {G:Array Nat->Prop}(h:∀p',qy n p'->zG (O:=O) key p' n->G p'):x3 (ltK O key) n (sY n) G:=by
 refine x3.bind (Yz (Array.Perm.refl _) hn λk p' hP h1 hk hs=>?_)
 show x3 _ _ (if k<n then kas_bin (n-max k 1) p' (max k 1) else .ret p') _
 by_cases hkn:k<n
 ·rw [if_pos hkn,show max k 1=k by omega]
  exact ZO hn _ p' k hP ∅ hs h
 ·rw [if_neg hkn]
  have e:k=n:=∅
  subst e
  exact h p' hP hs
end
noncomputable def zF:List Int->List Int->Bool
 | [],[]=>false
 | [],_::_=>true
 | _::_,[]=>false
 | a::x,b::y=>if a=b then zF x y else decide (a<b)
theorem wx:∀a,zF a a=false
 | []=>rfl
 | a::x=>by unfold zF;rw [if_pos rfl];exact wx x
theorem hE:∀a b c,zF a b=true->zF b c=true->zF a c=true
 | [],[],_,h,_=>by cases h
 | [],_::_,[],_,h=>by cases h
 | [],_::_,_::_,_,_=>rfl
 | _::_,[],_,h,_=>by cases h
 | _::_,_::_,[],_,h=>by cases h
 | a::x,b::y,c::z,h1,h2=>by
  unfold zF at h1 h2 ⊢
  by_cases e1:a=b
  ·subst e1
   rw [if_pos rfl] at h1
   by_cases e2:a=c
   ·rw [if_pos e2] at h2 ⊢;exact hE x y z h1 h2
   ·rw [if_neg e2] at h2 ⊢;exact h2
  ·rw [if_neg e1] at h1
   have h1':=of_decide_eq_true h1
   by_cases e2:b=c
   ·subst e2;rw [if_neg e1];exact h1
   ·rw [if_neg e2] at h2
    have h2':=of_decide_eq_true h2
    rw [if_neg ∅]
    exact decide_eq_true ∅
theorem Xn:∀a b c,zF a c=true->zF a b=true\/zF b c=true
 | [],[],[],h=>by cases h
 | [],[],_::_,_=>.inr rfl
 | [],_::_,_,_=>.inl rfl
 | _::_,_,[],h=>by cases h
 | _::_,[],_::_,_=>.inr rfl
 | a::x,b::y,c::z,h=>by
  unfold zF at h ⊢
  by_cases e1:a=b
  ·subst e1
   rw [if_pos rfl]
   by_cases e2:a=c
   ·rw [if_pos e2] at h ⊢;exact Xn x y z h
   ·rw [if_neg e2] at h ⊢;exact .inr h
  ·rw [if_neg e1]
   by_cases e2:b=c
   ·subst e2;rw [if_neg e1] at h;exact .inl h
   ·rw [if_neg e2]
    by_cases e3:a=c
    ·subst e3
     by_cases hab:a<b
     ·exact .inl (decide_eq_true hab)
     ·exact .inr (decide_eq_true ∅)
    ·rw [if_neg e3] at h
     have h':=of_decide_eq_true h
     by_cases hab:a<b
     ·exact .inl (decide_eq_true hab)
     ·exact .inr (decide_eq_true ∅)
theorem wP:∀a b,zF a b=false->zF b a=false->a=b
 | [],[],_,_=>rfl
 | [],_::_,h,_=>by cases h
 | _::_,[],_,h=>by cases h
 | a::x,b::y,h1,h2=>by
  unfold zF at h1 h2
  by_cases e:a=b
  ·subst e
   rw [if_pos rfl] at h1 h2
   rw [wP x y h1 h2]
  ·rw [if_neg e] at h1
   rw [if_neg (λz=>e z.symm)] at h2
   have:=of_decide_eq_false h1
   have:=of_decide_eq_false h2
   omega
noncomputable def wA:KeyOrd:=⟨List Int,zF,wx,hE,Xn,wP⟩
noncomputable def Zz:KeyOrd:=⟨Int,λa b=>decide (a<b),λa=>by simp,λa b c h1 h2=>by
  have:=of_decide_eq_true h1;have:=of_decide_eq_true h2;exact decide_eq_true ∅,λa b c h=>by
  have:=of_decide_eq_true h
  by_cases hab:a<b
  ·exact .inl (decide_eq_true hab)
  ·exact .inr (decide_eq_true ∅),λa b h1 h2=>by
  have:=of_decide_eq_false h1;have:=of_decide_eq_false h2;omega⟩
end L2
end
section
namespace L2
open PySem.W
open PySem.AutoSeq1 (wpAny_loadPart')
open PySem.MeetsSeq PySem.MeetsSeq2 PySem.MeetsSeq3 PySem.SeqRoads2
theorem JK (h:de its xs) {i:Nat}(hi:i<its.length):∃t,its[i]? = some (.int (xs[i]'(by have:=h.length;omega)) t):=by
 have hx:i<xs.length:=by have:=h.length;omega
 obtain ⟨u,e1,t,e2⟩:=jJ.get (uP h) (i:=i) (x:=V.int xs[i]) (by rw [aq,ag hx];rfl)
 exact ⟨t,by rw [e1,e2]⟩
theorem Yt (l b:Addr) (items items2:List ak) (n n2:Nat) (dd dd2:Option Addr) (sl sl2:Array (Option ak)) (hx:de items xs) (hy:de items2 ys) (k:Nat) :
  ∀i:Nat,items.length-i=k->i<=items.length->i<=items2.length->Meets (fH.«list.__eq__.loop» ⟨[.ref l,.ref b,c6 i,c6 0],[]⟩)
   (λA R s=>s.heap.get? l=some { cls:=.type "list",dict:=dd,data:=.seq items.toArray n,slots:=sl }/\s.heap.get? b=some { cls:=.type "list",dict:=dd2,data:=.seq items2.toArray n2,slots:=sl2 } /\
    R (.ok (.ret (.bool (zF (xs.drop i) (ys.drop i))))) s):=by
 have l1:=hx.length
 have l2:=hy.length
 induction k with
 | zero =>
  intro i hk hi hi2 prog w A R s h
  obtain ⟨hp,g,d,tk,os⟩:=s;obtain ⟨hl,hb,h⟩:=h
  wp_walk using bV hl,bV hb
  have e1:items.toArray[((i:Nat):Int).toNat]? = none:=by simp;omega
  have hd:xs.drop i=[]:=by simp;omega
  rw [hd] at h
  rw [e1]
  wp_walk using bV hl,bV hb
  show R (.ok (.ret (.bool (decide (items.toArray.size<items2.toArray.size))))) _
  have e2:decide (items.toArray.size<items2.toArray.size)=zF [] (ys.drop i):=by
   by_cases hlt:i<ys.length
   ·rw [dA hlt]
    exact decide_eq_true (by simp;omega)
   ·rw [ma ∅]
    exact decide_eq_false (by simp;omega)
  rw [e2]
  exact h
 | succ k ih =>
  intro i hk hi hi2 prog w A R s h
  obtain ⟨hp,g,d,tk,os⟩:=s;obtain ⟨hl,hb,h⟩:=h
  have hlt:i<items.length:=∅
  obtain ⟨t,e1'⟩:=JK hx hlt
  have e1:items.toArray[((i:Nat):Int).toNat]? = some (.int (xs[i]'∅) t):=by simpa using e1'
  wp_walk using bV hl,bV hb
  rw [e1]
  by_cases hlt2:i<items2.length
  ·obtain ⟨u,e2'⟩:=JK hy hlt2
   have e2:items2.toArray[((i:Nat):Int).toNat]? = some (.int (ys[i]'∅) u):=by simpa using e2'
   rw [e2]
   rw [dA (show i<xs.length by omega),dA (show i<ys.length by omega)] at h
   unfold zF at h
   refine aa (lJ ?_)
   have hc:((i:Int)+1)=((i+1:Nat):Int):=by push_cast;rfl
   by_cases e:xs[i]'∅=ys[i]'∅
   ·rw [if_pos e] at h
    rw [beq_iff_eq.mpr e]
    wp_walk
    rw [hc]
    exact ⟨sH plain_eq_loop _,mq entry_eq_loop (by
     rw [mI plain_eq_loop _]
     exact ih (i+1) ∅ ∅ ∅ prog w A R _ ⟨hl,hb,h⟩)⟩
   ·rw [if_neg e] at h
    rw [beq_eq_false_iff_ne.mpr e]
    wp_walk using bV hl,bV hb
    rw [e1,e2]
    refine aa (show az (aC prog w) _ (richCompare .Lt _ _) _ _ _ from lt_int ?_)
    exact wpAny_pure h
  ·have e2:items2.toArray[((i:Nat):Int).toNat]? = none:=by simp;omega
   rw [e2]
   rw [dA (show i<xs.length by omega),ma (show ys.length<=i by omega)] at h
   wp_walk using bV hl,bV hb
   show R (.ok (.ret (.bool (decide (items.toArray.size<items2.toArray.size))))) _
   rw [decide_eq_false (by simp;omega)]
   exact h
theorem Yv (l b:Addr) (items items2:List ak) (n n2:Nat) (dd dd2:Option Addr) (sl sl2:Array (Option ak)) (hx:de items xs) (hy:de items2 ys) :
  Meets (fH.«list.__lt__» ⟨[.ref l,.ref b],[]⟩)
   (λA R s=>s.heap.get? l=some { cls:=.type "list",dict:=dd,data:=.seq items.toArray n,slots:=sl }/\s.heap.get? b=some { cls:=.type "list",dict:=dd2,data:=.seq items2.toArray n2,slots:=sl2 } /\
    R (.ok (.ret (.bool (zF xs ys)))) s):=by
 intro prog w A R s h
 obtain ⟨hp,g,d,tk,os⟩:=s;obtain ⟨hl,hb,h⟩:=h
 have f3:=AutoSeq1.sub_list_list
 wp_walk using bV hl,bV hb
 exact ⟨sH plain_eq_loop _,mq entry_eq_loop (by
  rw [mI plain_eq_loop _]
  exact Yt l b items items2 n n2 dd dd2 sl sl2 hx hy _ 0 rfl (aP _) (aP _) prog w A R _ ⟨hl,hb,by simpa using h⟩)⟩
section
variable {prog:Program}{w:bp}{A:br}{E:ak->Shared->Prop}{s:Shared}
theorem Xl {l b:Addr}{items items2:List ak}{n n2:Nat}{dd dd2:Option Addr}{sl sl2:Array (Option ak)}{Q:Bool->Shared->Prop}(hu:A.units<cLine)
  (hl:s.heap.get? l=some { cls:=.type "list",dict:=dd,data:=.seq items.toArray n,slots:=sl }) (hb:s.heap.get? b=some { cls:=.type "list",dict:=dd2,data:=.seq items2.toArray n2,slots:=sl2 })
  (hx:de items xs) (hy:de items2 ys) (h:Q (zF xs ys) s):az (aC prog w) A (oneLt' true (.ref l) (.ref b)) Q E s:=by
 rw [oneLt'_eq]
 simp only [if_true]
 refine aa (wpAny_cRoomFor hu ?_)
 refine aa (wpAny_callSpecialIfBound?_slot ⟨_,hl,rfl⟩ mJ (rT mJ ⟨_,hl,rfl⟩ PySem.F.entry_list_lt (PySem.F.args_list_lt_2 _ _) (Yv l b items items2 n n2 dd dd2 sl sl2 hx hy) ⟨hl,hb,?_⟩))
 exact bZ h
theorem Zj {x y:Addr}{items items2:List ak}{n k:Nat}{Q:Bool->Shared->Prop}(hx:s.heap.get? x=some ox) (dx:ox.data = .seq items.toArray n) (hy:s.heap.get? y=some oy) (dy:oy.data = .seq items2.toArray k)
  (ix:de items xs) (iy:de items2 ys) (h:Q (zF xs ys) s):az (aC prog w) A (keyLt' (tuples' true) (.ref x) (.ref y)) Q E s:=by
 refine kat_lt hx dx hy dy ?_
 have go:∀(items items2:List ak) (xs ys:List Int) (i:Nat) (fin:Bool),de items xs->de items2 ys->(∀m:Nat,xs.length=m+items.length-items.length->True) ->
   fin=decide (items.length<items2.length)->Q (zF xs ys) s->KatLex prog w A true fin Q (items.zip items2) i s:=by
  intro items items2 xs ys i fin a b
  induction a generalizing items2 ys i with
  | nil =>
   intro _ hf hq
   cases b with
   | nil=>subst hf;exact hq
   | cons m u r=>subst hf;exact hq
  | cons m u r ih =>
   intro _ hf hq
   cases b with
   | nil=>subst hf;exact hq
   | cons m' u' r' =>
    refine kat_cons (lJ ?_)
    unfold zF at hq
    by_cases e:m=m'
    ·rw [beq_iff_eq.mpr e]
     rw [if_pos e] at hq
     refine kat_yes (ih _ _ _ r' (λ_ _=>trivial) ?_ hq)
     rw [hf]
     simp
    ·rw [beq_eq_false_iff_ne.mpr e]
     rw [if_neg e] at hq
     refine kat_no ?_
     cases hb:(true && i == 0) with
     | true=>exact oneLt_int hq
     | false=>exact kat_one _ _ (lt_int hq)
 have e:(items.toArray.toList.zip items2.toArray.toList)=items.zip items2:=by simp
 rw [e]
 exact go items items2 xs ys 0 _ ix iy (λ_ _=>trivial) (by simp) h
end
end L2
end
section
namespace L2
open PySem.W
section
variable {prog:Program}{w:bp}{A:br}{E:ak->Shared->Prop}{s:Shared}
theorem uD (its:List ak):(its.toArray.zip its.toArray).map (·.2)=its.toArray:=by
 apply Array.toList_inj.mp
 rw [pJ,ksk_zip]
 show (its.zip its).map oQ=its
 rw [lQ]
 exact av _
theorem vV (its:List ak):((aW its.length).map λi=>its.getD i aT)=its:=by
 apply ie
 ·simp
 ·intro i h1 h2
  simp at h1
  simp [h1]
theorem XZ {l:Addr}{its:List ak}{κ:rY}{lt:Nat->Nat->Bool}{G:List Nat->Prop}{Q:ak->Shared->Prop}(hl:s.heap.IsList l its.toArray) (h64:its.length<64)
  (hk:2<=its.length->∀h',↥56->∀Q':rY->Shared->Prop,Q' κ { s with heap:=h' }->az (aC prog w) A.in1.in1 (keyKind' its.toArray) Q' (λ_ _=>False) { s with heap:=h' })
  (hc:∀h',↥56->∀i j,i<its.length->j<its.length->∀Q':Bool->Shared->Prop,Q' (lt i j) { s with heap:=h' } ->
   az (aC prog w) A.in1.in1 (keyLt' κ (its.getD i aT) (its.getD j aT)) Q' (λ_ _=>False) { s with heap:=h' })
  (hs:2<=its.length->x3 lt its.length (sY its.length) λp=>qy its.length p/\G p.toList) (h1:its.length<2->G (aW its.length))
  (h:∀(ix:List Nat) (h':Heap) (n:Nat),ix.Perm (aW its.length)->G ix->↥56 ->
   h'.get? ↥21=some (bu "list" (↥53).toArray n)->Q (.ref ↥21) { s with heap:=h' }) :
  az (aC prog w) A (call (.builtin "sorted") [.ref l]) Q E s:=by
 refine lh rf oW oX (args_sorted1 _) ?_
 unfold fH.«sorted»
 refine aa (m:=rZ "sorted" 1 1 _) ↥52
 refine aa (collect_list hl ?_ (by rw [bH];omega))
 refine aa (fD ?_ (by rw [bH];omega))
 have hsz: (↥15).objs.size=s.heap.objs.size+1:=by
  rw [dO,og]
 have ho:((↥15).push ↥36).get? ↥21=some ↥36:=by
  rw [<- hsz];exact aA _ rfl
 have keep:∀b o,s.heap.get? b=some o->((↥15).push ↥36).get? b=some o:=λb o q=>by
  have hlt:b<s.heap.objs.size:=aw q
  rw [cM _ _ _ (by rw [hsz];exact aB (c3 hlt)),bX _ _ _ _ (aB hlt),cM _ _ _ (aB hlt)]
  exact q
 show az _ _ _ _ _ { s with heap:=(↥15).push ↥36 }
 rw [hsz]
 refine aa (bD (cg mK ⟨_,ho,rfl⟩ mr ?body (se _)))
 case body =>
  generalize hh0: (↥15).push ↥36=h0 at ho keep
  generalize ha:s.heap.objs.size+1=a at ho h
  have aNew:∀b o,s.heap.get? b=some o->b≠a:=λb o q=>by have:=aw q;rw [<- ha];exact aB (c3 this)
  show az (aC prog w) A.in1.in1 (fH.«list.sort» ⟨[.ref a],[]⟩) _ _ { s with heap:=h0 }
  rw [rj]
  have hal:a<h0.objs.size:=aw ho
  refine aa (md ho rfl ?_)
  refine aa (cX ho rfl ?_ (by rw [ax,bH];omega) (aP _))
  obtain ⟨e1,ho1⟩:∃e1,(h0.update a (aY λ_=>(#[]:Array ak))).get? a=some (bu "list" #[] e1):=⟨_,eE ho (λ_=>#[])⟩
  refine aa (eY ho1 rfl ?_)
  refine aa (iW ?_ (by show its.length<=_;rw [bH];omega))
  refine aa (fD ?_ (aP _))
  refine bD ?_
  have ho6:((↥13).push (bu "list" #[] 0)).get? a=some (bu "list" #[] e1):=by
   rw [cM _ _ _ (by rw [og,dO];exact aB (c3 hal)),cM _ _ _ (by rw [dO];exact aB hal)]
   exact ho1
  have keep6:∀b o,s.heap.get? b=some o->((↥13).push (bu "list" #[] 0)).get? b=some o:=λb o q =>
   aj _ (aj _ ((bX _ _ _ _ (aNew b o q)).trans (keep b o q)))
  show az (aC prog w) A.in1.in1 _ _ _ { s with heap:=(↥13).push (bu "list" #[] 0) }
  generalize (↥13).push (bu "list" #[] 0)=h6 at ho6 keep6
  dsimp only
  have fin:∀(ix:List Nat),ix.Perm (aW its.length)->G ix->∀out:Array ak,out=(↥53).toArray ->
    ∃v,sf (Flow.ret aT) = .done (.ret v)/\az (aC prog w) A.in1 (do let _ <- pure v;ret (aS a)) ↥60 E { s with heap:=h6.update a (aY λ_=>out) }:=λix hp hg out ho'=>by
   refine ⟨_,rfl,aa (wpAny_pure (wpAny_pure ⟨_,rfl,?_⟩))⟩
   subst ho'
   exact h ix _ _ hp hg (λb o q=>(bX _ _ _ _ (aNew b o q)).trans (keep6 b o q)) (eE ho6 λ_=>_)
  by_cases h2:its.toArray.size<2
  ·rw [if_pos h2,if_pos h2]
   refine aa ↥52
   rw [mv]
   refine aa ↥52
   dsimp only
   refine aa (eY ho6 rfl ?_)
   rw [uD]
   refine aa (cX ho6 rfl ?_ (aP _) (by rw [ax,bH];omega))
   simp only [bne_self_eq_false,c9,if_false]
   rw [ax] at h2
   exact wpAny_pure (fin _ (mL _) (h1 h2) _ (by rw [vV]))
  ·rw [if_neg h2,if_neg h2]
   rw [ax] at h2
   refine aa (aX (hk ∅ h6 keep6 (λκ' s'=>κ'=κ/\s'={ s with heap:=h6 }) ⟨rfl,rfl⟩) (λκ' s' q=>?_) λ_ _ x=>x.elim)
   obtain ⟨rfl,rfl⟩:=q
   refine aa (aX (kat_run (ks:=its) (vs:=its) (κ:=κ') (G:=λp s'=>(qy its.length p/\G p.toList)/\s'={ s with heap:=h6 }) (Q:=λst' s'=>∃p:Array Nat,arrOf st'=p.map (sZ (its.toArray.zip its.toArray))/\si st'=none/\(qy its.length p/\G p.toList)/\s'={ s with heap:=h6 })
    rfl ∅ h64 (λp st' s' a1 a2 a3 a4=>⟨p,a2,a3,a4⟩) (x3.wp (I:=λs'=>s'={ s with heap:=h6 }) (λi j C s' hi hj hI hC=>?_) (λp s' hp hI=>⟨hp,hI⟩) (hs ∅) rfl)) ?_ λ_ _ e=>e)
   ·subst hI
    exact hc h6 keep6 i j hi hj C (hC _ rfl)
   ·rintro ⟨⟨⟩,st'⟩ s' ⟨p,har,hf,⟨hP,hG⟩,rfl⟩
    dsimp only
    have hout:=tj (ks:=its) (vs:=its) rfl har
    have hz:(oY (p.toList.map λi=>its.getD i aT)).size=its.length:=by rw [ax,af,bP,hP.size]
    rw [hout]
    refine aa (eY ho6 rfl ?_)
    refine aa (cX ho6 rfl ?_ (aP _) (by rw [hz,bH];omega))
    rw [hf]
    simp only [bne_self_eq_false,c9,if_false]
    exact wpAny_pure (fin p.toList (by have:=Array.perm_iff_toList_perm.mp hP;simpa using this) hG _ rfl)
end
end L2
end
section
namespace L2
open PySem.W
noncomputable def uA (O:KeyOrd) (key:Nat->O.α) (vs out:List V):Prop:=∃ix:List Nat,ix.Perm (aW vs.length)/\out=(ix.map λi=>vs.getD i V.non)/\(ix.map key).Pairwise O.kle
theorem zG.pairwise {O:KeyOrd}{key:Nat->O.α}{p:Array Nat}{n:Nat}(hs:zG (O:=O) key p n) (hz:p.size=n):(p.toList.map key).Pairwise O.kle:=by
 rw [List.pairwise_iff_getElem]
 intro i j hi hj hij
 simp at hi hj
 have q:=hs i j (dX hij) ∅
 unfold kp at q
 have e1:p.getD i 0=p[i]:=by simp [oa,hi]
 have e2:p.getD j 0=p[j]:=by simp [oa,hj]
 rw [e1,e2] at q
 simpa using q
theorem Jw:∀{vs:List V}{us:List ak},jJ vs us->∀i,jK (vs.getD i V.non) (us.getD i aT)
 | _,_,.nil,_=>rfl
 | _,_,.cons r _,0=>r
 | _,_,.cons _ t,i+1=>Jw t i
theorem uS {vs:List V}{us:List ak}(r:jJ vs us):∀ix:List Nat,jJ (ix.map λi=>vs.getD i V.non) (ix.map λi=>us.getD i aT)
 | []=>.nil
 | i::ix=>.cons (Jw r i) (uS r ix)
theorem Qz {a b:Int}(h:Zz.kle a b):a<=b:=Int.not_lt.mp (of_decide_eq_false h)
noncomputable def yg (H:Hp) (vs:List V) (rows:List (List Int)):Prop:=d8 (λv (r:List Int)=>∃a,v=V.ref a/\H a=some (.lst (r.map V.int))) vs rows
theorem Paired.get {α β:Type}{F:α->β->Prop}:∀{l₁:List α}{l₂:List β}{i:Nat}{x:α},d8 F l₁ l₂->l₁[i]? = some x->∃y,l₂[i]? = some y/\F x y
 | _,_,_,_,.nil,e=>by simp at e
 | _,_,0,_,.cons r _,e=>by simp at e;subst e;exact ⟨_,rfl,r⟩
 | _,_,i+1,v,.cons _ t,e=>by
  obtain ⟨d,h1,h2⟩:=Paired.get (i:=i) (x:=v) t (by simpa using e)
  exact ⟨d,by simpa using h1,h2⟩
theorem zp:∀{ns:List Int}{us:List ak},jJ (ns.map V.int) us->de us ns
 | [],_,.nil=>.nil
 | n::ns,_,.cons ⟨t,e⟩ r=>by subst e;exact .cons n t (zp r)
section
variable {X:Cx}
theorem gy (K:ah) (hu:X.A.units+64<cLine) (hK:X.K=K:=by rfl):qO X (.builtin "sorted") (λxs H Q=>∃p vs rows,xs=[.ref p]/\SqL K H p vs/\vs.length<64/\yg H vs rows /\
  ∀l H' out,H l=none->H' l=some (.lst out)->jn H H'->uA wA (λi=>rows.getD i []) vs out->Q (.ref l) H'):=by
 subst hK
 intro pins s σ H xs us Q I r h
 obtain ⟨p,vs,rows,rfl,hq,h64,hr,k⟩:=h
 obtain ⟨u,rfl,ru⟩:=yk r
 cases ru
 obtain ⟨its,rv,pl,hz⟩:=I.list hq
 have hlen:its.length=vs.length:=rv.length.symm
 have item:∀i,i<its.length->∃a its' n,its.getD i aT = .ref a/\s.heap.get? a=some { cls:=.type "list",data:=.seq its'.toArray n }/\de its' (rows.getD i []):=λi hi=>by
  have e1:vs[i]? = some (vs[i]'∅):=ag ∅
  obtain ⟨y,e2,a,e3,e4⟩:=Paired.get hr e1
  obtain ⟨u,e5,ru⟩:=rv.get e1
  rw [e3] at ru
  cases ru
  obtain ⟨z,its',n,rv',e6⟩:=I.hok a _ e4
  refine ⟨a,its',n,by rw [ao,e5];rfl,e6,?_⟩
  rw [ao,e2]
  exact zp rv'
 have hun:X.A.in1.in1.units<cLine:=by
  show X.A.units+1+1<cLine
  omega
 refine XZ (κ:=tm) (lt:=ltK wA λi=>rows.getD i []) (G:=λix=>(ix.map λi=>rows.getD i []).Pairwise wA.kle) pl.isList ∅ (λh2 h' hk' Q' q=>?_) (λh' hk' i j hi hj Q' q=>?_) (λh2=>?_) (λh1=>?_) λix h' n hp hg hk' hn=>?_
 ·refine tu (T:=.type "list") h2 (λv hv=>?_) rfl rfl q
  obtain ⟨i,hi,rfl⟩:=List.mem_iff_getElem.mp hv
  obtain ⟨a,its',n,e1,e2,_⟩:=item i hi
  have e3:its[i] = .ref a:=by rw [<- e1];simp [hi]
  rw [e3]
  exact (show Looks _ h' (rS (.ref a)) _ from (tD (hk' _ _ e2)).andThen .now)
 ·obtain ⟨a,its',n,e1,e2,e3⟩:=item i hi
  obtain ⟨b,its2,n2,f1,f2,f3⟩:=item j hj
  rw [e1,f1,keyLt'_oneType]
  exact Xl hun (hk' _ _ e2) (hk' _ _ f2) e3 f3 q
 ·exact uh ∅ λp' hP hS=>⟨hP,hS.pairwise hP.size⟩
 ·have hcase:its.length=0\/its.length=1:=∅
  rcases hcase with z | z
  ·rw [z];exact eU
  ·rw [z];exact dP _ _
 ·have hf:H ↥21=none:=I.hok.fresh (dH _)
  refine ⟨.ref _,upd H ↥21 (.lst (ix.map λi=>vs.getD i V.non)),I.laid (t':=s.toks) hk' (dH _) ⟨?_,_,n,uS rv ix,hn⟩,rfl,k _ _ _ hf j7 (jn.new hf) ⟨ix,by rw [<- hlen];exact hp,rfl,hg⟩⟩
  rw [af,hp.length_eq,c5]
  exact aE (by omega:its.length<=1000) ⋯
end
end L2
end
section
namespace L2
open PySem.W
noncomputable abbrev uy (qual:Str) (params:Arguments) (body:Expr) (scope:Scope) (pm:ak) (c:Addr) (ctv:ak):FuncData:=kla_fn "<lambda>" qual params body scope [] pm (.ref c) ctv
noncomputable def YI (f:Addr) (fd:FuncData):HO:=.ext λh=>h.get? f=some { cls:=.type "function",data:=.func fd }
noncomputable def Zd (c:Addr) (qual:Str):HO:=.ext λh=>h.CodeRec (.ref c) qual
noncomputable def Tab (H:Hp) (Pt:Addr) (pos:Pos) (qual:Str):Prop:=H Pt=some (.tbl #[])\/∃c',H Pt=some (.tbl #[c6 pos.line,c6 pos.col,.ref c'])/\H c'=some (Zd c' qual)
theorem Tab.ne (T:Tab H Pt pos qual):∃ps,H Pt=some (.tbl ps):=by
 rcases T with z | ⟨c',z,_⟩
 ·exact ⟨_,z⟩
 ·exact ⟨_,z⟩
theorem Tab.same (T:Tab H Pt pos qual) (s:jn H H'):Tab H' Pt pos qual:=by
 rcases T with z | ⟨c',z,y⟩
 ·exact .inl (s _ _ z)
 ·exact .inr ⟨c',s _ _ z,s _ _ y⟩
theorem Tab.ext {b:Addr}{xs:List V}(T:Tab H Pt pos qual) (hb:H b=some (.lst xs)) (e:Ext b H H'):Tab H' Pt pos qual:=by
 rcases T with z | ⟨c',z,y⟩
 ·exact .inl (e _ _ z (jg z hb (by intro q;cases q)))
 ·exact .inr ⟨c',e _ _ z (jg z hb (by intro q;cases q)),e _ _ y (jg y hb (by intro q;cases q))⟩
theorem Tab.extN {b:Addr}(T:Tab H Pt pos qual) (hb:H b=none) (e:Ext b H H'):Tab H' Pt pos qual:=T.same λc o h=>e c o h (j4 h hb)
noncomputable def Bm (mg:Str->Option ak) (base:Heap):Prop:=∃bm ob,mg "__builtins__" = some (.ref bm)/\bm≠lW/\base.get? bm=some ob/\ob.cls = .type "module" /\ ob.dict=some lW/\ob.data = .plain
theorem W9 {K:ah}{k:Nat}{f c:Addr}{pm ctv:ak}{x:Str}{s:Shared}{u:ak}
  (ho:s.heap.get? f=some { cls:=.type "function",data:=.func (uy qual params body scope pm c ctv) }) (hcd:s.heap.CodeRec (.ref c) qual) (S:FnScope N [x] scope) (hr:Room (k+1) A) (e0:Env0 P w K mg base A outer s H)
  (hb:∀pm c ctv u,cC (uy qual params body scope pm c ctv) ⟨[u],[]⟩=pure [(x,u)]) (r:jK v u)
  (ht:PE (vI CX0 P w K mg base N qual scope f (.ref c) A outer s H E0).nox body t) (q:t (start N [v]) H Q) :
  cW (aC P w) A (.call (.ref f) ⟨[u],[]⟩) (CR CX0 outer P w H s Q E0) s:=by
 have lim:s.heap.NoLimit:=e0.mod.nolimit.keeps λb o e=>(e0.bs b o e).1
 have hkind:∀y∈([x].zip [u]),scope.names.lookup y.1=some .local\/(scope.names.lookup y.1=some .cell/\((lN ↥21 scope.names []).lookup y.1).isSome=true):=λ⟨n,v⟩ hy=>by
  rcases S.par n (fG hy).1 with q | q
  ·exact .inl q
  ·exact .inr ⟨q,dZ _ _ _ (.inl q)⟩
 refine kla_callFunE hr.depth ho rfl S.co S.gen rfl hcd ?_
 rw [hb]
 refine wpAny_pure (eW (binds:=[x].zip [u]) S.kind hkind λenv he s1 y=>?_)
 subst he
 refine ⟨lim.keeps y.toInCall.keep,kla_codeExpr ?_⟩
 have I:Inv (vI CX0 P w K mg base N qual scope f (.ref c) A outer s H E0) [] (start N [v]) H s1:=uK S hr.hd e0 rfl (Paired.cons r .nil) y
 refine aX (ht.nox [] s1 (start N [v]) H _ I q) (λu' s' hs=>?_) λe s' hs=>hs
 obtain ⟨v',H',J,rv,q'⟩:=hs
 exact ⟨v',H',J.os,J.bare,J.base,J.hok,rv,q'⟩
section
variable {X:Cx}{pins:List (Addr×Obj)}{σ:St}{H:Hp}{s:Shared}
theorem Vp {Q:ak->Shared->Prop}(I:Inv X pins σ H s) (hcode:X.env.code = .ref c) (CH:CodeHd X.base c Pt) (hB:Bm X.mg X.base)
  (hcl:o9 scope X.env=pure []) (hdef:defaultsOf params X.env=([],[])) (T:Tab H Pt pos ↥80)
  (k:∀f H' s' pm c' ctv,Inv X pins σ H' s'->H f=none->H' f=some (YI f (uy ↥80 params body scope pm c' ctv))->H' c'=some (Zd c' ↥80)->Ext Pt H H'->Tab H' Pt pos ↥80->Q (.ref f) s') :
  az ↥6 X.A (eval (.Lambda params body scope pos) X.env) Q E s:=by
 refine kla_eval hdef ?_
 obtain ⟨bm,ob,b1,b2,b3,b4,b5,b6⟩:=hB
 obtain ⟨ps0,hPt⟩:=T.ne
 have trk:∀{b:Addr} {o:Obj},X.base.get? b=some o->b≠Pt:=λ{b o} e z=>by
  have:=(I.bs b o e).2
  rw [z,hPt] at this;cases this
 have hgN:s.heap.Ns mainGlobals X.mg:=I.ok.mod.glob.keeps I.bk
 have hgP:mainGlobals≠Pt:=by
  obtain ⟨o,es,ep,e,_⟩:=I.ok.mod.glob
  exact trk e
 have hbG:bm≠mainGlobals:=λq=>by
  obtain ⟨o,es,ep,e,hd,_⟩:=I.ok.mod.glob
  rw [q,e] at b3;cases b3;rw [hd] at b6;cases b6
 have hBA:s.heap.BuiltinsAt X.mg Pt:=⟨bm,ob,b1,b2,hbG,trk b3,I.bk _ _ b3,b4,b5,b6⟩
 have LS:∀(f:Addr) (fd:FuncData) (h1 h2:Heap),h1.get? f=some { cls:=.type "function",data:=.func fd }->(∀o,h1.get? f=some o->h2.get? f=some o)->h2.get? f=some { cls:=.type "function",data:=.func fd }:=λf fd h1 h2 e m=>m _ e
 have CS:∀(c:Addr) (q:Str) (h1 h2:Heap),h1.CodeRec (.ref c) q->(∀o,h1.get? c=some o->h2.get? c=some o)->h2.CodeRec (.ref c) q:=λc q h1 h2 ⟨c',o,vs,t,e,g,r⟩ m=>by
  cases e
  exact ⟨c,o,vs,t,rfl,m _ g,r⟩
 rcases T with hT | ⟨c',hT,hC⟩
 ·have eT:s.heap.get? Pt=some (rH #[]):=I.hok Pt _ hT
  refine kla_makeFunction (mg:=X.mg) hcl I.ok.glob hgN hcode (CH.keeps I.bk) eT trivial rfl hgP hBA λc' ctv h' tk hx hge hlt hrec htb=>?_
  have hcN:H c'=none:=I.hok.fresh hge
  have hsz:s.heap.objs.size<=h'.objs.size:=dX (c8 hge hlt)
  have hfN:H h'.objs.size=none:=I.hok.fresh hsz
  have neC:∀{b:Addr} {o:Obj},s.heap.get? b=some o->b≠c':=λ{b o} e=>aB (aK (aw e) hge)
  have neF:∀{b:Addr} {o:Obj},s.heap.get? b=some o->b≠h'.objs.size:=λ{b o} e=>aB (aK (aw e) hsz)
  have hPc:Pt≠c':=neC eT
  have hPf:Pt≠h'.objs.size:=neF eT
  have hcf:c'≠h'.objs.size:=aB hlt
  have e':h'.get? Pt=some (rH #[c6 pos.line,c6 pos.col,.ref c']):=by simpa using htb
  have getF:∀{b:Addr} {o:HO},H b=some o->b≠Pt->upd ↥40 h'.objs.size ↥22 b=some o:=λ{b o} e n=>by
   rw [j9 (j4 e hfN),j9 (j4 e hcN),j9 n];exact e
  have atP:upd ↥40 h'.objs.size ↥22 Pt=some (.tbl #[c6 pos.line,c6 pos.col,.ref c']):=by
   rw [j9 hPf,j9 hPc,j7]
  have atC:upd ↥40 h'.objs.size ↥22 c'=some (Zd c' ↥80):=by
   rw [j9 hcf,j7]
  refine k h'.objs.size (upd ↥40 h'.objs.size ↥22) _ ((X.mg "__name__").getD .none) c' ctv ?_ hfN j7 atC (λb o e n=>getF e n) (.inr ⟨c',atP,atC⟩)
  have kp1:∀b o,b≠Pt->s.heap.get? b=some o->(h'.push (kla_obj "<lambda>" ↥80 params body scope [] ((X.mg "__name__").getD .none) c' ctv)).get? b=some o:=λb o n e=>aj _ (hx b o n e)
  have nP:∀{b:Addr},H b=none->b≠Pt:=λ{b} e z=>by rw [z,hT] at e;cases e
  refine I.step (g':=s.gens) (d':=s.drawn) (ch:=[]) (λ_ z=>nomatch z) (λb o _ _ _ e n=>kp1 b o (nP n) e) (λb o _ _ _ e n=>⟨o.slots,kp1 b o (nP n) e⟩) (λb o _ e n=>?_) (λb o _ e=>?_) (λb xs e=>?_) (λb o u e=>?_) (λb ps e=>?_) (λm hm=>?_) (λb u e=>?_) I.bare
  ·rw [j9 (neF e),j9 (neC e),j9 (nP n)];exact n
  ·by_cases hb:b=Pt
   ·subst hb;exact ⟨_,aj _ e'⟩
   ·exact ⟨o,kp1 b o hb e⟩
  ·exact getF e (jg e hT ↥47)
  ·exact getF e (jg e hT ↥47)
  ·by_cases hb:b=Pt
   ·subst hb
    rw [hT] at e;cases e
    exact ⟨#[c6 pos.line,c6 pos.col,.ref c'],by rw [atP];simp⟩
   ·exact ⟨#[],by rw [getF e hb];simp⟩
  ·obtain ⟨o,es,ep,ho,r⟩:=hm
   exact ⟨o,es,ep,kp1 _ o (nP I.free) ho,r⟩
  ·by_cases h1:b=h'.objs.size
   ·subst h1
    rw [j7] at e;cases e
    exact ⟨aA _ rfl,⟨_,aA _ rfl⟩,λh1 h2 e m=>LS _ _ h1 h2 e m⟩
   ·by_cases h2:b=c'
    ·subst h2
     rw [atC] at e;cases e
     obtain ⟨c2,oc,vs,t,e2,hoc,r⟩:=id hrec
     cases e2
     exact ⟨hrec.keeps λb o e=>aj _ e,⟨_,aj _ hoc⟩,λh1 h2 e m=>CS _ _ h1 h2 e m⟩
    ·by_cases h3:b=Pt
     ·subst h3
      rw [atP] at e;cases e
      exact aj _ e'
     ·rw [j9 h1,j9 h2,j9 h3] at e
      refine (I.hok b u e).stay (λb' v hc q=>kp1 b' v ?_ q) (λb' q=>getF q (jg q hT ↥47)) λb' xs q=>getF q (jg q hT ↥47)
      rcases hc with z | z
      ·rw [z];exact h3
      ·exact jg z hT ↥47
 ·have eT:s.heap.get? Pt=some (rH #[c6 pos.line,c6 pos.col,.ref c']):=I.hok Pt _ hT
  have tri:TriplesOk (#[c6 pos.line,c6 pos.col,aS c']:Array ak).toList:=TriplesOk_snoc pos.line pos.col (.ref c') [] trivial
  have hit:codeAmong pos (#[c6 pos.line,c6 pos.col,aS c']:Array ak).toList=some (.ref c'):=codeAmong_snoc (c:=.ref c') [] trivial rfl
  refine kla_makeFunctionHit (mg:=X.mg) hcl I.ok.glob hgN hcode (CH.keeps I.bk) eT tri hit hBA λctv h' tk hk hsz=>?_
  have hfN:H h'.objs.size=none:=I.hok.fresh hsz
  refine k h'.objs.size (upd H h'.objs.size ↥22) _ ((X.mg "__name__").getD .none) c' ctv ?_ hfN j7 (by rw [j9 (j4 hC hfN)];exact hC) (Ext.new hfN) (.inr ⟨c',by rw [j9 (j4 hT hfN)];exact hT,by rw [j9 (j4 hC hfN)];exact hC⟩)
  exact I.laid (λb o e=>aj _ (hk b o e)) hsz ⟨aA _ rfl,⟨_,aA _ rfl⟩,λh1 h2 e m=>LS _ _ h1 h2 e m⟩
theorem Inv.adopt {D:Addr}{ob:Obj}{h':Heap}{t':Nat}(I:Inv X ((D,ob)::pins) σ H s) (h1:X.s₀.heap.objs.size<=D) (h2:∀x c,X.env.cells.lookup x=some c->c≠D) (h3:∀p∈X.pn++pins,p.1≠D)
  (k:∀b u,b≠D->s.heap.get? b=some u->h'.get? b=some u) (new:qv X.prog X.w (upd H D o) h' D o):Inv X pins σ (upd H D o) { s with heap:=h',toks:=t' }:=by
 obtain ⟨eD,nD,lD,_,_⟩:=I.pin (D,ob) (aD _ aO)
 have I':Inv X pins σ H s:=I.pins_of λp hp=>I.pin p (aD _ (aH _ hp))
 have nit:∀b u,H b=some u->b≠D:=λb u e z=>by rw [z,nD] at e;cases e
 have getF:∀{b:Addr} {u:HO},H b=some u->upd H D o b=some u:=λ{b u} e=>by rw [j9 (nit b u e)];exact e
 refine I'.step (g':=s.gens) (d':=s.drawn) (ch:=[D]) (λb hb=>?_) (λb o _ _ hc e _=>k b o (λz=>hc (by simp [z])) e) (λb o _ _ hc e _=>⟨o.slots,k b o (λz=>hc (by simp [z])) e⟩) (λb o hc _ n=>by rw [j9 (λz=>hc (by simp [z]))];exact n)
  (λb o hc e=>⟨o,k b o (λz=>hc (by simp [z])) e⟩) (λ_ _ e=>getF e) (λ_ _ _ e=>getF e) (λb ps e=>⟨#[],by rw [getF e];simp⟩) (λm hm=>?_) (λb u e=>?_) I'.bare
 ·have e:b=D:=by simpa using hb
  subst e
  exact ⟨.inr h1,lD,h2,h3⟩
 ·obtain ⟨o,es,ep,ho,r⟩:=hm
  exact ⟨o,es,ep,k _ o (cG lD) ho,r⟩
 ·by_cases hb:b=D
  ·subst hb
   rw [j7] at e;cases e
   exact new
  ·rw [j9 hb] at e
   refine (I'.hok b u e).stay (λc v hc q=>k c v ?_ q) (λ_ q=>getF q) λ_ _ q=>getF q
   rcases hc with z | z
   ·rw [z];exact hb
   ·exact nit c _ z
end
end L2
end
section
namespace L2
open PySem.W
noncomputable def G2 (H:Hp) (ks:List V) (keyf:Nat->List Int) (j:Nat):Prop:=ks.length=j/\∀i,i<j->∃q,ks[i]? = some (V.ref q)/\H q=some (.tup ((keyf i).map V.int))
theorem Xg {a b:List ak}(h:a.length=b.length):(a.toArray.zip b.toArray).map (·.2)=b.toArray:=by
 apply Array.toList_inj.mp
 rw [pJ,ksk_zip]
 show (a.zip b).map oQ=b
 rw [lQ]
 omega
section
variable {X:Cx}{pins:List (Addr×Obj)}{σ:St}{H:Hp}{s:Shared}
theorem QL {keyf:Nat->List Int}{Q:ak->Shared->Prop}(I:Inv X pins σ H s) (hq:SqL X.K H p vs) (h64:vs.length<64) (hne:∀i,i<vs.length->keyf i≠[])
  (hcall:∀i v,vs[i]? = some v->∀pins' s' H' u,Inv X pins' σ H' s'->jn H H'->jK v u->az ↥6 X.A.in1.in1 (call (.ref f) [u]) (EP X pins' σ λkv H''=>jn H' H''/\∃q,kv = .ref q/\H'' q=some (.tup ((keyf i).map V.int))) (λ_ _=>False) s')
  (k:∀l H' out s',Inv X pins σ H' s'->H l=none->H' l=some (.lst out)->jn H H'->uA wA keyf vs out->Q (.ref l) s') :
  az ↥6 X.A (call (.builtin "sorted") [.ref p] [(ai "key",.ref f)]) Q E s:=by
 obtain ⟨its,rv,pl,hz⟩:=I.list hq
 have hlen:its.length=vs.length:=rv.length.symm
 refine call_function_entry_kw rf oW oX (ksk_s1 _ _) ?_
 unfold fH.«sorted»
 refine aa (m:=rZ "sorted" 1 1 _) ↥52
 refine aa (collect_list pl.isList ?_ (by rw [bH];omega))
 refine aa (fD ?_ (by rw [bH];omega))
 have hsz: (↥15).objs.size=s.heap.objs.size+1:=by
  rw [dO,og]
 have ho:((↥15).push ↥36).get? ↥21=some ↥36:=by
  rw [<- hsz];exact aA _ rfl
 have keep:∀b o,s.heap.get? b=some o->((↥15).push ↥36).get? b=some o:=λb o q=>by
  have hlt:b<s.heap.objs.size:=aw q
  rw [cM _ _ _ (by rw [hsz];exact aB (c3 hlt)),bX _ _ _ _ (aB hlt),cM _ _ _ (aB hlt)]
  exact q
 show az _ _ _ _ _ { s with heap:=(↥15).push ↥36 }
 rw [hsz]
 refine aa (bD (wpAny_call_entry_kw mK ⟨_,ho,rfl⟩ mr ?body (ksk_l1 _ _)))
 case body =>
  generalize (↥15).push ↥36=h0 at ho keep
  generalize ha:s.heap.objs.size+1=a at ho
  have hDs:s.heap.objs.size<=a:=by rw [<- ha];exact dH _
  have aNew:∀b o,s.heap.get? b=some o->b≠a:=λb o q=>by have:=aw q;rw [<- ha];exact aB (c3 this)
  show az ↥6 X.A.in1.in1 (fH.«list.sort» ⟨[.ref a],[(ai "key",.ref f)]⟩) _ _ { s with heap:=h0 }
  rw [ksk_t1]
  unfold ksk_tree
  have hal:a<h0.objs.size:=aw ho
  refine aa (md ho rfl ?_)
  refine aa (cX ho rfl ?_ (by rw [ax,bH];omega) (aP _))
  obtain ⟨e1,ho1⟩:∃e1,(h0.update a (aY λ_=>(#[]:Array ak))).get? a=some (bu "list" #[] e1):=⟨_,eE ho (λ_=>#[])⟩
  refine aa (eY ho1 rfl ?_)
  refine aa (iW ?_ (by show its.length<=_;rw [bH];omega))
  refine aa (fD ?_ (aP _))
  refine bD ?_
  have ho5: (↥13).get? a=some (bu "list" #[] e1):=aj _ ho1
  have keep5:∀b o,s.heap.get? b=some o->(↥13).get? b=some o:=λb o q =>
   aj _ ((bX _ _ _ _ (aNew b o q)).trans (keep b o q))
  show az ↥6 X.A.in1.in1 (ksk_rest a (.ref f) false its.toArray e1 (.ref (↥13).objs.size)) _ _
   { s with heap:=(↥13).push (bu "list" #[] 0) }
  generalize (h0.update a (aY λ_=>(#[]:Array ak))).push (bu "tuple" its.toArray 0)=h5 at ho5 keep5
  have I5:Inv X pins σ H { s with heap:=h5,toks:=s.toks }:=I.kept keep5
  have hHa:H a=none:=I.hok.fresh hDs
  have hHk:H h5.objs.size=none:=I5.hok.fresh (av _)
  have hLoc:a≠X.env.locals:=λz=>by
   obtain ⟨m,⟨o,es,ep,e,_⟩,_⟩:=I.loc
   exact aNew _ _ e z.symm
  have hFs:a∉X.fs:=I.nofs hDs
  have hCell:∀x c,X.env.cells.lookup x=some c->c≠a:=λx c e=>by
   obtain ⟨v,o,e2,_⟩:=I.cell x c e
   exact aNew c o e2
  have hPins:∀q∈X.pn++pins,q.1≠a:=λq hq=>aNew _ _ (I.pin q hq).1
  have I6:Inv X ((a,bu "list" #[] e1)::pins) σ (upd H h5.objs.size (.lst [])) { s with heap:=h5.push (bu "list" #[] 0),toks:=s.toks }:=by
   refine Inv.pins_of (I5.lnew (its:=[]) (ys:=[]) .nil (aP _)) λq hq=>?_
   rcases List.mem_cons.mp hq with rfl | hq
   ·refine ⟨aj _ ho5,?_,hLoc,hFs,λv=>by intro z;cases z⟩
    rw [j9 (aB (aw ho5))]
    exact hHa
   ·have J:=(I5.lnew (its:=[]) (ys:=[]) (t':=s.toks) .nil (aP _)).pin q (aD _ hq)
    exact J
  unfold ksk_rest
  refine aa (fL ?_)
  first
   | rw [List.forIn_toArray]
   | (rw [<- oh];simp only [List.toList_toArray])
   | rw [<- oh]
  refine aa (ksk_fold (λj s'=>∃H' ks,Inv X ((a,bu "list" #[] e1)::pins) σ H' s'/\jn H H'/\H' h5.objs.size=some (.lst ks)/\G2 H' ks keyf j) its 0 _
   ⟨_,[],I6,jn.new hHk,j7,rfl,λi hi=>absurd hi (rm _)⟩ (λj x s' hx hJ=>?_) λs' hJ=>?_)
  ·-- a key
   rw [Nat.zero_add] at hJ ⊢
   obtain ⟨H',ks,J,sm,hk,hl,hks⟩:=hJ
   have hj:j<its.length:=(List.getElem?_eq_some_iff.mp hx).1
   have hv:vs[j]? = some (vs[j]'∅):=ag ∅
   obtain ⟨u,e5,ru⟩:=rv.get hv
   rw [hx] at e5
   cases e5
   refine aa (eK (aX (hcall j _ hv _ s' H' x J sm ru) (λkv s'' hk2=>?_) λ_ _ hF=>hF.elim))
   obtain ⟨kv',H'',J2,rk,sm2,q,rfl,hqq⟩:=hk2
   dsimp only
   have hk':=sm2 _ _ hk
   obtain ⟨z,itk,n,rvk,hlk,ek⟩:=J2.lstM hk'
   refine aa (cX ek rfl ?_ (by rw [ax,<- hlk,hl,bH];omega) (aE (oE (Array.size_push ..)) (by rw [ax,<- hlk,hl,bH];omega)))
   refine wpAny_pure ⟨rfl,_,ks++[.ref q],J2.lset (t':=s''.toks) (its':=itk++[kv]) hk' ek (by simp) (rvk.append (.cons rk .nil)) (by rw [ay,b7,hl];exact aE (by omega:j+1<=1000) ⋯),λb o e=>?_,j7,?_,λi hi=>?_⟩
   ·rw [j9 (j4 e hHk)]
    exact sm2 _ _ (sm _ _ e)
   ·rw [ay,b7,hl]
   ·by_cases hij:i<j
    ·obtain ⟨q',e6,e7⟩:=hks i hij
     refine ⟨q',by rw [cj ∅];exact e6,?_⟩
     have e8:=sm2 _ _ e7
     rw [j9 (jg e8 hk' ↥47)]
     exact e8
    ·have:i=j:=∅
     subst this
     refine ⟨q,by rw [c7 ∅,hl];simp,?_⟩
     rw [j9 (jg hqq hk' ↥47)]
     exact hqq
  ·-- behind the keys
   rw [Nat.zero_add] at hJ
   obtain ⟨H',ks,J,sm,hk,hl,hks⟩:=hJ
   obtain ⟨z,itk,n,rvk,hlk,ek⟩:=J.lstM hk
   have hlk':itk.length=its.length:=∅
   refine aa (md ek rfl ?_)
   obtain ⟨eD,nD,_⟩:=J.pin (a,bu "list" #[] e1) (aD _ aO)
   have hak:a≠h5.objs.size:=λz=>by rw [z,hk] at nD;cases nD
   have keyAt:∀i,i<its.length->∃q itq o m,itk.getD i aT = .ref q/\s'.heap.get? q=some o/\o.cls = .type "tuple" /\ o.data = .seq itq.toArray m/\de itq (keyf i):=λi hi=>by
    obtain ⟨q,e6,e7⟩:=hks i hi
    obtain ⟨u,e8,ru⟩:=rvk.get e6
    cases ru
    obtain ⟨zz,itq,rq,o,e9,ec,m,ed⟩:=J.hok q _ e7
    exact ⟨q,itq,o,m,by rw [ao,e8];rfl,e9,ec,ed,zp rq⟩
   have fin:∀(ix:List Nat) (st':SortSt),ix.Perm (aW its.length)->(ix.map keyf).Pairwise wA.kle->si st'=none->(arrOf st').map (·.2)=(↥53).toArray ->
     az ↥6 X.A.in1.in1 (ksk_tail a false e1 (.ref h5.objs.size) st') (λfin s'=>∃v,fin = .done (.ret v)/\az ↥6 X.A.in1 (do let _ <- pure v;ret (aS a)) ↥60 E s') E s':=by
    intro ix st' hp hg hf hout
    unfold ksk_tail
    dsimp only
    rw [hout]
    have hol: (↥53).length<64:=by rw [af,hp.length_eq,c5];omega
    refine aa (cX ek rfl ?_ (by rw [ax,hlk',bH];omega) (aP _))
    refine aa (mM ?_)
    have J2:Inv X ((a,bu "list" #[] e1)::pins) σ (upd H' h5.objs.size (.lst [])) { s' with heap:=s'.heap.update h5.objs.size (aY λ_=>(#[]:Array ak)),toks:=s'.toks }:=J.lset (its':=[]) (ys:=[]) hk ek rfl .nil (aP _)
    have eD2:(s'.heap.update h5.objs.size (aY λ_=>(#[]:Array ak))).get? a=some (bu "list" #[] e1):=(bX _ _ _ _ hak).trans eD
    refine aa (eY eD2 rfl ?_)
    refine aa (cX eD2 rfl ?_ (aP _) (by simp only [c9,if_false];rw [ax,bH];omega))
    rw [hf]
    simp only [bne_self_eq_false,c9,if_false]
    refine wpAny_pure ⟨_,rfl,aa (wpAny_pure (wpAny_pure ⟨_,rfl,?_⟩))⟩
    have eo:∃n,((s'.heap.update h5.objs.size (aY λ_=>(#[]:Array ak))).update a (aY λ_=>(↥53).toArray)).get? a=some (bu "list" (↥53).toArray n):=⟨_,eE eD2 λ_=>_⟩
    obtain ⟨n',eo⟩:=eo
    have J3:=J2.adopt (o:=.lst (ix.map λi=>vs.getD i V.non)) (t':=s'.toks) (aE I.sz hDs) hCell hPins
     (h':=(s'.heap.update h5.objs.size (aY λ_=>(#[]:Array ak))).update a (aY λ_=>(↥53).toArray)) (λb u n e=>(bX _ _ _ _ n).trans e) ⟨by rw [af,hp.length_eq,c5];exact aE (by omega:its.length<=1000) ⋯,_,n',uS rv ix,eo⟩
    refine k a _ _ _ J3 hHa j7 (λb o e=>?_) ⟨ix,by rw [<- hlen];exact hp,rfl,hg⟩
    rw [j9 (j4 e hHa),j9 (j4 e hHk)]
    exact sm _ _ e
   unfold ksk_end
   dsimp only
   simp only [c9,if_false]
   by_cases h2:its.toArray.size<2
   ·rw [if_pos h2,if_pos h2]
    refine aa ↥52
    rw [mv]
    refine aa ↥52
    dsimp only
    rw [ax] at h2
    refine fin (aW its.length) _ (mL _) ?_ rfl ?_
    ·have hcase:its.length=0\/its.length=1:=∅
     rcases hcase with z | z
     ·rw [z];exact eU
     ·rw [z];exact dP _ _
    ·rw [vV]
     exact Xg hlk'
   ·rw [if_neg h2,if_neg h2]
    rw [ax] at h2
    have tups:∃fs,KatTups s'.heap itk fs/\0<fs.length/\∀v∈fs,Looks ↥6 s'.heap (rS v) (.type "int"):=by
     have go:∀(l:List ak),(∀i,i<l.length->∃q itq o m ns,l.getD i aT = .ref q/\s'.heap.get? q=some o/\o.cls = .type "tuple" /\ o.data = .seq (oY itq) m/\de itq ns/\ns≠[]) ->
       ∃fs,KatTups s'.heap l fs/\fs.length=l.length/\∀v∈fs,Looks ↥6 s'.heap (rS v) (.type "int"):=by
      intro l
      induction l with
      | nil=>intro _;exact ⟨[],.nil,rfl,λ_ h=>nomatch h⟩
      | cons v l ih =>
       intro h
       obtain ⟨fs,t,e,lk⟩:=ih λi hi=>h (i+1) (by rw [bb];omega)
       obtain ⟨q,itq,o,m,ns,e1,e2,e3,e4,e5,e6⟩:=h 0 (by rw [bb];omega)
       have e1':v = .ref q:=e1
       subst e1'
       cases e5 with
       | nil=>exact absurd rfl e6
       | cons n t' r =>
        refine ⟨.int n t'::fs,KatTups.cons e2 e3 e4 (by simp) t,by rw [bb,bb,e],λv hv=>?_⟩
        rcases List.mem_cons.mp hv with rfl | hv
        ·exact nJ rfl
        ·exact lk v hv
     obtain ⟨fs,t,e,lk⟩:=go itk λi hi=>by
      obtain ⟨q,itq,o,m,a1,a2,a3,a4,a5⟩:=keyAt i ∅
      exact ⟨q,itq,o,m,keyf i,a1,a2,a3,a4,a5,hne i ∅⟩
     exact ⟨fs,t,∅,lk⟩
    obtain ⟨fs,t,hfs,lk⟩:=tups
    refine aa (kat_kind (T:=.type "int") t hfs lk rfl ?_)
    rw [show (i7 "int" != i7 "tuple")=true from rfl]
    refine aa (aX (kat_run (ks:=itk) (vs:=its) (κ:=tuples' true) (G:=λp s2=>(qy its.length p/\(p.toList.map keyf).Pairwise wA.kle)/\s2=s') (Q:=λst' s2=>∃p:Array Nat,arrOf st'=p.map (sZ (itk.toArray.zip its.toArray))/\si st'=none/\(qy its.length p/\(p.toList.map keyf).Pairwise wA.kle)/\s2=s')
     hlk' ∅ ∅ (λp st' s' a1 a2 a3 a4=>⟨p,a2,a3,a4⟩) (x3.wp (lt:=ltK wA keyf) (n:=its.length) (I:=λs2=>s2=s') (λi j C s2 hi hj hI hC=>?_) (λp s2 hp hI=>⟨hp,hI⟩) (uh ∅ λp' hP hS=>⟨hP,hS.pairwise hP.size⟩) rfl)) ?_ λ_ _ e=>e)
    ·subst hI
     obtain ⟨q,itq,o,m,a1,a2,a3,a4,a5⟩:=keyAt i hi
     obtain ⟨q',itq',o',m',b1,b2,b3,b4,b5⟩:=keyAt j hj
     unfold kas_ask
     rw [a1,b1]
     exact Zj a2 a4 b2 b4 a5 b5 (hC _ rfl)
    ·rintro ⟨⟨⟩,st'⟩ s2 ⟨p,har,hf,⟨hP,hG⟩,rfl⟩
     dsimp only
     exact fin p.toList st' (by have:=Array.perm_iff_toList_perm.mp hP;simpa using this) hG hf (tj hlk' har)
end
end L2
end
section
namespace L2
open PySem.W
section
variable {prog:Program}{w:bp}{A:br}{E:ak->Shared->Prop}{s:Shared}
theorem Zc (n:Nat):ck none none (-1) (n:Int)=((n:Int)-1,-1):=by
 unfold ck
 simp
theorem Z7 (n:Nat):bJ ((n:Int)-1) (-1) (-1)=n:=by
 unfold bJ
 have h1:¬((-1:Int) > 0):=⋯
 simp only [h1,if_false]
 by_cases h:n=0
 ·subst h;simp
 ·rw [show (- -1:Int)=1 by decide]
  simp only [Int.ediv_one]
  split <;> omega
theorem wa {n:Nat}{Q:Int×Int×Nat->Shared->Prop}(hs:s.heap.IsSliceOf sl .none .none v3) (pk:lY v3 (some (-1)))
  (h:Q ((n:Int)-1,-1,n) s):az (aC prog w) A (dr (.ref sl) (pure (n:Int))) Q E s:=by
 obtain ⟨os,hos,hcs,hds⟩:=id hs
 unfold dr lg
 refine aa (aa (bw hos hds (x:=.none) rfl (aa (bw hos hds (x:=.none) rfl (aa (bw hos hds (x:=v3) rfl ↥52))))))
 refine aa (HT.slicePart_ pk ?_)
 show az _ _ (if ((-1:Int) == 0)=true then _ else _) _ _ s
 rw [if_neg ⋯]
 refine aa (HT.slicePart_ .none (aa (HT.slicePart_ .none (aa ↥52))))
 show az _ _ (match ck none none (-1) (n:Int) with | (lo,hi)=>pure (lo,(-1:Int),bJ lo hi (-1))) _ _ s
 rw [Zc n]
 show az _ _ (pure ((n:Int)-1,(-1:Int),bJ ((n:Int)-1) (-1) (-1))) _ _ s
 rw [Z7]
 exact wpAny_pure h
theorem VT (xs:Array ak):((aW xs.size).filterMap λ(m:Nat)=>xs[(((xs.size:Int)-1)+(m:Int) * -1).toNat]?).toArray=xs.toList.reverse.toArray:=by
 have e:((aW xs.size).filterMap λ(m:Nat)=>xs[(((xs.size:Int)-1)+(m:Int) * -1).toNat]?)=((aW xs.size).map λk=>xs.size-1-k).filterMap (xs[·]?):=by
  rw [nZ]
  congr 1
  funext m
  show xs[(((xs.size:Int)-1)+(m:Int) * -1).toNat]? = xs[xs.size-1-m]?
  congr 1
  omega
 rw [e,krv_range,List.filterMap_reverse,krv_all]
theorem uE {Q:ak->Shared->Prop}(ht:rM s.heap t items) (hs:s.heap.IsSliceOf sl .none .none v3) (pk:lY v3 (some (-1)))
  (h:Q ↥19 { s with heap:=s.heap.push { cls:=.type "tuple",data:=.seq items.toList.reverse.toArray } }) (hsz:items.size<=sizeLine):az (aC prog w) A (iK (.ref t) (.ref sl)) Q E s:=by
 have htake:sizeOk (.seq items.toList.reverse.toArray):=by
  show items.toList.reverse.toArray.size<=sizeLine
  rw [ax,iI,bP]
  exact hsz
 obtain ⟨os,hos,hcs,hds⟩:=id hs
 have hTs:s.TypeIs (.ref sl) "slice":=⟨os,hos,hcs⟩
 unfold iK
 try with_reducible refine bD ?_
 first | refine aa ↥52 | skip
 refine aa (oN ht.typeIs ⋯ ?_)
 refine aa (bQ (name:=ai "__getitem__") ht.typeIs cT
  (cg cT ht.typeIs nk ?_ (o8 _ _)))
 show az _ _ (iU (.ref t) >>= _) _ _ s
 refine aa (sF ht ?_)
 refine aa (wpAny_typeOf hTs ?_)
 rw [if_pos ⋯]
 refine aa (wa hs pk ?_)
 show az _ _ (if (((items.size:Int)-1) == 0 && (-1:Int) == 1 && items.size == items.size)=true then _ else _) _ _ s
 rw [if_neg (by simp),VT]
 first
  | exact aa (m:=bM _) (bx ↥48 htake)
  | exact aa (m:=bM _) (bx (aa (wpAny_pure ↥48)) htake)
  | exact aa (aa (m:=bM _) (bx (wpAny_pure ↥48) htake))
  | exact aa (aa (m:=bM _) (bx ↥48 htake))
end
section
variable {X:Cx}{e:Expr}{te:TE}{pos p2 p3 p4:Pos}{j3:Nat}
noncomputable def GM (K:ah) (te:TE):TE:=λσ H Q=>te σ H λx H2=>∃a xs,x = .ref a/\SqT K H2 a xs/\New H2 (.tup xs.reverse) Q
noncomputable def Eu (K:ah) (te:TE):TE:=λσ H Q=>te σ H λx H2=>∃a xs,x = .ref a/\SqL K H2 a xs/\New H2 (.lst xs.reverse) Q
theorem UR (K:ah) (he:PE X e te) (hK:X.K=K:=by rfl):PE X (.Subscript e ↥57 pos) (GM K te):=by
 subst hK
 intro pins s σ H Q I h
 refine lZ (thn ↥69 λv s1 ⟨x,H1,I1,r1,q1⟩=>?_)
 refine pY ?_
 rw [lC]
 refine wpAny_pure ?_
 refine wpAny_pure ?_
 rw [nE]
 obtain ⟨a,xs,rfl,hx,q⟩:=q1
 refine thn (Yp Q9 j6 pins s1 σ H1 (λy H2=>y = .int (-1)/\H2=H1) I1 ⟨_,rfl,rfl,rfl⟩) λu s3 ⟨y,H3,I3,ry,ey,eH⟩=>?_
 subst ey eH
 obtain ⟨tk,rfl⟩:=ry
 cases r1
 have I4:Inv X pins σ H3 { s3 with heap:=s3.heap.push { cls:=.type "slice",data:=.fields #[.none,.none,.int (-1) tk] } }:=I3.kept (t':=s3.toks) λb ob q=>aj _ q
 obtain ⟨its,r,ht,hz⟩:=I4.tuple hx
 have hlen:its.toArray.size=xs.length:=by rw [ax];exact r.length.symm
 show az ↥6 X.A (ik e ↥57 (.ref a) (.ref s3.heap.objs.size)) ↥73 X.xe { s3 with heap:=s3.heap.push { cls:=.type "slice",data:=.fields #[.none,.none,.int (-1) tk] } }
 refine sW (ops:=[.ref a,.ref s3.heap.objs.size]) ht.typeIs PyProof.Rows.slot_tuple_getitem.lookup ?_ ↥35
 refine uE ht (iV ..) (.int _ _) ?_ (by rw [hlen];exact hz)
 have hf:=I4.hok.fresh (av _)
 refine ⟨.ref _,_,I4.laid (t':=s3.toks) (o:=.tup xs.reverse) (λb ob q=>aj _ q) (av _) ?_,rfl,q.at _ hf⟩
 exact ⟨by rw [iI];exact hz,_,r.reverse,pH _ _⟩
theorem UX (K:ah) (he:PE X e te) (hK:X.K=K:=by rfl):PE X (.Subscript e ↥57 pos) (Eu K te):=by
 subst hK
 intro pins s σ H Q I h
 refine lZ (thn ↥69 λv s1 ⟨x,H1,I1,r1,q1⟩=>?_)
 refine pY ?_
 rw [lC]
 refine wpAny_pure ?_
 refine wpAny_pure ?_
 rw [nE]
 obtain ⟨a,xs,rfl,hx,q⟩:=q1
 refine thn (Yp Q9 j6 pins s1 σ H1 (λy H2=>y = .int (-1)/\H2=H1) I1 ⟨_,rfl,rfl,rfl⟩) λu s3 ⟨y,H3,I3,ry,ey,eH⟩=>?_
 subst ey eH
 obtain ⟨tk,rfl⟩:=ry
 cases r1
 have I4:Inv X pins σ H3 { s3 with heap:=s3.heap.push { cls:=.type "slice",data:=.fields #[.none,.none,.int (-1) tk] } }:=I3.kept (t':=s3.toks) λb ob q=>aj _ q
 obtain ⟨its,r,ht,hz⟩:=I4.list hx
 have hlen:its.length=xs.length:=r.length.symm
 show az ↥6 X.A (ik e ↥57 (.ref a) (.ref s3.heap.objs.size)) ↥73 X.xe { s3 with heap:=s3.heap.push { cls:=.type "slice",data:=.fields #[.none,.none,.int (-1) tk] } }
 refine sW (ops:=[.ref a,.ref s3.heap.objs.size]) ht.isList.typeIs slot_list_getitem.lookup ?_ ↥35
 refine lE ht.isList (iV ..) .none .none (.int _ _) ⋯ ?_ (by rw [ax];omega)
 rw [krv_pick]
 have hf:=I4.hok.fresh (av _)
 refine ⟨.ref _,_,I4.laid (t':=s3.toks) (o:=.lst xs.reverse) (λb ob q=>aj _ q) (av _) ?_,rfl,q.at _ hf⟩
 exact ⟨by rw [iI];exact hz,_,0,r.reverse,aA _ rfl⟩
end
theorem SqL.extT {K:ah}{H:Hp}{xs:List V}(hp:H Pt=some (.tbl ps)) (x:Ext Pt H H') (h:SqL K H a xs):SqL K H' a xs:=by
 rcases h with (h | ⟨o,h⟩) | h
 ·exact .inl (.inl (x _ _ h (jg h hp ↥47)))
 ·exact .inl (.inr ⟨o,x _ _ h (jg h hp ↥47)⟩)
 ·exact .inr h
section
variable {X:Cx}{e body:Expr}{ta:TA}{tb:TE}{params:Arguments}{scope:Scope}{lpos kpos p pos:Pos}{N:List Str}{x:Str}{c Pt:Addr}{k:Nat}
noncomputable def WX (K:ah) (Pt:Addr) (lpos:Pos) (qual:Str) (N:List Str) (ta:TA) (tb:TE):TE:=λσ H Q=>ta σ H λxs H1=>Tab H1 Pt lpos qual/\∃(p:Addr) (vs:List V) (keyf:Nat->List Int),xs=[.ref p]/\SqL K H1 p vs/\vs.length<64/\(∀i,i<vs.length->keyf i≠[]) /\
 (∀H2,Ext Pt H1 H2->∀i v,vs[i]? = some v->tb (start N [v]) H2 λkv H3=>jn H2 H3/\∃q,kv = .ref q/\H3 q=some (.tup ((keyf i).map V.int))) /\
 ∀l H2 out,H1 l=none->H2 l=some (.lst out)->Ext Pt H1 H2->Tab H2 Pt lpos qual->uA wA keyf vs out->Q (.ref l) H2
theorem Zb (hg:Gl X "sorted") (hm:X.mg "sorted" = none) (ha:PA X [e] ta) (hcode:X.env.code = .ref c) (CH:CodeHd X.base c Pt) (hB:Bm X.mg X.base) (hr:Room (k+3) X.A) (S:FnScope N [x] scope)
  (hb:∀pm c ctv u,cC (uy ↥80 params body scope pm c ctv) ⟨[u],[]⟩=pure [(x,u)])
  (hbody:∀f c' s H,PE (vI CX0 X.prog X.w X.K X.mg X.base N ↥80 scope f (.ref c') X.A.in1.in1 X.stack s H E0).nox body tb)
  (hcl:o9 scope X.env=pure []:=by rfl) (hdef:defaultsOf params X.env=([],[]):=by rfl)
  (he:cp pos (aJ [e] X.env)=↥45::cp pos (aJ [] X.env):=by rfl) (hplain:(cp pos (aJ [e] X.env)).any (·.1)=false:=by rfl) :
  PE X (.Call (.Name "sorted" p) [e] [⟨some (ai "key"),.Lambda params body scope lpos,kpos⟩] pos) (WX X.K Pt lpos ↥80 N ta tb):=by
 intro pins s σ H Q I h
 refine cU (vh I hg hm iu ?_ ⋯ ⋯)
 refine callWith_kw (thn ↥67 λus s1 ⟨vs,H1,I1,r,q⟩=>?_) he hplain
 show az _ _ (evalAll ((do let v <- eval (.Lambda params body scope lpos) X.env;fc pos;pure v)::[])) _ _ s1
 obtain ⟨T,a,xs,keyf,e1,hx,h64,hne,hkey,hq⟩:=q
 subst e1
 obtain ⟨u0,rfl,ru⟩:=yk r
 cases ru
 obtain ⟨ps0,hPt⟩:=T.ne
 refine wpAny_evalAll_cons (aa (Vp I1 hcode CH hB hcl hdef T λf H2 s2 pm c' ctv I2 hf hf2 hc2 X2 T2=>aa (cV (wpAny_pure (wpAny_evalAll_nil ?_)))))
 show az _ _ (call (.builtin "sorted") [.ref a] [(ai "key",.ref f)]) _ _ s2
 refine QL I2 (SqL.extT hPt X2 hx) h64 hne (λi v hv pins' s' H' u I' sm ru=>?_) λl H3 out s' I3 hl hl3 sm hs=>?_
 ·have X3:Ext Pt H1 H':=X2.trans (Ext.of_same sm)
  obtain ⟨ho,_⟩:=I'.hok f _ (sm _ _ hf2)
  obtain ⟨hcd,_⟩:=I'.hok c' _ (sm _ _ hc2)
  refine fK (d9 (W9 (k:=k) ho hcd S (hr.in1.in1) I'.env0.in1.in1 hb ru (hbody f c' s' H') (hkey H' X3 i v hv)) λr s'' hq=>?_)
  cases r with
  | error e=>exact bg hq
  | ok fl =>
   cases fl with
   | ret u=>exact I'.after hq
   | next=>exact bg hq
   | brk=>exact bg hq
   | cont=>exact bg hq
 ·exact ⟨.ref l,H3,I3,rfl,hq l H3 out (X2.free hl (λz=>by rw [z] at hl;obtain ⟨p2,z2⟩:=T2.ne;rw [z2] at hl;cases hl)) hl3 (X2.trans (Ext.of_same sm)) (T2.same sm) hs⟩
end
end L2
end
section
namespace L2
open PySem.W
theorem YK {P:Program}{w:bp}{K:ah}{k:Nat}{fa a Pt:Addr}{x:Str}{s₁:Shared}{vs:List ak}
  (KX:K.In s₁.heap) (hns:s₁.heap.Ns mainGlobals mg) (hb:s₁.heap.Ns lW mb) (hbb:∀x:Str,x ≠ "__name__" -> mb x=fR x) (hlim:s₁.heap.NoLimit) (hg:s₁.gens = #[])
  (ha:s₁.heap.get? a=some { cls:=.type "list",data:=.seq vs.toArray }) (hi:de vs ns) (hl:ns.length<=sizeLine) (hr:Room k ni)
  (hPt:s₁.heap.get? Pt=some (rH #[])) (hKP:K.lookup Pt=none) (CH:CodeHd s₁.heap c Pt) (hB:Bm mg s₁.heap)
  (F:∀base:Heap,K.In base->base.Ns mainGlobals mg->Bm mg base->FnOk P w K mg base CX0 k fa fd [x] sp) (hbind:∀(s:Shared) (u:ak),oK s fd ⟨[u],[]⟩ [(x,u)])
  (hsp:∀H:Hp,SqL K H a (ns.map V.int)->H Pt=some (.tbl #[])->sp [.ref a] H (λv _=>v = .bl true) λ_ _ _=>False) :
  cW (aC P w) ni (.call (.ref fa) ⟨[.ref a],[]⟩) ↥81 s₁:=by
 have rv:=uP hi
 have lenV:=hi.length
 have core:∀H:Hp,H Pt=some (.tbl #[])->(∀b,b≠Pt->H b=none\/∃o xs,H b=some (.frz o (.lst xs)))->SqL K H a (ns.map V.int)->HOk P w H s₁.heap->(∀b,H b≠none->b=a\/b=Pt)->(H a≠none->K.lookup a=none) ->
   cW (aC P w) ni (.call (.ref fa) ⟨[.ref a],[]⟩) ↥81 s₁:=by
  intro H hP hO hS hok hA hK
  have base_of:∀{b:Addr} {o:Obj},s₁.heap.get? b=some o->H b=none->(gG s₁.heap H).get? b=some o:=λe n=>U6 e n
  have noA:∀{b:Addr} {o:Obj},s₁.heap.get? b=some o->(∀xs n,o.data≠.seq xs n)->(∀vs,o.data = .fields vs->o.cls≠.none)->H b=none:=λ{b o} e d1 d2=>by
   cases q:H b with
   | none=>rfl
   | some u =>
    rcases hA b (by rw [q];simp) with e' | e'
    ·subst e'
     rw [ha] at e;cases e
     exact absurd rfl (d1 _ _)
    ·subst e'
     rw [hPt] at e;cases e
     exact absurd rfl (d2 _ rfl)
  have noD:∀{b:Addr} {o:Obj} {es:Array DictEntry} {ep:Nat},s₁.heap.get? b=some o->o.data = .dict es ep->H b=none:=λ{b o es ep} e d =>
   noA e (λxs n z=>by rw [d] at z;cases z) (λvs z=>by rw [d] at z;cases z)
  have nsK:∀{b:Addr} {m:Str->Option ak},s₁.heap.Ns b m->(gG s₁.heap H).Ns b m:=λ{b m} ⟨o,es,ep,e,d,r⟩=>⟨o,es,ep,base_of e (noD e d),d,r⟩
  have hKb:K.In (gG s₁.heap H):=λb o e=>base_of (KX b o e) (by
   cases q:H b with
   | none=>rfl
   | some u =>
    rcases hA b (by rw [q];simp) with e' | e'
    ·subst e'
     rw [hK (by rw [q];simp)] at e;cases e
    ·subst e'
     rw [hKP] at e;cases e)
  have hBb:Bm mg (gG s₁.heap H):=by
   obtain ⟨bm,ob,b1,b2,b3,b4,b5,b6⟩:=hB
   exact ⟨bm,ob,b1,b2,base_of b3 (noA b3 (λxs n z=>by rw [b6] at z;cases z) λvs z=>by rw [b6] at z;cases z),b4,b5,b6⟩
  have hM:Mod K mg (gG s₁.heap H):=⟨hKb,nsK hns,⟨mb,nsK hb,hbb⟩,let ⟨mc,h1,h2⟩:=hlim;⟨mc,nsK h1,h2⟩⟩
  have e0:Env0 P w K mg (gG s₁.heap H) ni [] s₁ H:=⟨rfl,hM,λb o e=>UZ e,oE (Yq _ _),trivial,λb hb=>absurd (show b∈([]:List Addr) from hb) (by simp),hok,.of_eq hg⟩
  refine d9 ((F _ hKb (nsK hns) hBb).run ni [] s₁ H ⟨[.ref a],[]⟩ [.ref a] [.ref a] _ _ hr e0 (hbind s₁ (.ref a)) (.cons rfl .nil) (hsp H hS hP)) λr s' h=>?_
  cases r with
  | error e=>exact bg h
  | ok fl =>
   cases fl with
   | next=>exact bg h
   | brk=>exact bg h
   | cont=>exact bg h
   | ret u =>
    obtain ⟨v,H',os,bare,un,hok',r',q⟩:=h
    have q':v = .bl true:=q
    subst q'
    obtain rfl:u=lV true:=r'
    have kp:∀b o,b≠Pt->s₁.heap.get? b=some o->s'.heap.get? b=some o:=λb o hb e=>by
     cases q:H b with
     | none=>exact un.keep b o e q (by intro z;exact absurd (show b∈([]:List Addr) from z) (by simp)) (by simp)
     | some u =>
      rcases hO b hb with z | ⟨ob,xs,z⟩
      ·rw [q] at z;cases z
      ·have z2:=un.frzs b ob _ z
       obtain ⟨e1,_⟩:=hok b _ z
       obtain ⟨e2,_⟩:=hok' b _ z2
       rw [e] at e1;cases e1
       exact e2
    obtain ⟨more,hm⟩:=un.tbls Pt _ hP
    have hm':s'.heap.get? Pt=some { cls:=.none,data:=.fields (#[]++more) }:=hok' Pt _ hm
    refine ⟨rfl,⟨λb o e=>?_,λb o e=>?_⟩,os,bare⟩
    ·by_cases hb:b=Pt
     ·subst hb
      rw [hPt] at e;cases e
      exact .inr (.inl ⟨(CH.tab hPt).isCodeTable,rfl,#[],more,rfl,hm'⟩)
     ·exact .inl (kp b o hb e)
    ·by_cases hb:b=Pt
     ·subst hb;exact ⟨_,hm'⟩
     ·exact ⟨o,kp b o hb e⟩
 have haP:a≠Pt:=λz=>by rw [z,hPt] at ha;cases ha
 cases hk:K.lookup a with
 | some o =>
  have e:=KX a o hk
  rw [ha] at e
  cases e
  refine core (λb=>if b=Pt then some (.tbl #[]) else none) (if_pos rfl) (λb hb=>.inl (if_neg hb)) (.inr ⟨_,vs.toArray,_,hk,rfl,rfl,rfl,by rw [ax,lenV];exact hl,by simpa using rv⟩) (λb u z=>?_) (λb z=>?_) λz=>absurd (if_neg haP) z
  ·by_cases hb:b=Pt
   ·have z':=(if_pos hb).symm.trans z
    cases z'
    subst hb
    exact hPt
   ·have z':=(if_neg hb).symm.trans z
    cases z'
  ·by_cases hb:b=Pt
   ·exact .inr hb
   ·exact absurd (if_neg hb) z
 | none =>
  refine core (λb=>if b=Pt then some (.tbl #[]) else if b=a then some (.frz { cls:=.type "list",data:=.seq vs.toArray } (.lst (ns.map V.int))) else none) (if_pos rfl) (λb hb=>?_)
   (.inl (.inr ⟨{ cls:=.type "list",data:=.seq vs.toArray },(if_neg haP).trans (if_pos rfl)⟩)) (λb u z=>?_) (λb z=>?_) λ_=>hk
  ·by_cases hb2:b=a
   ·exact .inr ⟨_,_,(if_neg hb).trans (if_pos hb2)⟩
   ·exact .inl ((if_neg hb).trans (if_neg hb2))
  ·by_cases hb:b=Pt
   ·have z':=(if_pos hb).symm.trans z
    cases z'
    subst hb
    exact hPt
   ·by_cases hb2:b=a
    ·have z':=((if_neg hb).trans (if_pos hb2)).symm.trans z
     cases z'
     subst hb2
     exact ⟨ha,by rw [af];exact hl,vs,_,rv,ha⟩
    ·have z':=((if_neg hb).trans (if_neg hb2)).symm.trans z
     cases z'
  ·by_cases hb:b=Pt
   ·exact .inr hb
   ·by_cases hb2:b=a
    ·exact .inl hb2
    ·exact absurd ((if_neg hb).trans (if_neg hb2)) z
noncomputable def Z6 (K:ah) (Pt:Addr):Sp:=λvs H Q _=>∃(a:Addr) (ns:List Int),vs=[.ref a]/\SqL K H a (ns.map V.int)/\ns.length<=63/\H Pt=some (.tbl #[])/\∀H',Q (.bl true) H'
theorem UY {l:rn}{loose:List Str}{YP:bp->Heap->Prop}{d:DefRec}{K:tF->ah}(k:Nat) (c Pt:Addr) (hr:Room k ni) (hn:l.most=some 63) (hdf:d.params.defaults=[])
  (hY:∀(w:bp) (h:Heap),YP w h->(K w.params).In h/\h.get? Pt=some (rH #[])) (hKP:∀p:tF,(K p).lookup Pt=none) (hC:∀p:tF,codeHdIn (K p) c Pt=true)
  (F:∀(w:bp) (mg:Str->Option ak) (fa:Addr) (h:Heap),(K w.params).In h->h.Ns mainGlobals mg->mg d.name=some (.ref fa) ->
   ∃fd:FuncData,(∀(s:Shared) (u:ak),oK s fd ⟨[u],[]⟩ [("_law_script",u)])/\∀base:Heap,(K w.params).In base->base.Ns mainGlobals mg->Bm mg base->FnOk l.prog w (K w.params) mg base CX0 k fa fd ["_law_script"] (Z6 (K w.params) Pt)) :
  PySem.W.WalkO q loose XP YP l.row.toRowW d [] (λf vs=>PySem.call f vs):=by
 refine Att.attach_call hn hdf λw s₀ s₁ mg mb fa o pm cd doc a vs ns G Y ho hd hcd hmg hobj hints hlen hg=>?_
 obtain ⟨KX,hT⟩:=hY w _ Y
 obtain ⟨fd,hb,hF⟩:=F w mg fa _ KX G.T.g hmg
 exact YK (c:=c) KX G.T.g G.T.b G.T.builtins G.T.nolimit hg hobj hints (aE hlen ⋯) hr hT (hKP w.params) (codeHd_of_K KX (hC w.params)) G.T.bmain hF hb λH hS hP=>⟨a,ns,rfl,hS,hlen,hP,λ_=>rfl⟩
theorem Fun.okC {P:Program}{w:bp}{K:ah}{mg:Str->Option ak}{base:Heap}{x:Str}{st:Stmt}{c:Addr}{oc:ak}{od:Option Addr}{osl:Array (Option ak)}{kV pm ct:ak}{N:List Str}{k:Nat}{sp:Sp}
  (l:K.lookup f=some ⟨oc,od,.func (bE x qual (qh st) (jQ st) (ja st) .none kV doc pm an (.ref c) ct),osl⟩) (cd:cz K (.ref c) qual=true) (S:FnScope N ps (ja st)) (len:∀vs H Q E,sp vs H Q E->vs.length=ps.length)
  (hbody:∀(A:br) (outer:List Env) (s:Shared) (H:Hp) (vs:List V) (Q:VK) (E:XK),Room k (A.deeper (iB qual (ja st) s.heap.objs.size f (.ref c)))->sp vs H Q E ->
   ∃t,PSs (vI CX0 P w K mg base N qual (ja st) f (.ref c) A outer s H E).nox (jQ st) t/\t { nx:=λ_ H'=>Q .non H',rt:=Q } (start N vs) H) :
  FnOk P w K mg base CX0 (k+1) f (bE x qual (qh st) (jQ st) (ja st) .none kV doc pm an (.ref c) ct) ps sp:=by
 refine Ul l cd S len λA outer s H vs Q E hr hsp=>?_
 obtain ⟨t,h,q⟩:=hbody A outer s H vs Q E hr hsp
 exact ⟨t,h.nox,q⟩
theorem Cal.mkC {P:Program}{w:bp}{K:ah}{mg:Str->Option ak}{base:Heap}{k:Nat}{x:Str}{ps:List Str}{st:Stmt}{c:Addr}{oc:ak}{od an:Option Addr}{osl:Array (Option ak)}{kV doc pm ct:ak}
  (X:K.In h) (G:h.Ns mainGlobals mg) (a:aU K mainGlobals x=some (some (.ref f)))
  (l:K.lookup f=some ⟨oc,od,.func (bE x x (qh st) (jQ st) (ja st) .none kV doc pm an (.ref c) ct),osl⟩) (cd:cz K (.ref c) x=true) (k':bK K (.ref f)=true)
  (hb:∀(kV doc pm:ak) (an:Option Addr) (cdv ct:ak) (us:List ak),us.length=ps.length->cC ↥28 ⟨us,[]⟩=pure (ps.zip us))
  (ok:FnOk P w K mg base CX0 k f (bE x x (qh st) (jQ st) (ja st) .none kV doc pm an (.ref c) ct) ps sp):Cal P w K mg base k x ps sp:=by
 have F:=vt (st:=st) l cd k'
 exact ⟨f,_,ok,F.binds hb,aN X G a,k'⟩
end L2
end
section
namespace L2
open PySem.W
noncomputable def Ite (K:ah) (a:Addr):It :=
 ⟨λi H=>∃xs x,SqL K H a xs/\xs[i]? = some x,λi H v H'=>∃t x,v = .ref t/\H t=none/\H'=upd H t (.tup [.int i,x])/\∀xs,SqL K H a xs->xs[i]? = some x,λi H=>∃xs,SqL K H a xs/\xs.length<=i⟩
theorem Yw {K:ah}{x1:Nat}(a e it:Addr) (hne:e≠it):Turn P w K (.Tuple es x1 pos) (Ite K a) [e,it] e (λi h=>∃old,IsEnum h e it i old/\h.IsListIter it a i) where
 mem:=by simp
 obj:=λi h ⟨old,st1,st2⟩ b hb=>by
  rcases List.mem_cons.mp hb with rfl | hb
  ·exact ⟨_,st1,λv z=>by
    have z':pV _=mZ v:=z
    cases z'⟩
  ·have e:b=it:=by simpa using hb
   subst e
   obtain ⟨o,e,c,d⟩:=st2
   exact ⟨o,e,λv z=>by rw [d] at z;cases z⟩
 keep:=λi h h' ⟨old,st1,st2⟩ k=>⟨old,k e (by simp) _ st1,st2.at λo z=>k it (by simp) o z⟩
 item:=by
  intro X hP hw hK hc i pins s σ H E I hf st hg
  subst hP hw hK
  obtain ⟨old,st1,st2⟩:=st
  obtain ⟨xs,x,hq,hx⟩:=hg
  obtain ⟨its,rv,p,hz⟩:=I.list hq
  obtain ⟨u,hu,ru⟩:=rv.get hx
  obtain ⟨f0,f1,f2,f3,f4,f5⟩:=hf e (by simp)
  obtain ⟨g0,g1,g2,g3,g4,g5⟩:=hf it (by simp)
  have hn:H s.heap.objs.size=none:=I.hok.fresh (av _)
  refine wpAny_pyNext_enum_item st1 st2 p.isList (x:=u) (by simpa using hu) hne λh' o1 o2 o3 o4 o5=>⟨_,rfl,?_⟩
  refine wpAny_letOwnedTupleGo_enum o1 λh2 q1 sb=>?_
  have hel:e<s.heap.objs.size:=aw st1
  have kk:∀b o,b≠e->b≠it->s.heap.get? b=some o->h2.get? b=some o:=λb o n1 n2 z=>(sb.2 b n1).trans (o5 b o n1 n2 z)
  have et:h2.get? s.heap.objs.size=some { cls:=.type "tuple",data:=.seq #[.int i s.toks,u] }:=(sb.2 _ (cJ hel)).trans o3
  have tne:∀b o,H b=some o->b≠e/\b≠it/\b≠s.heap.objs.size:=λb o q=>⟨λz=>(by rw [z,f0] at q;cases q),λz=>(by rw [z,g0] at q;cases q),λz=>(by rw [z,hn] at q;cases q)⟩
  have getF:∀{b:Addr} {o:HO},H b=some o->upd H s.heap.objs.size (.tup [.int i,x]) b=some o:=λ{b o} q=>by rw [j9 (tne b o q).2.2];exact q
  have I1:Inv X pins σ (upd H s.heap.objs.size (.tup [.int i,x])) { s with heap:=h2,toks:=s.toks+1 }:=by
   refine I.step (g':=s.gens) (d':=s.drawn) (ch:=[e,it]) (λb hb=>?_) (λb o _ _ hc z _=>kk b o (λy=>hc (by simp [y])) (λy=>hc (by simp [y])) z) (λb o _ _ hc z _=>⟨o.slots,kk b o (λy=>hc (by simp [y])) (λy=>hc (by simp [y])) z⟩)
    (λb o hc z n=>by rw [j9 (aB (aw z))];exact n) (λb o hc z=>⟨o,kk b o (λy=>hc (by simp [y])) (λy=>hc (by simp [y])) z⟩) (λ_ _ q=>getF q) (λ_ _ _ q=>getF q) (λb ps q=>⟨#[],by rw [getF q];simp⟩) (λm hm=>?_) (λb v q=>?_) I.bare
   ·rcases List.mem_cons.mp hb with rfl | hb
    ·exact ⟨f3,f1,f4,f5⟩
    ·have e:b=it:=by simpa using hb
     subst e
     exact ⟨g3,g1,g4,g5⟩
   ·obtain ⟨o,es,ep,ho,r⟩:=hm
    exact ⟨o,es,ep,kk _ o (cG f1) (cG g1) ho,r⟩
   ·by_cases hb:b=s.heap.objs.size
    ·subst hb
     rw [j7] at q;cases q
     exact ⟨by show 2<=sizeLine;decide,[.int i s.toks,u],.cons ⟨_,rfl⟩ (.cons ru .nil),⟨_,et,rfl,0,rfl⟩⟩
    ·rw [j9 hb] at q
     refine (I.hok b v q).stay (λc o hc z=>kk c o ?_ ?_ z) (λ_ z=>getF z) λ_ _ z=>getF z
     ·rcases hc with z | z
      ·rw [z];exact (tne b v q).1
      ·exact (tne c _ z).1
     ·rcases hc with z | z
      ·rw [z];exact (tne b v q).2.1
      ·exact (tne c _ z).2.1
  have st2':h2.IsListIter it a (i+1):=o2.at λo z=>(sb.2 it (cG hne)).trans z
  refine ⟨.ref s.heap.objs.size,_,I1,rfl,⟨_,x,rfl,hn,rfl,λys hy=>by rw [I.list_inj hy hq];exact hx⟩,⟨u,?_,st2'⟩,λb hb=>?_⟩
  ·have:((i+1:Nat):Int)=(i:Int)+1:=by push_cast;rfl
   rw [this]
   exact q1
  ·rcases List.mem_cons.mp hb with rfl | hb
   ·rw [j9 (aB hel)];exact f0
   ·have e:b=it:=by simpa using hb
    subst e
    obtain ⟨o,z,_⟩:=st2
    rw [j9 (aB (aw z))];exact g0
 done:=by
  intro X hP hw hK hc i pins s σ H E I hf st hg
  subst hP hw hK
  obtain ⟨old,st1,st2⟩:=st
  obtain ⟨xs,hq,hx⟩:=hg
  obtain ⟨its,rv,p,hz⟩:=I.list hq
  obtain ⟨g0,g1,g2,g3,g4,g5⟩:=hf it (by simp)
  have hl:=rv.length
  exact wpAny_pyNext_enum_end (I.ok.hd hc) st1 st2 p.isList (by simp;omega) λh' eb=>⟨rfl,I.turned (t':=s.toks) (λb o hb e=>eb b o hb e) g0 g1 g3 g4 g5⟩
 self:=λ_ _ _ _ _ ⟨old,st1,_⟩ h=>oZ st1 h
section
variable {X:Cx}
noncomputable def El (K:ah) (ta:TA):TI:=λσ H R=>ta σ H λvs H1=>∃a,vs=[.ref a]/\(∃xs,SqL K H1 a xs)/\R (Ite K a) H1
theorem wO {x1:Nat}{l:Expr}{p:Pos}(K:ah) (hg:Gl X "enumerate") (hm:X.mg "enumerate" = none) (ha:PA X [l] ta) (hs:aJ [l] X.env=[(false,eval l X.env)]:=by rfl) (hK:X.K=K:=by rfl) :
  PI X (.Tuple es x1 tpos) (.Call (.Name "enumerate" p) [l] [] pos) (El K ta):=by
 subst hK
 intro pins s σ H R I h
 refine Call_ (vh I hg hm boot_enumerate (cH (thn ↥67 λus s1 ⟨vs,H1,I1,r1,q1⟩=>?_) hs rfl))
 obtain ⟨a,e,⟨xs,hq⟩,q⟩:=q1
 subst e
 obtain ⟨u,rfl,ru⟩:=yk r1
 cases ru
 obtain ⟨its,rv,pl,hz⟩:=I1.list hq
 refine call_enumerate_list pl.isList λh' i1 i2 i3 kk=>?_
 refine oZ i1 ?_
 have I2:Inv X pins σ H1 { s1 with heap:=h',toks:=s1.toks }:=I1.kept kk
 refine ⟨_,[s1.heap.objs.size+1,s1.heap.objs.size],_,_,H1,rfl,I2,Yw a _ _ (by exact Nat.succ_ne_self _),⟨.none,i1,i2⟩,λb hb=>?_,q⟩
 rcases List.mem_cons.mp hb with rfl | hb
 ·exact I1.fpOk (dH _) (I1.hok.fresh (dH _))
 ·have e:b=s1.heap.objs.size:=by simpa using hb
  subst e
  exact I1.fpOk (av _) (I1.hok.fresh (av _))
end
theorem YO {K:ah}{xs:List V}{g:TG}{ti:TT}{te:TE}{R:Hp->Prop}{σ:St}{H:Hp}(Pv:Nat->St->Hp->Prop) (h0:Pv 0 σ H) (hl:∀i σ H,i<=xs.length->Pv i σ H->SqL K H a xs)
  (hs:∀i x σ H t,xs[i]? = some x->Pv i σ H->H t=none->g (.ref t) σ (upd H t (.tup [.int i,x])) λσ3 H3=>ti σ3 H3 λok H4=>if ok=true then te σ3 H4 λv H5=>∃ys,H5 acc=some (.lst ys)/\ys.length<sizeLine/\Pv (i+1) σ3 ↥31 else Pv (i+1) σ3 H4)
  (hd:∀σ H,Pv xs.length σ H->R H) :
  ∃W:Nat->Nat->St->Hp->Prop,↥84/\∀i m σ' H',W i m σ' H' ->
   ((Ite K a).stop i H'/\R H')\/((Ite K a).go i H'/\∃NX:St->Hp->Prop,↥17 /\
    ∀x H2,(Ite K a).yld i H' x H2->g x σ' H2 λσ3 H3=>ti σ3 H3 λok H4=>if ok=true then te σ3 H4 λv H5=>∃ys,H5 acc=some (.lst ys)/\ys.length<sizeLine/\NX σ3 ↥31 else NX σ3 H4):=by
 refine ⟨λi m σ H=>m=xs.length-i/\i<=xs.length/\Pv i σ H,⟨xs.length,by simp,aP _,h0⟩,?_⟩
 rintro i m σ H ⟨rfl,hi,p⟩
 have q:=hl i σ H hi p
 by_cases hlt:i<xs.length
 ·refine .inr ⟨⟨xs,xs[i],q,by simp [hlt]⟩,Pv (i+1),λσ' H' p'=>⟨xs.length-(i+1),∅,rfl,hlt,p'⟩,λv H' y=>?_⟩
  obtain ⟨t,x,rfl,hn,rfl,y⟩:=y
  exact hs i x σ H t (y xs q) p hn
 ·have e:i=xs.length:=∅
  subst e
  exact .inl ⟨⟨xs,q,av _⟩,hd σ H p⟩
theorem kU {K:ah}{xs:List V}{g:TG}{tb:TS}{D:Ends}{σ:St}{H:Hp}(Pv:Nat->St->Hp->Prop) (h0:Pv 0 σ H) (hl:∀i σ H,i<=xs.length->Pv i σ H->SqL K H a xs)
  (hs:∀i x σ H t,xs[i]? = some x->Pv i σ H->H t=none->g (.ref t) σ (upd H t (.tup [.int i,x])) λσ2 H2=>tb { D with nx:=Pv (i+1),ct:=Pv (i+1),bk:=D.nx } σ2 H2) (hd:∀σ H,Pv xs.length σ H->D.nx σ H) :
  ∃W:Nat->Nat->St->Hp->Prop,↥84/\∀i m σ H,W i m σ H ->
   ((Ite K a).stop i H/\D.nx σ H)\/((Ite K a).go i H/\∃N:St->Hp->Prop,↥23/\∀x H',(Ite K a).yld i H x H'->g x σ H' λσ2 H2=>tb { D with nx:=N,ct:=N,bk:=D.nx } σ2 H2):=by
 refine ⟨λi m σ H=>m=xs.length-i/\i<=xs.length/\Pv i σ H,⟨xs.length,by simp,aP _,h0⟩,?_⟩
 rintro i m σ H ⟨rfl,hi,p⟩
 have q:=hl i σ H hi p
 by_cases hlt:i<xs.length
 ·refine .inr ⟨⟨xs,xs[i],q,by simp [hlt]⟩,Pv (i+1),λσ' H' p'=>⟨xs.length-(i+1),∅,rfl,hlt,p'⟩,λv H' y=>?_⟩
  obtain ⟨t,x,rfl,hn,rfl,y⟩:=y
  exact hs i x σ H t (y xs q) p hn
 ·have e:i=xs.length:=∅
  subst e
  exact .inl ⟨⟨xs,q,av _⟩,hd σ H p⟩
end L2
end
section
namespace L2
open PySem.W
theorem Jy:∀(l:List Int),(∀n∈l,0<=n/\n<=2 ^ 20)->0<=l.sum/\l.sum<=2 ^ 20*l.length
 | [],_=>by simp
 | n::l,h=>by
  have ih:=Jy l λm hm=>h m (aH _ hm)
  have h0:=h n aO
  rw [sI,bb]
  constructor
  ·omega
  ·push_cast
   omega
section
variable {X:Cx}
theorem VC (K:ah) (hc:X.calm=true) (hK:X.K=K:=by rfl):qO X (.builtin "sum") (λxs H Q=>∃(p:Addr) (ns:List Int),xs=[.ref p]/\SqL K H p (ns.map V.int)/\ns.length<=1000/\(∀n∈ns,0<=n/\n<=2 ^ 20)/\Q (.int ns.sum) H):=by
 subst hK
 intro pins s σ H xs us Q I r h
 obtain ⟨p,ns,rfl,hq,hl,hb,q⟩:=h
 obtain ⟨u,rfl,ru⟩:=yk r
 cases ru
 obtain ⟨its,rv,pl,hz⟩:=I.list hq
 have hI:=zp rv
 have hlen:=hI.length
 have hne:p≠s.heap.objs.size:=by
  obtain ⟨o,n,e,_⟩:=id pl
  exact aB (aw e)
 refine call_sum_walk (eS pl.isList ?_)
 refine ⟨s.heap.objs.size,_,_,_,_,_,λi=>ns.getD i 0,rfl,Walks.list (show (X.A.in1).handled=none from I.ok.hd hc) s.heap.objs.size p hne its.toArray,⟨⟨_,aA _ rfl,rfl,rfl⟩,pl.isList.at λo e=>aj _ e⟩,?_,?_,?_,?_⟩
 ·intro b hb'
  have hps:p<s.heap.objs.size:=by
   obtain ⟨o,n,e,_⟩:=id pl
   exact aw e
  show b<(s.heap.push _).objs.size
  rw [cx]
  rcases List.mem_cons.mp hb' with rfl | hb'
  ·exact ia _
  ·have e:b=p:=by simpa using hb'
   subst e
   exact c3 hps
 ·intro i v hP
  have hP':its[i]? = some v:=by simpa using hP
  have hi:i<its.length:=(List.getElem?_eq_some_iff.mp hP').1
  obtain ⟨t,e⟩:=JK hI hi
  rw [e] at hP'
  refine ⟨t,?_⟩
  show v=iO (ns.getD i 0) t
  rw [ao,ag ∅]
  exact (aI hP').symm
 ·intro j hj
  have hj':j<ns.length:=by
   have:its.toArray.size=its.length:=by simp
   omega
  constructor
  ·show InLong (ns.getD j 0)
   rw [ao,ag hj']
   have:=hb _ (bW hj')
   show -(2 ^ 63)<=ns[j]/\ns[j]<2 ^ 63
   omega
  ·rw [preSum_getD]
   have:=Jy (ns.take (j+1)) λn hn=>hb n (List.mem_of_mem_take hn)
   have hl2:(ns.take (j+1)).length<=1000:=by rw [b0];omega
   show -(2 ^ 63)<=_/\_<2 ^ 63
   omega
 ·intro h' tk t' hk
  rw [preSum_getD,cN (by simp;omega)]
  refine ⟨.int ns.sum,H,I.kept (t':=tk) λb o eo=>hk b o (by
   intro z
   have:=List.mem_singleton.mp z
   subst this
   exact absurd (aw eo) (cw _)) (aj _ eo),⟨t',rfl⟩,q⟩
theorem xy (K:ah) (h:X.K=K:=by rfl):qO X (.type "tuple") (λxs H Q=>∃p ys,xs=[.ref p]/\SqL K H p ys/\New H (.tup ys) Q):=by
 subst h
 exact gH.weak λ_ _ _ ⟨p,ys,h1,h2,q⟩=>⟨p,ys,h1,.inl ⟨h2,q.at⟩⟩
end
end L2
end
section
namespace L2
open PySem.W
structure Nb2 (mg:Str->Option ak):Prop extends Nb mg where
 b_enumerate:mg "enumerate" = none
 b_sorted:mg "sorted" = none
 b_sum:mg "sum" = none
noncomputable abbrev Rch:=Int×List Int
noncomputable def tos (rs:List Rch):List Int:=rs.map (·.1)
noncomputable def xV (rs:List Rch) (r:Nat):Int:=(rs.getD r (-1,[])).1
noncomputable def y7 (rs:List Rch) (r:Nat):List Int:=(rs.getD r (-1,[])).2
noncomputable def xN (i:Nat) (t:Int):Bool:=if i=0 then decide (t = -1) else decide (0<=t/\t<i)
noncomputable def okR (i:Nat) (r:Rch):Bool:=xN i r.1 && decide (1<=(r.2.length:Int)/\(r.2.length:Int)<=12) && r.2.all λx=>decide (0<=x/\x<=99)
noncomputable def wb (rs:List Rch):Bool:=(aW rs.length).all λi=>okR i (rs.getD i (-1,[]))
noncomputable def xr (rs:List Rch):Prop:=∀i,i<rs.length->xN i (xV rs i)=true
noncomputable def jZ (rs:List Rch) (h:Nat):Bool:=!decide ((h:Int)∈tos rs)
noncomputable def ju (rs:List Rch):List Nat:=(aW rs.length).filter (jZ rs)
noncomputable def vL (rs:List Rch):Nat->Nat->List Int
 | 0,_=>[]
 | f+1,r=>(r:Int)::(if xV rs r<0 then [] else vL rs f (xV rs r).toNat)
noncomputable def qG (rs:List Rch) (r:Nat):List Int:=vL rs (r+1) r
noncomputable def jI (rs:List Rch) (way:List Int):Int:=(way.map λr=>((y7 rs r.toNat).length:Int)).sum
noncomputable def zm (rs:List Rch):Bool:=decide (1<=(rs.length:Int)/\(rs.length:Int)<=8) && (wb rs && (decide (((ju rs).length:Int)<=6) && (ju rs).all λh=>decide (jI rs (qG rs h)<=30)))
theorem kD {i:Nat}{t:Int}(h:xN i t=true):t<i/\(-1<=t)/\(t<0->i=0):=by
 unfold xN at h
 by_cases hi:i=0
 ·rw [if_pos hi] at h
  have:=of_decide_eq_true h
  omega
 ·rw [if_neg hi] at h
  have:=of_decide_eq_true h
  omega
theorem YJ {i:Nat}(h:okR i r=true):xN i r.1=true:=by
 unfold okR at h
 rw [b9,b9] at h
 exact h.1.1
theorem JF (h:wb rs=true) {i:Nat}(hr:rs[i]? = some r):okR i r=true:=by
 unfold wb at h
 rw [bB] at h
 have hi:=(List.getElem?_eq_some_iff.mp hr).1
 have:=h i (List.mem_range.mpr hi)
 rw [ao,hr] at this
 exact this
theorem qp (h:wb rs=true):xr rs:=λi hi=>by
 have:=YJ (JF h (ag hi))
 unfold xV
 rw [ao,ag hi]
 exact this
theorem JW {rs:List Rch}{i:Nat}(h:rs[i]? = some r):xV rs i=r.1:=by
 unfold xV
 rw [ao,h]
 rfl
theorem Q5 {rs:List Rch}{i:Nat}(h:rs[i]? = some r):y7 rs i=r.2:=by
 unfold y7
 rw [ao,h]
 rfl
theorem xr.lt {rs:List Rch}(L:xr rs) {r:Nat}(hr:r<rs.length):xV rs r<r:=(kD (L r hr)).1
theorem Jl (L:xr rs):∀(f g r:Nat),r<rs.length->r<f->r<g->vL rs f r=vL rs g r
 | 0,_,_,_,h,_=>∅
 | _+1,0,_,_,_,h=>∅
 | f+1,g+1,r,hr,h1,h2=>by
  unfold vL
  by_cases ht:xV rs r<0
  ·rw [if_pos ht,if_pos ht]
  ·rw [if_neg ht,if_neg ht]
   have hl:=L.lt hr
   rw [Jl L f g (xV rs r).toNat ∅ ∅ ∅]
theorem zS (L:xr rs) {r:Nat}(hr:r<rs.length):qG rs r=(r:Int)::(if xV rs r<0 then [] else qG rs (xV rs r).toNat):=by
 unfold qG
 rw [vL]
 by_cases ht:xV rs r<0
 ·rw [if_pos ht,if_pos ht]
 ·rw [if_neg ht,if_neg ht]
  have hl:=L.lt hr
  rw [Jl L r ((xV rs r).toNat+1) (xV rs r).toNat ∅ ∅ ∅]
theorem Ur (r:Nat):qG rs r≠[]:=by unfold qG vL;exact λz=>nomatch z
theorem uo (L:xr rs):∀(r:Nat),r<rs.length->(qG rs r).length<=r+1
 | r,hr=>by
  rw [zS L hr]
  by_cases ht:xV rs r<0
  ·rw [if_pos ht];simp
  ·rw [if_neg ht]
   have hl:=L.lt hr
   have:=uo L (xV rs r).toNat ∅
   rw [bb]
   omega
 termination_by r=>r
 decreasing_by omega
theorem ze {rs:List Rch}(L:xr rs):∀(r:Nat),r<rs.length->∀x∈qG rs r,0<=x/\x<rs.length
 | r,hr,x,hx=>by
  rw [zS L hr] at hx
  rcases List.mem_cons.mp hx with rfl | hx
  ·omega
  ·by_cases ht:xV rs r<0
   ·rw [if_pos ht] at hx;cases hx
   ·rw [if_neg ht] at hx
    have hl:=L.lt hr
    exact ze L (xV rs r).toNat ∅ x hx
 termination_by r=>r
 decreasing_by omega
theorem xA {h:Nat}(hh:h∈ju rs):h<rs.length:=by
 have:=(List.mem_filter.mp hh).1
 exact List.mem_range.mp this
theorem xg (rs:List Rch) (r:Int) (way:List Int):jI rs (r::way)=((y7 rs r.toNat).length:Int)+jI rs way:=by
 unfold jI
 rw [aV,sI]
theorem Vx {α:Type}{p:α->Bool}{l l':List α}(h:l.Perm l'):l.all p=l'.all p:=by
 rw [d5,bB,bB]
 exact ⟨λz x hx=>z x (h.mem_iff.mpr hx),λz x hx=>z x (h.mem_iff.mp hx)⟩
noncomputable def qe (rs:List Rch) (ws:List (List Int)):Prop:=ws.Perm ((ju rs).map (qG rs))/\(ws.map cO).Pairwise wA.kle
theorem qe.length {rs:List Rch}{ws:List (List Int)}(h:qe rs ws):ws.length=(ju rs).length:=by rw [h.1.length_eq,af]
theorem qe.mem {rs:List Rch}{ws:List (List Int)}(h:qe rs ws) {w:List Int}(hw:w∈ws):∃x∈ju rs,w=qG rs x:=by
 obtain ⟨x,hx,e⟩:=List.mem_map.mp (h.1.mem_iff.mp hw)
 exact ⟨x,hx,e.symm⟩
theorem qe.all {rs:List Rch}{ws:List (List Int)}(h:qe rs ws):(ws.map λw=>decide (jI rs w<=30)).all (λb=>b)=(ju rs).all λx=>decide (jI rs (qG rs x)<=30):=by
 rw [fi,Vx h.1,fi]
 rfl
theorem yN {O:KeyOrd}:∀{l l':List O.α},l.Perm l'->l.Pairwise O.kle->l'.Pairwise O.kle->l=l'
 | [],l',h,_,_=>(List.nil_perm.mp h).symm
 | x::l,[],h,_,_=>by have:=h.length_eq;simp at this
 | x::l,y::l',h,h1,h2=>by
  have hx:=(List.pairwise_cons.mp h1)
  have hy:=(List.pairwise_cons.mp h2)
  have e:x=y:=by
   have m1:x∈y::l':=h.mem_iff.mp aO
   have m2:y∈x::l:=h.mem_iff.mpr aO
   rcases List.mem_cons.mp m1 with z | z
   ·exact z
   ·rcases List.mem_cons.mp m2 with z2 | z2
    ·exact z2.symm
    ·exact iH (hx.1 y z2) (hy.1 x z)
  subst e
  rw [yN (oj h) hx.2 hy.2]
theorem qe.unique {rs:List Rch}{ws:List (List Int)}(h:qe rs ws) (h':qe rs ws'):ws=ws':=by
 have p:(ws.map cO).Perm (ws'.map cO):=(h.1.trans h'.1.symm).map _
 have e:=yN (O:=wA) p h.2 h'.2
 have e2:=congrArg (iX cO) e
 rw [bF,bF,show (cO ∘ cO:List Int->List Int)=id from funext λx=>eZ x,lx,lx] at e2
 exact e2
theorem XS (rs:List Rch) (t:Int) (hs:List Int):tos (rs++[(t,hs)])=tos rs++[t]:=by unfold tos;rw [aF];rfl
theorem uN {rs:List Rch}{x:Rch}{i:Nat}(h:i<rs.length):(rs++[x]).getD i d=rs.getD i d:=by
 rw [ao,ao,cj h]
theorem xH {rs:List Rch}{x:Rch}:(rs++[x]).getD rs.length d=x:=by
 rw [ao,c7 (av _),Nat.sub_self]
 rfl
theorem Jz (h:wb rs=true) (hx:okR rs.length x=true):wb (rs++[x])=true:=by
 unfold wb at h ⊢
 rw [bB] at h ⊢
 intro i hi
 have hi':i<rs.length+1:=by have:=List.mem_range.mp hi;rw [ay,b7] at this;exact this
 by_cases hlt:i<rs.length
 ·rw [uN hlt];exact h i (List.mem_range.mpr hlt)
 ·have e:i=rs.length:=∅
  subst e
  rw [xH];exact hx
theorem wZ {x:Rch}(L:xr rs):∀(f r:Nat),r<rs.length->vL (rs++[x]) f r=vL rs f r
 | 0,_,_=>rfl
 | f+1,r,hr=>by
  have e:xV (rs++[x]) r=xV rs r:=by unfold xV;rw [uN hr]
  unfold vL
  rw [e]
  by_cases ht:xV rs r<0
  ·rw [if_pos ht,if_pos ht]
  ·rw [if_neg ht,if_neg ht,wZ L f _ (by have:=L.lt hr;omega)]
theorem vz {x:Rch}(L:xr rs) {r:Nat}(hr:r<rs.length):qG (rs++[x]) r=qG rs r:=wZ L _ r hr
theorem za {rs:List Rch}{x:Rch}:∀(way:List Int),(∀r∈way,0<=r/\r<rs.length)->jI (rs++[x]) way=jI rs way
 | [],_=>rfl
 | r::way,h=>by
  have h0:=h r aO
  rw [xg,xg,za way λy hy=>h y (aH _ hy)]
  congr 2
  unfold y7
  rw [uN ∅]
theorem Ze (L:xr rs) {t:Int}(h:t∈tos rs):t+1<rs.length:=by
 unfold tos at h
 obtain ⟨r,hr,rfl⟩:=List.mem_map.mp h
 obtain ⟨i,hi,e⟩:=List.mem_iff_getElem.mp hr
 have:=L.lt hi
 rw [JW (ag hi),e] at this
 omega
theorem Z4 {t:Int}{hs:List Int}(L:xr rs) (h0:0<=t) (h1:t<rs.length) :
  (ju (rs++[(t,hs)])).length=if t∈tos rs then (ju rs).length+1 else (ju rs).length:=by
 unfold ju
 rw [ay,b7,eF,ee,ay]
 have e1:(fO (jZ (rs++[(t,hs)])) [rs.length]).length=1:=by
  have:jZ (rs++[(t,hs)]) rs.length=true:=by
   unfold jZ
   rw [XS,decide_eq_false]
   ·rfl
   ·intro z
    rcases List.mem_append.mp z with z | z
    ·have:=Ze L z;omega
    ·have:(rs.length:Int)=t:=by simpa using z
     omega
  simp [this]
 rw [e1]
 have e2:∀h,jZ (rs++[(t,hs)]) h=(jZ rs h && !decide ((h:Int)=t)):=λh=>by
  unfold jZ
  rw [XS]
  by_cases a:(h:Int)∈tos rs
  ·rw [decide_eq_true (cB _ a),decide_eq_true a];rfl
  ·rw [decide_eq_false a]
   by_cases b:(h:Int)=t
   ·rw [decide_eq_true (aD _ (by simp [b])),decide_eq_true b];rfl
   ·rw [decide_eq_false (λz=>(List.mem_append.mp z).elim a λy=>b (by simpa using y)),decide_eq_false b];rfl
 have e3:fO (jZ (rs++[(t,hs)])) (aW rs.length)=fO (λh:Nat=>!decide ((h:Int)=t)) (fO (jZ rs) (aW rs.length)):=by
  rw [List.filter_filter]
  congr 1
  funext h
  rw [e2,Bool.and_comm]
 rw [e3]
 have nd:(fO (jZ rs) (aW rs.length)).Nodup:=List.Nodup.sublist List.filter_sublist List.nodup_range
 generalize hl:fO (jZ rs) (aW rs.length)=l at nd
 have cnt:∀(l:List Nat),l.Nodup->(fO (λh:Nat=>!decide ((h:Int)=t)) l).length=if t.toNat∈l then l.length-1 else l.length:=by
  intro l
  induction l with
  | nil=>intro _;rfl
  | cons x l ih =>
   intro nd
   have nd':=List.nodup_cons.mp nd
   have ih:=ih nd'.2
   by_cases b:(x:Int)=t
   ·have hx:x=t.toNat:=∅
    rw [List.filter_cons_of_neg (by simp [b]),ih,if_neg (by rw [<- hx];exact nd'.1),if_pos (by rw [hx];exact aO)]
    simp
   ·have hx:t.toNat≠x:=∅
    rw [List.filter_cons_of_pos (by simp [b]),bb,ih]
    by_cases m:t.toNat∈l
    ·rw [if_pos m,if_pos (aH _ m),bb]
     have:0<l.length:=fZ m
     omega
    ·rw [if_neg m,if_neg (λz=>(List.mem_cons.mp z).elim hx m)]
     simp
 rw [cnt l nd]
 have hm:t.toNat∈l↔¬t∈tos rs:=by
  rw [<- hl,List.mem_filter,List.mem_range]
  unfold jZ
  have e:((t.toNat:Nat):Int)=t:=∅
  rw [e]
  constructor
  ·rintro ⟨_,z⟩ y
   rw [decide_eq_true y] at z
   cases z
  ·intro z
   exact ⟨∅,by rw [decide_eq_false z];rfl⟩
 by_cases m:t∈tos rs
 ·rw [if_pos m,if_neg (by rw [hm];exact λz=>z m)]
 ·rw [if_neg m,if_pos (by rw [hm];exact m)]
  have:0<l.length:=fZ (hm.mpr m)
  omega
structure Grown (rs:List Rch):Prop where
 ok:wb rs=true
 heads:(ju rs).length<=6
 deep:∀i,i<rs.length->jI rs (qG rs i)<=30
theorem Grown.snoc {rs:List Rch}{t:Int}{hs:List Int}(G:Grown rs) (h0:0<=t) (h1:t<rs.length) (hx:okR rs.length (t,hs)=true) (hh:t∈tos rs->(ju rs).length<6) (hd:jI rs (qG rs t.toNat)+hs.length<=30):Grown (rs++[(t,hs)]):=by
 have L:=qp G.ok
 have ok':=Jz G.ok hx
 refine ⟨ok',?_,λi hi=>?_⟩
 ·rw [Z4 L h0 h1]
  split
  ·rename_i m;have:=hh m;omega
  ·exact G.heads
 ·rw [ay,b7] at hi
  by_cases hlt:i<rs.length
  ·rw [vz L hlt,za _ (ze L i hlt)]
   exact G.deep i hlt
  ·have e:i=rs.length:=∅
   subst e
   have L':=qp ok'
   have et:xV (rs++[(t,hs)]) rs.length=t:=by unfold xV;rw [xH]
   have eh:y7 (rs++[(t,hs)]) rs.length=hs:=by unfold y7;rw [xH]
   rw [zS L' (by rw [ay,b7];omega),xg,bz,eh,et,if_neg ∅,vz L ∅,za _ (ze L _ ∅)]
   omega
theorem Grown.good {rs:List Rch}(G:Grown rs) (h1:1<=rs.length) (h8:rs.length<=8):zm rs=true:=by
 unfold zm
 rw [decide_eq_true (show 1<=(rs.length:Int)/\(rs.length:Int)<=8 by omega),G.ok,decide_eq_true (show ((ju rs).length:Int)<=6 by have:=G.heads;omega),eL,eL,eL,bB]
 intro h hh
 exact decide_eq_true (G.deep h (xA hh))
theorem Grown.deep_snoc {rs:List Rch}{t:Int}{hs:List Int}(G:Grown rs) (h0:0<=t) (h1:t<rs.length) (hx:okR rs.length (t,hs)=true):jI (rs++[(t,hs)]) (qG (rs++[(t,hs)]) rs.length)=jI rs (qG rs t.toNat)+hs.length:=by
 have L:=qp G.ok
 have L':=qp (Jz G.ok hx)
 have et:xV (rs++[(t,hs)]) rs.length=t:=by unfold xV;rw [xH]
 have eh:y7 (rs++[(t,hs)]) rs.length=hs:=by unfold y7;rw [xH]
 rw [zS L' (by rw [ay,b7];omega),xg,bz,eh,et,if_neg ∅,vz L ∅,za _ (ze L _ ∅)]
 omega
noncomputable def jw (H H':Hp):Prop:=∀p xs,H p=some (.tup xs)->H' p=some (.tup xs)
theorem jw.same (s:jn H H'):jw H H':=λ_ _ h=>s _ _ h
theorem jw.trans (a:jw H H1) (b:jw H1 H2):jw H H2:=λp xs h=>b p xs (a p xs h)
theorem jw.ext {b:Addr}(e:Ext b H H') (h:∀xs,H b≠some (.tup xs)):jw H H':=λp xs q=>e _ _ q λz=>h xs (z ▸ q)
theorem jw.lst {b:Addr}{xs:List V}(e:Ext b H H') (h:H b=some (.lst xs)):jw H H':=.ext e λys z=>by rw [h] at z;cases z
theorem jw.new {b:Addr}(e:Ext b H H') (h:H b=none):jw H H':=.ext e λys z=>by rw [h] at z;cases z
theorem jw.tbl {b:Addr}(e:Ext b H H') (h:H b=some (.tbl ps)):jw H H':=.ext e λys z=>by rw [h] at z;cases z
noncomputable def JV (H:Hp) (v:V) (r:Rch):Prop:=∃p g,v=V.ref p/\H p=some (.tup [.int r.1,.ref g])/\H g=some (.tup (r.2.map V.int))
noncomputable def qf (H:Hp) (vs:List V) (rs:List Rch):Prop:=d8 (JV H) vs rs
theorem JV.keep (k:jw H H') (h:JV H v r):JV H' v r:=by
 obtain ⟨p,g,e,h1,h2⟩:=h
 exact ⟨p,g,e,k _ _ h1,k _ _ h2⟩
theorem qf.keep {rs:List Rch}(k:jw H H') (h:qf H vs rs):qf H' vs rs:=Paired.mapP h λ_ _ z=>z.keep k
theorem qf.length {rs:List Rch}(h:qf H vs rs):vs.length=rs.length:=aZ h
theorem qf.get {rs:List Rch}{i:Nat}(h:qf H vs rs) (e:vs[i]? = some v):∃r,rs[i]? = some r/\JV H v r:=Paired.get h e
theorem qf.at {rs:List Rch}{i:Nat}(h:qf H vs rs) (e:rs[i]? = some r):∃v,vs[i]? = some v/\JV H v r:=by
 have hi:i<vs.length:=by rw [h.length];exact (List.getElem?_eq_some_iff.mp e).1
 obtain ⟨r',e2,q⟩:=h.get (ag hi)
 rw [e] at e2
 cases e2
 exact ⟨_,ag hi,q⟩
theorem qf.snoc {rs:List Rch}(h:qf H vs rs) (q:JV H v r):qf H (vs++[v]) (rs++[r]):=cE h q
noncomputable def yj (H:Hp) (vs:List V) (ws:List (List Int)):Prop:=d8 (λv (w:List Int)=>∃a,v=V.ref a/\H a=some (.tup (w.map V.int))) vs ws
theorem yj.keep {ws:List (List Int)}(k:jw H H') (h:yj H vs ws):yj H' vs ws:=Paired.mapP h λ_ _ ⟨a,e,q⟩=>⟨a,e,k _ _ q⟩
theorem yj.length {ws:List (List Int)}(h:yj H vs ws):vs.length=ws.length:=aZ h
theorem uj (x:Int) (l:List Int):inV (.int x) (l.map V.int)=decide (x∈l):=by
 unfold inV
 induction l with
 | nil=>rfl
 | cons y l ih =>
  rw [aV,fB,ih]
  by_cases e:x=y
  ·subst e
   rw [decide_eq_true (aO (a:=x))]
   simp [eqV]
  ·by_cases m:x∈l
   ·rw [decide_eq_true m,decide_eq_true (aH _ m),Bool.or_true]
   ·rw [decide_eq_false m,decide_eq_false (λz=>(List.mem_cons.mp z).elim e m),Bool.or_false]
    simp [eqV]
    exact λz=>e z.symm
theorem vD (l:List Int):(l.map V.int).all uF=true:=by
 rw [fi,bB]
 intro x _
 rfl
end L2
end
section
namespace L2
open PySem.W
section
variable {prog:Program}{w:bp}{A:br}{E:ak->Shared->Prop}{s:Shared}
end
end L2
end
section
namespace L2
open PySem.W
section
variable {X:Cx}
end
end L2
end
section
namespace L2
open PySem.W
end L2
end
section
namespace L2
open PySem.W
section
variable {s:Shared}{A:br}{prog:Program}{w:bp}{E:ak->Shared->Prop}
theorem GL {k:Nat}{Q:ak->Shared->Prop}(q:s.heap.IsTupleIter it t k) (p:s.heap.IsTuple t its) (e:its[k]? = some v)
  (z:∀g,g.IsTupleIter it t (k+1)->dY it s.heap g->Q v { s with heap:=g }):az (aC prog w) A (bA (.ref it)) Q E s:=by
 obtain ⟨ob,gb,cb,db⟩:=id q;obtain ⟨ot,gt,_,nt,dt⟩:=p;unfold bA
 refine aa (bQ (name:=ai "__next__") q.typeIs du (cg du q.typeIs iM ?_ (iE _)))
 show az _ _ (mw (.ref it) 0 >>= _) _ _ s;refine aa (bw gb db (x:=.ref t) rfl ?_)
 show az _ _ (if (aS t == aT)=true then _ else _) _ _ s;rw [if_neg (show ¬((aS t == aT)=true) from au)]
 show az _ _ (mw (.ref it) 1 >>= _) _ _ s;refine aa (bw gb db (x:=.int k 0) rfl ?_)
 show az _ _ (pK (.ref t) >>= _) _ _ s;refine aa (cP gt dt ?_)
 simp only [bz,e]
 refine aa (f7 gb db (by simp) (wpAny_pure ⟨v,rfl,wpAny_pure (z _ ⟨_,dw _ gb (eQ (ef db _)),(pe ..).trans cb,by rw [ef db];simp [c6]⟩ (nu ..))⟩))
theorem Ed {k:Nat}(hh:A.handled=none) (q:s.heap.IsTupleIter it t k) (p:s.heap.IsTuple t its) (e:its[k]? = none)
  (z:∀g x,iz it s.heap g->(∃o,g.get? x=some o/\o.cls = .type "StopIteration")->E (.ref x) { s with heap:=g }):az (aC prog w) A (bA (.ref it)) Q E s:=by
 obtain ⟨ob,gb,cb,db⟩:=id q;obtain ⟨ot,gt,_,nt,dt⟩:=p;unfold bA
 refine aa (bQ (name:=ai "__next__") q.typeIs du (cg du q.typeIs iM ?_ (iE _)))
 show az _ _ (mw (.ref it) 0 >>= _) _ _ s;refine aa (bw gb db (x:=.ref t) rfl ?_)
 show az _ _ (if (aS t == aT)=true then _ else _) _ _ s;rw [if_neg (show ¬((aS t == aT)=true) from au)]
 show az _ _ (mw (.ref it) 1 >>= _) _ _ s;refine aa (bw gb db (x:=.int k 0) rfl ?_)
 show az _ _ (pK (.ref t) >>= _) _ _ s;refine aa (cP gt dt ?_)
 simp only [bz,e]
 refine aa (fL (aa (f7 gb db (by simp) ?_)))
 show az _ _ (tG (.type "StopIteration") [] >>= _) _ _ _;refine aa ?_;simp only [tG,newTuple]
 refine aa (bx ?_ (by size_fits));refine aa (m:=iY _ _) (mP (a:=aT) (by first | rfl | (simp only [iY];rfl)) ?_)
 refine bx ?_ (by size_fits);simp only [raiseNew];refine aa (sJ ?_);first | rw [hh] | rw [show A.in1.handled=none from hh]
 exact aa (wpAny_pure (wpAny_throw (z _ _ (((nu ..).extBut.push _).push _) ⟨_,aA _ rfl,rfl⟩)))
structure Feeds (prog:Program) (w:bp) (i l:Addr) (xs:Array ak) (S:Nat->Heap->Prop):Prop where
 keep:∀k h h',S k h->(∀o,h.get? i=some o->h'.get? i=some o)->(∀o,h.get? l=some o->h'.get? l=some o)->S k h'
 obj:∀k h,S k h->∃o,h.get? i=some o/\∀v,o.data≠.cell v
 item:∀(A:br) (E:ak->Shared->Prop) (k:Nat) (x:ak) (s:Shared) (Q:ak->Shared->Prop),S k s.heap->xs[k]? = some x->(∀g,S (k+1) g->dY i s.heap g->Q x { s with heap:=g })->az (aC prog w) A (bA (.ref i)) Q E s
 done:∀(A:br) (E:ak->Shared->Prop) (k:Nat) (s:Shared) (Q:ak->Shared->Prop),A.handled=none->S k s.heap->xs[k]? = none->(∀g x,iz i s.heap g->(∃o,g.get? x=some o/\o.cls = .type "StopIteration")->E (.ref x) { s with heap:=g })->az (aC prog w) A (bA (.ref i)) Q E s
theorem Feeds.but {b:Addr}{xs:Array ak}{S:Nat->Heap->Prop}(f:Feeds prog w i l xs S) {k:Nat}(q:S k h) (sb:dY b h h') (n1:i≠b) (n2:l≠b):S k h':=f.keep k h h' q (λo e=>sb.extBut _ _ n1 e) λo e=>sb.extBut _ _ n2 e
theorem XV {i l:Addr}{xs:Array ak}(n:l≠i):Feeds prog w i l xs λk h=>h.IsListIter i l k/\h.IsList l xs where
 keep:=λk h h' q k1 k2=>⟨q.1.at λo e=>k1 o e,q.2.at λo e=>k2 o e⟩
 obj:=λk h q=>by obtain ⟨o,e,_,d⟩:=q.1;exact ⟨o,e,λv z=>by rw [d] at z;cases z⟩
 item:=λA E k x s Q q e z=>wpAny_nextOf_list_item q.1 q.2 e λg q1 sb=>z g ⟨q1,q.2.extBut sb.extBut n⟩ sb
 done:=λA E k s Q hh q e z=>wpAny_nextOf_list_end hh q.1 q.2 e z
theorem Vf {i l:Addr}{xs:Array ak}(n:l≠i):Feeds prog w i l xs λk h=>h.IsTupleIter i l k/\h.IsTuple l xs where
 keep:=λk h h' q k1 k2=>⟨q.1.at λo e=>k1 o e,let ⟨o,e,r⟩:=q.2;⟨o,k2 o e,r⟩⟩
 obj:=λk h q=>by obtain ⟨o,e,_,d⟩:=q.1;exact ⟨o,e,λv z=>by rw [d] at z;cases z⟩
 item:=λA E k x s Q q e z=>GL q.1 q.2 e λg q1 sb=>z g ⟨q1,q.2.extBut sb.extBut n⟩ sb
 done:=λA E k s Q hh q e z=>Ed hh q.1 q.2 e z
theorem VX {TI TO:Addr}{k1 k2:Nat}{Q:ak->Shared->Prop}(D:mQ z TI TO i1 i2 l1 l2) (f1:Feeds prog w i1 l1 xs S1) (f2:Feeds prog w i2 l2 ys S2)
  (g0:iZ s.heap z TI TO .none) (gI:dM s.heap TI (.ref i1) (.ref i2)) (gO:dM s.heap TO a b) (q1:S1 k1 s.heap) (q2:S2 k2 s.heap) (ex:xs[k1]? = some x) (ey:ys[k2]? = some y)
  (R:∀g,iZ g z TI TO (c6 s.heap.objs.size)->dM g TO x y->S1 (k1+1) g->S2 (k2+1) g->dM g s.heap.objs.size x y->g.objs.size=s.heap.objs.size+1 ->
   (∀c o,c≠z->c≠TO->c≠i1->c≠i2->s.heap.get? c=some o->g.get? c=some o)->Q ↥19 { s with heap:=g }):az (aC prog w) A (fH.«zip.__next__» ⟨[.ref z],[]⟩) ↥60 E s:=by
 show az _ _ (mw (.ref z) 2 >>= _) _ _ _;refine aa (bw g0 rfl (x:=.bool false) rfl ?_)
 show az _ _ (mw (.ref z) 3 >>= _) _ _ _;refine aa (bw g0 rfl (x:=.ref TI) rfl ?_)
 refine aa (cP gI rfl ?_);show az _ _ (cA (.ref z) >>= _) _ _ _
 refine aa ?_;unfold cA;refine aa (bw g0 rfl (x:=.none) rfl ↥52);simp only [if_true]
 refine aa (fL ?_);refine aa (bw g0 rfl (x:=.ref TO) rfl ?_)
 refine aa (dv g0 (by simp) λh1 g1 e1=>?_)
 replace g1:iZ h1 z TI TO .ellipsis:=g1
 refine aa ?_;simp only [pL,rp,iD,sj]
 refine aa (aa (lF ?_));show az _ _ (bA (.ref i1) >>= _) _ _ _
 refine aa (f1.item _ _ k1 x _ _ (f1.but q1 e1 D.i1z D.l1z) ex λh2 q1' e2=>wpAny_pure ?_)
 have gO2:dM h2 TO a b:=e2.extBut _ _ D.TOi1 (e1.extBut _ _ D.TOz gO)
 refine aa (cP gO2 rfl ?_);refine aa (iA gO2 λh3 gO3 e3=>?_)
 replace gO3:dM h3 TO x b:=gO3
 refine aa (mM ↥52);refine aa (aa (lF ?_));show az _ _ (bA (.ref i2) >>= _) _ _ _
 refine aa (f2.item _ _ k2 y _ _ (f2.but (f2.but (f2.but q2 e1 D.i2z D.l2z) e2 D.i12.symm D.l2i1) e3 D.TOi2.symm D.l2TO) ey λh4 q2' e4=>wpAny_pure ?_)
 have gO4:dM h4 TO x b:=e4.extBut _ _ D.TOi2 gO3
 refine aa (cP gO4 rfl ?_);refine aa (iA gO4 λh5 gO5 e5=>?_)
 replace gO5:dM h5 TO x y:=gO5
 refine aa (mM (wpAny_pure ↥52));refine aa (cP gO5 rfl ?_);refine aa (iW ?_)
 have sz:h5.objs.size=s.heap.objs.size:=by rw [e5.1,e4.1,e3.1,e2.1,e1.1]
 have g5:iZ h5 z TI TO .ellipsis:=e5.extBut _ _ D.TOz.symm (e4.extBut _ _ D.i2z.symm (e3.extBut _ _ D.TOz.symm (e2.extBut _ _ D.i1z.symm g1)))
 have k5:∀c o,c≠z->c≠TO->c≠i1->c≠i2->s.heap.get? c=some o->h5.get? c=some o:=λc o n1 n2 n3 n4 e=>e5.extBut _ _ n2 (e4.extBut _ _ n4 (e3.extBut _ _ n2 (e2.extBut _ _ n3 (e1.extBut _ _ n1 e))))
 have q15:S1 (k1+1) h5:=f1.but (f1.but (f1.but q1' e3 D.TOi1.symm D.l1TO) e4 D.i12 D.l1i2) e5 D.TOi1.symm D.l1TO
 have q25:S2 (k2+1) h5:=f2.but q2' e5 D.TOi2.symm D.l2TO
 have lz:z<h5.objs.size:=aw g5
 show az _ _ (fq (.ref z) (.ref h5.objs.size) >>= _) _ _ _;refine aa ?_;unfold fq
 have g6:iZ (h5.push { cls:=.type "tuple",data:=.seq #[x,y] }) z TI TO .ellipsis:=aj _ g5
 refine aa (dv g6 (by simp) λh7 g7 e7=>?_)
 replace g7:iZ h7 z TI TO (c6 h5.objs.size):=g7
 refine dv g7 (by simp) λh8 g8 e8=>?_
 replace g8:iZ h8 z TI TO (c6 h5.objs.size):=g8
 have up:∀c o,c≠z->h5.get? c=some o->h8.get? c=some o:=λc o n e=>e8.extBut _ _ n (e7.extBut _ _ n (aj _ e))
 have gT:dM h8 h5.objs.size x y:=e8.extBut _ _ (cJ lz) (e7.extBut _ _ (cJ lz) (aA _ rfl))
 have sz8:h8.objs.size=h5.objs.size+1:=by rw [e8.1,e7.1,cx]
 rw [sz] at g8 gT sz8
 refine wpAny_pure ⟨_,rfl,?_⟩;show Q (.ref h5.objs.size) _;rw [sz]
 exact R h8 g8 (up _ _ D.TOz gO5) (f1.keep _ _ _ q15 (λo e=>up _ o D.i1z e) λo e=>up _ o D.l1z e) (f2.keep _ _ _ q25 (λo e=>up _ o D.i2z e) λo e=>up _ o D.l2z e) gT sz8 λc o n1 n2 n3 n4 e=>up c o n1 (k5 c o n1 n2 n3 n4 e)
theorem VE {TI TO:Addr}{k1 k2:Nat}(hh:A.handled=none) (D:mQ z TI TO i1 i2 l1 l2) (f1:Feeds prog w i1 l1 xs S1) (f2:Feeds prog w i2 l2 ys S2)
  (g0:iZ s.heap z TI TO .none) (gI:dM s.heap TI (.ref i1) (.ref i2)) (gO:dM s.heap TO a b) (q1:S1 k1 s.heap) (q2:S2 k2 s.heap) (ed:xs[k1]? = none\/ys[k2]? = none)
  (R:∀g e,(∀c o,c≠z->c≠TO->c≠i1->c≠i2->s.heap.get? c=some o->g.get? c=some o)->(∃o,g.get? e=some o/\o.cls = .type "StopIteration")->E (.ref e) { s with heap:=g }):az (aC prog w) A (fH.«zip.__next__» ⟨[.ref z],[]⟩) Q E s:=by
 show az _ _ (mw (.ref z) 2 >>= _) _ _ _;refine aa (bw g0 rfl (x:=.bool false) rfl ?_)
 show az _ _ (mw (.ref z) 3 >>= _) _ _ _;refine aa (bw g0 rfl (x:=.ref TI) rfl ?_)
 refine aa (cP gI rfl ?_);show az _ _ (cA (.ref z) >>= _) _ _ _
 refine aa ?_;unfold cA;refine aa (bw g0 rfl (x:=.none) rfl ↥52);simp only [if_true]
 refine aa (fL ?_);refine aa (bw g0 rfl (x:=.ref TO) rfl ?_)
 refine aa (dv g0 (by simp) λh1 g1 e1=>?_)
 replace g1:iZ h1 z TI TO .ellipsis:=g1
 refine aa ?_;simp only [pL,rp,iD,sj]
 refine aa (aa (lF ?_));show az _ _ (bA (.ref i1) >>= _) _ _ _
 cases ex:xs[k1]? with
 | none =>
  refine aa (f1.done _ _ k1 _ _ hh (f1.but q1 e1 D.i1z D.l1z) ex λh2 e e2 he=>?_)
  obtain ⟨oe,ge,ce⟩:=he
  have g2:iZ h2 z TI TO .ellipsis:=e2 _ _ D.i1z.symm g1
  have ne:e≠z:=λq=>by subst q;rw [g2] at ge;cases ge;simp at ce
  exact dv g2 (by simp) λh3 _ e3=>R h3 e (λc o n1 _ n3 _ q=>e3.extBut _ _ n1 (e2 _ _ n3 (e1.extBut _ _ n1 q))) ⟨oe,e3.extBut _ _ ne ge,ce⟩
 | some x =>
  have ey:ys[k2]? = none:=by rcases ed with q | q;rw [ex] at q;cases q;exact q
  refine aa (f1.item _ _ k1 x _ _ (f1.but q1 e1 D.i1z D.l1z) ex λh2 q1' e2=>wpAny_pure ?_)
  have gO2:dM h2 TO a b:=e2.extBut _ _ D.TOi1 (e1.extBut _ _ D.TOz gO)
  refine aa (cP gO2 rfl ?_);refine aa (iA gO2 λh3 gO3 e3=>?_)
  refine aa (mM ↥52);refine aa (aa (lF ?_));show az _ _ (bA (.ref i2) >>= _) _ _ _
  refine aa (f2.done _ _ k2 _ _ hh (f2.but (f2.but (f2.but q2 e1 D.i2z D.l2z) e2 D.i12.symm D.l2i1) e3 D.TOi2.symm D.l2TO) ey λh4 e e4 he=>?_)
  obtain ⟨oe,ge,ce⟩:=he
  have g4:iZ h4 z TI TO .ellipsis:=e4 _ _ D.i2z.symm (e3.extBut _ _ D.TOz.symm (e2.extBut _ _ D.i1z.symm g1))
  have ne:e≠z:=λq=>by subst q;rw [g4] at ge;cases ge;simp at ce
  exact dv g4 (by simp) λh5 _ e5=>R h5 e (λc o n1 n2 n3 n4 q=>e5.extBut _ _ n1 (e4 _ _ n4 (e3.extBut _ _ n2 (e2.extBut _ _ n3 (e1.extBut _ _ n1 q))))) ⟨oe,e5.extBut _ _ ne ge,ce⟩
theorem E7 {TI TO:Addr}{k1 k2:Nat}{Q:Option ak->Shared->Prop}(D:mQ z TI TO i1 i2 l1 l2) (f1:Feeds prog w i1 l1 xs S1) (f2:Feeds prog w i2 l2 ys S2)
  (g0:iZ s.heap z TI TO .none) (gI:dM s.heap TI (.ref i1) (.ref i2)) (gO:dM s.heap TO a b) (q1:S1 k1 s.heap) (q2:S2 k2 s.heap) (ex:xs[k1]? = some x) (ey:ys[k2]? = some y)
  (R:∀g,iZ g z TI TO (c6 s.heap.objs.size)->dM g TO x y->S1 (k1+1) g->S2 (k2+1) g->dM g s.heap.objs.size x y->g.objs.size=s.heap.objs.size+1 ->
   (∀c o,c≠z->c≠TO->c≠i1->c≠i2->s.heap.get? c=some o->g.get? c=some o)->Q (some ↥19) { s with heap:=g }):az (aC prog w) A (fm (.ref z)) Q E s:=by
 have ty:s.TypeIs (.ref z) "zip":=⟨_,g0,rfl⟩
 unfold fm;exact aa (eK (bQ (name:=ai "__next__") ty iF (cg iF ty pM
   (VX D f1 f2 g0 gI gO q1 q2 ex ey λg a1 a2 a3 a4 a5 a6 a7=>wpAny_pure (R g a1 a2 a3 a4 a5 a6 a7)) (pf _))))
theorem GQ {TI TO:Addr}{k1 k2:Nat}{Q:Option ak->Shared->Prop}(hh:A.handled=none) (D:mQ z TI TO i1 i2 l1 l2) (f1:Feeds prog w i1 l1 xs S1) (f2:Feeds prog w i2 l2 ys S2)
  (g0:iZ s.heap z TI TO .none) (gI:dM s.heap TI (.ref i1) (.ref i2)) (gO:dM s.heap TO a b) (q1:S1 k1 s.heap) (q2:S2 k2 s.heap) (ed:xs[k1]? = none\/ys[k2]? = none)
  (R:∀g,(∀c o,c≠z->c≠TO->c≠i1->c≠i2->s.heap.get? c=some o->g.get? c=some o)->Q none { s with heap:=g }):az (aC prog w) A (fm (.ref z)) Q E s:=by
 have ty:s.TypeIs (.ref z) "zip":=⟨_,g0,rfl⟩
 unfold fm;refine aa (eK (bQ (name:=ai "__next__") ty iF (cg iF ty pM (VE hh D f1 f2 g0 gI gO q1 q2 ed λg e hk he=>?_) (pf _))))
 obtain ⟨o,ho,hc⟩:=he
 exact aa (lR (T:="StopIteration") (b:=true) ⟨o,ho,hc⟩ mT (wpAny_pure (R _ hk)))
noncomputable def Wn (t:Bool):String:=match t with | true=>"tuple_iterator" | false=>"list_iterator"
noncomputable def ItK (t:Bool) (h:Heap) (i l:Addr) (k:Nat):Prop:=match t with | true=>h.IsTupleIter i l k | false=>h.IsListIter i l k
noncomputable def IsK (t:Bool) (h:Heap) (l:Addr) (xs:Array ak):Prop:=match t with | true=>h.IsTuple l xs | false=>h.IsList l xs
noncomputable def SqK (t:Bool) (K:ah) (H:Hp) (a:Addr) (xs:List V):Prop:=match t with | true=>SqT K H a xs | false=>SqL K H a xs
theorem IsK.at {t:Bool}{h':Heap}{xs:Array ak}(q:IsK t h l xs) (k:∀o,h.get? l=some o->h'.get? l=some o):IsK t h' l xs:=by
 cases t with
 | true=>obtain ⟨o,e,r⟩:=q;exact ⟨o,k o e,r⟩
 | false=>exact Heap.IsList.at q λo e=>k o e
theorem IsK.lt {t:Bool}{xs:Array ak}(q:IsK t h l xs):l<h.objs.size:=by
 cases t with
 | true=>obtain ⟨o,e,r⟩:=q;exact aw e
 | false=>obtain ⟨o,e,r⟩:=q;exact aw e
theorem ItK.at {t:Bool}{h':Heap}{k:Nat}(q:ItK t h i l k) (f:∀o,h.get? i=some o->h'.get? i=some o):ItK t h' i l k:=by
 cases t with
 | true=>obtain ⟨o,e,r⟩:=q;exact ⟨o,f o e,r⟩
 | false=>obtain ⟨o,e,r⟩:=q;exact ⟨o,f o e,r⟩
theorem ItK.obj {t:Bool}{k:Nat}(q:ItK t h i l k):∃o,h.get? i=some o/\∀v,o.data≠.cell v:=by
 cases t with
 | true=>obtain ⟨o,e,_,d⟩:=q;exact ⟨o,e,λv z=>by rw [d] at z;cases z⟩
 | false=>obtain ⟨o,e,_,d⟩:=q;exact ⟨o,e,λv z=>by rw [d] at z;cases z⟩
theorem ItK.of {t:Bool}{h:Heap}{i:Addr}(e:h.get? i=some { cls:=.type (Wn t),data:=.fields #[.ref l,.int 0 0] }):ItK t h i l 0:=by
 cases t with
 | true=>exact ⟨_,e,rfl,rfl⟩
 | false=>exact ⟨_,e,rfl,rfl⟩
theorem Qb {t:Bool}{i l:Addr}{xs:Array ak}(n:l≠i):Feeds prog w i l xs λk h=>ItK t h i l k/\IsK t h l xs:=by
 cases t with
 | true=>exact Vf n
 | false=>exact XV n
theorem Y0 {t:Bool}{Q:ak->Shared->Prop}(q:IsK t s.heap l xs) (z:Q ↥19 { s with heap:=s.heap.push { cls:=.type (Wn t),data:=.fields #[.ref l,.int 0 0] } }):az (aC prog w) A (lB (.ref l)) Q E s:=by
 cases t with
 | true=>exact nR q z
 | false=>exact eS q z
noncomputable abbrev zp1 (t:Bool) (h:Heap) (l:Addr):Heap:=h.push { cls:=.type (Wn t),data:=.fields #[.ref l,.int 0 0] }
noncomputable abbrev zp2 (t u:Bool) (h:Heap) (l m:Addr):Heap:=zp1 u (zp1 t h l) m
noncomputable abbrev zp3 (t u:Bool) (h:Heap) (l m:Addr):Heap:=(zp2 t u h l m).push { cls:=.type "tuple",data:=.seq #[.ref h.objs.size,.ref (zp1 t h l).objs.size] }
noncomputable abbrev zp4 (t u:Bool) (h:Heap) (l m:Addr):Heap:=(zp3 t u h l m).push { cls:=.type "tuple",data:=.seq #[.none,.none] }
noncomputable abbrev zp5 (t u:Bool) (h:Heap) (l m:Addr):Heap:=(zp4 t u h l m).push { cls:=.type "zip",data:=.fields #[.none,.bool false,.bool false,.ref (zp2 t u h l m).objs.size,.ref (zp3 t u h l m).objs.size] }
theorem YH (t u:Bool) (l m:Addr) (xs ys:Array ak) :
  Meets (fH.«zip.__new__» ⟨[.type "zip",.ref l,.ref m],[]⟩) (λ_ R s=>IsK t s.heap l xs/\IsK u s.heap m ys/\R (.ok (.ret (.ref (zp4 t u s.heap l m).objs.size))) { s with heap:=zp5 t u s.heap l m }) :=
 .of_wp λprog w A R s0 h=>by
  obtain ⟨hp,g,d,tk,os⟩:=s0;obtain ⟨q1,q2,h⟩:=h;have hsub:=sub_zip
  have p1:IsK t (Shared.heap ⟨hp,g,d,tk,os⟩) l xs:=q1
  have p2:IsK u (Shared.heap ⟨zp1 t hp l,g,d,tk,os⟩) m ys:=q2.at λo e=>aj _ e
  wp_walk using Y0 p1,Y0 p2
  exact ⟨_,rfl,h⟩
theorem WO {t u:Bool}{Q:ak->Shared->Prop}(q1:IsK t s.heap l xs) (q2:IsK u s.heap m ys)
  (R:∀g,iZ g (s.heap.objs.size+4) (s.heap.objs.size+2) (s.heap.objs.size+3) .none->dM g (s.heap.objs.size+2) ↥19 (.ref ↥21) ->
   dM g (s.heap.objs.size+3) .none .none->ItK t g s.heap.objs.size l 0->ItK u g ↥21 m 0->(∀c o,s.heap.get? c=some o->g.get? c=some o)->Q (.ref (s.heap.objs.size+4)) { s with heap:=g }) :
  az (aC prog w) A (call (.type "zip") [.ref l,.ref m]) Q E s:=by
 refine callType_new F.called_zip ⋯ (F.typeCall_zip_2 _ _) (F.newCall_zip_2 _ _) (λobj=>F.args_object_init_3 obj _ _) F.entry_zip_new (YH t u l m xs ys) ⟨q1,q2,?_⟩
 have z1:(zp1 t s.heap l).objs.size=s.heap.objs.size+1:=cx ..
 have z2:(zp2 t u s.heap l m).objs.size=s.heap.objs.size+2:=by rw [cx,z1]
 have z3:(zp3 t u s.heap l m).objs.size=s.heap.objs.size+3:=by rw [cx,z2]
 have z4:(zp4 t u s.heap l m).objs.size=s.heap.objs.size+4:=by rw [cx,z3]
 have g5:(zp5 t u s.heap l m).get? (zp4 t u s.heap l m).objs.size=some _:=aA _ rfl
 have g4:(zp5 t u s.heap l m).get? (zp3 t u s.heap l m).objs.size=some _:=aj _ (aA _ rfl)
 have g3:(zp5 t u s.heap l m).get? (zp2 t u s.heap l m).objs.size=some _:=aj _ (aj _ (aA _ rfl))
 have g2:(zp5 t u s.heap l m).get? (zp1 t s.heap l).objs.size=some _:=aj _ (aj _ (aj _ (aA _ rfl)))
 have g1:(zp5 t u s.heap l m).get? s.heap.objs.size=some _:=aj _ (aj _ (aj _ (aj _ (aA _ rfl))))
 show _/\_
 rw [z2,z3,z4] at g5;rw [z1,z2] at g3;rw [z3] at g4;rw [z1] at g2;rw [z4]
 exact ⟨⟨_,g5,rfl⟩,R _ g5 g3 g4 (.of g1) (.of g2) λc o x=>aj _ (aj _ (aj _ (aj _ (aj _ x))))⟩
end
section
variable {X:Cx}{s:Shared}{σ:St}{H:Hp}{pins:List (Addr×Obj)}
theorem YA {t:Bool}(I:Inv X pins σ H s) (h:SqK t X.K H a xs):∃its:List ak,jJ xs its/\IsK t s.heap a its.toArray/\xs.length<=sizeLine:=by
 cases t with
 | true=>exact I.tuple h
 | false=>obtain ⟨its,r,p,z⟩:=I.list h;exact ⟨its,r,p.isList,z⟩
theorem Xf {t:Bool}(I:Inv X pins σ H s) (h:SqK t X.K H a xs) (h':SqK t X.K H a ys):xs=ys:=by
 cases t with
 | true=>exact I.tuple_inj h h'
 | false=>exact I.list_inj h h'
end
noncomputable def Xh (K:ah) (t u:Bool) (l1 l2:Addr):It :=
 ⟨λi H=>∃xs ys x y,SqK t K H l1 xs/\SqK u K H l2 ys/\xs[i]? = some x/\ys[i]? = some y,λi H v H'=>∃p x y,v = .ref p/\H p=none/\H'=upd H p (.tup [x,y])/\(∀xs,SqK t K H l1 xs->xs[i]? = some x)/\∀ys,SqK u K H l2 ys->ys[i]? = some y,
  λi H=>∃xs ys,SqK t K H l1 xs/\SqK u K H l2 ys/\(xs.length<=i\/ys.length<=i)⟩
theorem Vb {t u:Bool}{K:ah}{x1:Nat}{TI TO:Addr}(D:mQ z TI TO i1 i2 l1 l2) :
  Turn P w K (.Tuple es x1 pos) (Xh K t u l1 l2) [z,TI,TO,i1,i2] z (λi h=>∃a b,iZ h z TI TO .none/\dM h TI (.ref i1) (.ref i2)/\dM h TO a b/\ItK t h i1 l1 i/\ItK u h i2 l2 i) where
 mem:=by simp
 obj:=λi h ⟨a,b,t1,t2,t3,t4,t5⟩ c hc=>by
  simp only [fE,fj,or_false] at hc
  rcases hc with rfl | rfl | rfl | rfl | rfl
  ·exact ⟨_,t1,λv e=>by have e':pV _=mZ v:=e;cases e'⟩
  ·exact ⟨_,t2,λv e=>by have e':Data.seq _ _=mZ v:=e;cases e'⟩
  ·exact ⟨_,t3,λv e=>by have e':Data.seq _ _=mZ v:=e;cases e'⟩
  ·exact t4.obj
  ·exact t5.obj
 keep:=λi h h' ⟨a,b,t1,t2,t3,t4,t5⟩ k=>⟨a,b,k z (by simp) _ t1,k TI (by simp) _ t2,k TO (by simp) _ t3,t4.at λo e=>k i1 (by simp) o e,t5.at λo e=>k i2 (by simp) o e⟩
 item:=by
  intro X hP hw hK hc i pins s σ H E I hf st hg
  subst hP hw hK
  obtain ⟨a,b,t1,t2,t3,t4,t5⟩:=st
  obtain ⟨xs,ys,x,y,hq1,hq2,hx,hy⟩:=hg
  obtain ⟨its1,rv1,p1,_⟩:=YA I hq1
  obtain ⟨its2,rv2,p2,_⟩:=YA I hq2
  obtain ⟨u1,hu1,ru1⟩:=rv1.get hx
  obtain ⟨u2,hu2,ru2⟩:=rv2.get hy
  have hn:H s.heap.objs.size=none:=I.hok.fresh (av _)
  have fz:=hf z (by simp)
  have fTO:=hf TO (by simp)
  have f1:=hf i1 (by simp)
  have f2:=hf i2 (by simp)
  refine E7 D (Qb D.l1i1) (Qb D.l2i2) t1 t2 t3 ⟨t4,p1⟩ ⟨t5,p2⟩ (x:=u1) (y:=u2) (by simpa using hu1) (by simpa using hu2) λh' o1 o2 o3 o4 o5 o6 o7=>⟨_,rfl,?_⟩
  obtain ⟨o3,_⟩:=o3;obtain ⟨o4,_⟩:=o4
  refine wpAny_letOwnedTupleGo_zip o1 λh2 q1 sb=>?_
  have hzl:z<s.heap.objs.size:=aw t1
  have kk:∀c o,c≠z->c≠TO->c≠i1->c≠i2->s.heap.get? c=some o->h2.get? c=some o:=λc o n1 n2 n3 n4 e=>(sb.2 c n1).trans (o7 c o n1 n2 n3 n4 e)
  have et:h2.get? s.heap.objs.size=some { cls:=.type "tuple",data:=.seq #[u1,u2] }:=(sb.2 _ (cJ hzl)).trans o5
  have tne:∀c o,H c=some o->c≠z/\c≠TO/\c≠i1/\c≠i2/\c≠s.heap.objs.size:=λc o q=>⟨λe=>(by rw [e,fz.1] at q;cases q),λe=>(by rw [e,fTO.1] at q;cases q),λe=>(by rw [e,f1.1] at q;cases q),λe=>(by rw [e,f2.1] at q;cases q),λe=>(by rw [e,hn] at q;cases q)⟩
  have getF:∀{c:Addr} {o:HO},H c=some o->upd H s.heap.objs.size (.tup [x,y]) c=some o:=λ{c o} q=>by rw [j9 (tne c o q).2.2.2.2];exact q
  have nin:∀{c:Addr},c∉[z,TO,i1,i2]->c≠z/\c≠TO/\c≠i1/\c≠i2:=λ{c} h=>by simpa using h
  have I1:Inv X pins σ (upd H s.heap.objs.size (.tup [x,y])) { s with heap:=h2,toks:=s.toks }:=by
   refine I.step (g':=s.gens) (d':=s.drawn) (ch:=[z,TO,i1,i2]) (λc hc'=>?_) (λc o _ _ hc' e _=>kk c o (nin hc').1 (nin hc').2.1 (nin hc').2.2.1 (nin hc').2.2.2 e) (λc o _ _ hc' e _=>⟨o.slots,kk c o (nin hc').1 (nin hc').2.1 (nin hc').2.2.1 (nin hc').2.2.2 e⟩)
    (λc o _ e n=>by rw [j9 (aB (aw e))];exact n) (λc o hc' e=>⟨o,kk c o (nin hc').1 (nin hc').2.1 (nin hc').2.2.1 (nin hc').2.2.2 e⟩) (λ_ _ q=>getF q) (λ_ _ _ q=>getF q) (λc ps q=>⟨#[],by rw [getF q];simp⟩) (λm hm=>?_) (λc v q=>?_) I.bare
   ·simp only [fE,fj,or_false] at hc'
    rcases hc' with rfl | rfl | rfl | rfl
    ·exact ⟨fz.2.2.2.1,fz.2.1,fz.2.2.2.2.1,fz.2.2.2.2.2⟩
    ·exact ⟨fTO.2.2.2.1,fTO.2.1,fTO.2.2.2.2.1,fTO.2.2.2.2.2⟩
    ·exact ⟨f1.2.2.2.1,f1.2.1,f1.2.2.2.2.1,f1.2.2.2.2.2⟩
    ·exact ⟨f2.2.2.2.1,f2.2.1,f2.2.2.2.2.1,f2.2.2.2.2.2⟩
   ·obtain ⟨o,es,ep,ho,r⟩:=hm
    exact ⟨o,es,ep,kk _ o (cG fz.2.1) (cG fTO.2.1) (cG f1.2.1) (cG f2.2.1) ho,r⟩
   ·by_cases hb:c=s.heap.objs.size
    ·subst hb
     rw [j7] at q;cases q
     exact ⟨by show 2<=sizeLine;decide,[u1,u2],.cons ru1 (.cons ru2 .nil),⟨_,et,rfl,0,rfl⟩⟩
    ·rw [j9 hb] at q
     have hh:=tne c v q
     refine (I.hok c v q).stay (λc' o hc' e=>?_) (λ_ e=>getF e) λ_ _ e=>getF e
     have hh':c'≠z/\c'≠TO/\c'≠i1/\c'≠i2:=by
      rcases hc' with e | e
      ·rw [e];exact ⟨hh.1,hh.2.1,hh.2.2.1,hh.2.2.2.1⟩
      ·have:=tne c' _ e;exact ⟨this.1,this.2.1,this.2.2.1,this.2.2.2.1⟩
     exact kk c' o hh'.1 hh'.2.1 hh'.2.2.1 hh'.2.2.2 e
  have s2:∀{c:Addr} {o:Obj},c≠z->h'.get? c=some o->h2.get? c=some o:=λn e=>(sb.2 _ n).trans e
  refine ⟨.ref s.heap.objs.size,_,I1,rfl,⟨_,x,y,rfl,hn,rfl,λys' hy'=>by rw [Xf I hy' hq1];exact hx,λys' hy'=>by rw [Xf I hy' hq2];exact hy⟩,⟨u1,u2,q1,kk _ _ D.TIz D.TITO D.TIi1 D.TIi2 t2,s2 D.TOz o2,o3.at λo e=>s2 D.i1z e,o4.at λo e=>s2 D.i2z e⟩,λc hc'=>?_⟩
  have hl:c<s.heap.objs.size:=by
   simp only [fE,fj,or_false] at hc'
   rcases hc' with rfl | rfl | rfl | rfl | rfl
   ·exact hzl
   ·exact aw t2
   ·exact aw t3
   ·obtain ⟨o,e,_⟩:=t4.obj;exact aw e
   ·obtain ⟨o,e,_⟩:=t5.obj;exact aw e
  rw [j9 (aB hl)]
  exact (hf c hc').1
 done:=by
  intro X hP hw hK hc i pins s σ H E I hf st hg
  subst hP hw hK
  obtain ⟨a,b,t1,t2,t3,t4,t5⟩:=st
  obtain ⟨xs,ys,hq1,hq2,hend⟩:=hg
  obtain ⟨its1,rv1,p1,_⟩:=YA I hq1
  obtain ⟨its2,rv2,p2,_⟩:=YA I hq2
  have e1:=rv1.length
  have e2:=rv2.length
  have fz:=hf z (by simp)
  have fTO:=hf TO (by simp)
  have f1:=hf i1 (by simp)
  have f2:=hf i2 (by simp)
  have tne:∀c o,H c=some o->c≠z/\c≠TO/\c≠i1/\c≠i2:=λc o q=>⟨λe=>(by rw [e,fz.1] at q;cases q),λe=>(by rw [e,fTO.1] at q;cases q),λe=>(by rw [e,f1.1] at q;cases q),λe=>(by rw [e,f2.1] at q;cases q)⟩
  have nin:∀{c:Addr},c∉[z,TO,i1,i2]->c≠z/\c≠TO/\c≠i1/\c≠i2:=λ{c} h=>by simpa using h
  refine GQ (I.ok.hd hc) D (Qb D.l1i1) (Qb D.l2i2) t1 t2 t3 ⟨t4,p1⟩ ⟨t5,p2⟩ ?_ λh' kk=>⟨rfl,?_⟩
  ·rcases hend with h | h
   ·exact .inl (by simp;omega)
   ·exact .inr (by simp;omega)
  ·refine I.step (g':=s.gens) (d':=s.drawn) (t':=s.toks) (ch:=[z,TO,i1,i2]) (λc hc'=>?_) (λc o _ _ hc' e _=>kk c o (nin hc').1 (nin hc').2.1 (nin hc').2.2.1 (nin hc').2.2.2 e) (λc o _ _ hc' e _=>⟨o.slots,kk c o (nin hc').1 (nin hc').2.1 (nin hc').2.2.1 (nin hc').2.2.2 e⟩)
    (λ_ _ _ _ n=>n) (λc o hc' e=>⟨o,kk c o (nin hc').1 (nin hc').2.1 (nin hc').2.2.1 (nin hc').2.2.2 e⟩) (λ_ _ q=>q) (λ_ _ _ q=>q) (λc ps q=>⟨#[],by rw [q];simp⟩) (λm hm=>?_) (λc v q=>?_) I.bare
   ·simp only [fE,fj,or_false] at hc'
    rcases hc' with rfl | rfl | rfl | rfl
    ·exact ⟨fz.2.2.2.1,fz.2.1,fz.2.2.2.2.1,fz.2.2.2.2.2⟩
    ·exact ⟨fTO.2.2.2.1,fTO.2.1,fTO.2.2.2.2.1,fTO.2.2.2.2.2⟩
    ·exact ⟨f1.2.2.2.1,f1.2.1,f1.2.2.2.2.1,f1.2.2.2.2.2⟩
    ·exact ⟨f2.2.2.2.1,f2.2.1,f2.2.2.2.2.1,f2.2.2.2.2.2⟩
   ·obtain ⟨o,es,ep,ho,r⟩:=hm
    exact ⟨o,es,ep,kk _ o (cG fz.2.1) (cG fTO.2.1) (cG f1.2.1) (cG f2.2.1) ho,r⟩
   ·have hh:=tne c v q
    refine (I.hok c v q).stay (λc' o hc' e=>?_) (λ_ e=>e) λ_ _ e=>e
    have hh':c'≠z/\c'≠TO/\c'≠i1/\c'≠i2:=by
     rcases hc' with e | e
     ·rw [e];exact hh
     ·exact tne c' _ e
    exact kk c' o hh'.1 hh'.2.1 hh'.2.2.1 hh'.2.2.2 e
 self:=λ_ _ _ _ _ ⟨_,_,t1,_⟩ h=>pN t1 h
section
variable {X:Cx}
noncomputable def GZ (K:ah) (ta:TA):TI:=λσ H R=>ta σ H λvs H1=>∃t u a b,vs=[.ref a,.ref b]/\(∃xs,SqK t K H1 a xs)/\(∃ys,SqK u K H1 b ys)/\R (Xh K t u a b) H1
theorem Yo {x1:Nat}{l r:Expr}{p:Pos}(K:ah) (hg:Gl X "zip") (hm:X.mg "zip" = none) (ha:PA X [l,r] ta) (hs:aJ [l,r] X.env=(false,eval l X.env)::aJ [r] X.env:=by rfl) (hs2:(cp pos (aJ [r] X.env)).any (·.1)=false:=by rfl) (hK:X.K=K:=by rfl) :
  PI X (.Tuple es x1 tpos) (.Call (.Name "zip" p) [l,r] [] pos) (GZ K ta):=by
 subst hK
 intro pins s σ H R I h
 refine Call_ (vh I hg hm boot_zip (cH (thn ↥67 λus s1 ⟨vs,H1,I1,r1,q1⟩=>?_) hs hs2))
 obtain ⟨t,t2,a,b,e,⟨xs,hq⟩,⟨ys,hq2⟩,q⟩:=q1
 subst e
 obtain ⟨u,u2,rfl,ru,ru2⟩:=XA r1
 cases ru
 cases ru2
 obtain ⟨its,rv,pl,_⟩:=YA I1 hq
 obtain ⟨its2,rv2,pl2,_⟩:=YA I1 hq2
 refine WO pl pl2 λh' z1 z2 z3 z4 z5 kk=>?_
 refine pN z1 ?_
 have I2:Inv X pins σ H1 { s1 with heap:=h',toks:=s1.toks }:=I1.kept kk
 have la:a<s1.heap.objs.size:=pl.lt
 have lb:b<s1.heap.objs.size:=pl2.lt
 have D:mQ (s1.heap.objs.size+4) (s1.heap.objs.size+2) (s1.heap.objs.size+3) s1.heap.objs.size (s1.heap.objs.size+1) a b:=by
  constructor <;> first | exact aB la | exact aB lb | exact aB (aK la (dQ _ _)) | exact aB (aK lb (dQ _ _)) | (apply aB;omega) | (apply cJ;omega)
 refine ⟨_,[s1.heap.objs.size+4,s1.heap.objs.size+2,s1.heap.objs.size+3,s1.heap.objs.size,s1.heap.objs.size+1],_,_,H1,rfl,I2,Vb D,⟨.none,.none,z1,z2,z3,z4,z5⟩,λc hc=>?_,q⟩
 have hle:s1.heap.objs.size<=c:=by
  simp only [fE,fj,or_false] at hc
  rcases hc with rfl | rfl | rfl | rfl | rfl
  ·exact dQ _ _
  ·exact dQ _ _
  ·exact dQ _ _
  ·exact av _
  ·exact dQ _ _
 exact I1.fpOk hle (I1.hok.fresh hle)
end
theorem JC {K:ah}{t0 u0:Bool}{xs ys:List V}{g:TG}{ti:TT}{te:TE}{R:Hp->Prop}{σ:St}{H:Hp}(hl2:xs.length=ys.length) (Pv:Nat->St->Hp->Prop) (h0:Pv 0 σ H) (hl:∀i σ H,i<=xs.length->Pv i σ H->SqK t0 K H a xs/\SqK u0 K H b ys)
  (hs:∀i x y σ H t,xs[i]? = some x->ys[i]? = some y->Pv i σ H->H t=none->g (.ref t) σ (upd H t (.tup [x,y])) λσ3 H3=>ti σ3 H3 λok H4=>if ok=true then te σ3 H4 λv H5=>∃zs,H5 acc=some (.lst zs)/\zs.length<sizeLine/\Pv (i+1) σ3 (upd H5 acc (.lst (zs++[v]))) else Pv (i+1) σ3 H4)
  (hd:∀σ H,Pv xs.length σ H->R H) :
  ∃W:Nat->Nat->St->Hp->Prop,↥84/\∀i m σ' H',W i m σ' H' ->
   ((Xh K t0 u0 a b).stop i H'/\R H')\/((Xh K t0 u0 a b).go i H'/\∃NX:St->Hp->Prop,↥17 /\
    ∀x H2,(Xh K t0 u0 a b).yld i H' x H2->g x σ' H2 λσ3 H3=>ti σ3 H3 λok H4=>if ok=true then te σ3 H4 λv H5=>∃zs,H5 acc=some (.lst zs)/\zs.length<sizeLine/\NX σ3 (upd H5 acc (.lst (zs++[v]))) else NX σ3 H4):=by
 refine ⟨λi m σ H=>m=xs.length-i/\i<=xs.length/\Pv i σ H,⟨xs.length,by simp,aP _,h0⟩,?_⟩
 rintro i m σ H ⟨rfl,hi,p⟩
 obtain ⟨q,q2⟩:=hl i σ H hi p
 by_cases hlt:i<xs.length
 ·refine .inr ⟨⟨xs,ys,xs[i],ys[i]'∅,q,q2,by simp [hlt],ag ∅⟩,Pv (i+1),λσ' H' p'=>⟨xs.length-(i+1),∅,rfl,hlt,p'⟩,λv H' y=>?_⟩
  obtain ⟨t,x,y',rfl,hn,rfl,y1,y2⟩:=y
  exact hs i x y' σ H t (y1 xs q) (y2 ys q2) p hn
 ·have e:i=xs.length:=∅
  subst e
  exact .inl ⟨⟨xs,ys,q,q2,.inl (av _)⟩,hd σ H p⟩
end L2
end
section
namespace L2
open PySem.W
mutual
inductive Dat (H:Hp):V->PyData->Prop
 | non:Dat H .non .none
 | bl (b:Bool):Dat H (.bl b) (.bool b)
 | int (i:Int):Dat H (.int i) (.int i)
 | str (x:Str):Dat H (.str x) (.str x)
 | tup {p:Addr} {vs:List V} {ds:List PyData}:H p=some (.tup vs)->DatL H vs ds->Dat H (.ref p) (.tuple ds)
 | lst {p:Addr} {vs:List V} {ds:List PyData}:H p=some (.lst vs)->DatL H vs ds->Dat H (.ref p) (.list ds)
inductive DatL (H:Hp):List V->List PyData->Prop
 | nil:DatL H [] []
 | cons {v:V} {vs:List V} {d:PyData} {ds:List PyData}:Dat H v d->DatL H vs ds->DatL H (v::vs) (d::ds)
end
mutual
theorem Dat.ext (x:VN M H H') (hM:∀c,M c->∀vs,H c≠some (.lst vs)/\H c≠some (.tup vs)):∀{v:V}{d:PyData},Dat H v d->Dat H' v d
 | _,_,.non=>.non
 | _,_,.bl b=>.bl b
 | _,_,.int i=>.int i
 | _,_,.str y=>.str y
 | _,_,.tup h r=>.tup (x _ _ h λz=>(hM _ z _).2 h) (DatL.ext x hM r)
 | _,_,.lst h r=>.lst (x _ _ h λz=>(hM _ z _).1 h) (DatL.ext x hM r)
theorem DatL.ext (x:VN M H H') (hM:∀c,M c->∀vs,H c≠some (.lst vs)/\H c≠some (.tup vs)):∀{vs:List V}{ds:List PyData},DatL H vs ds->DatL H' vs ds
 | _,_,.nil=>.nil
 | _,_,.cons h r=>.cons (Dat.ext x hM h) (DatL.ext x hM r)
end
theorem Dat.same (s:jn H H') (h:Dat H v d):Dat H' v d:=h.ext (M:=λ_=>False) (VN.of_same s) (λ_ z=>z.elim)
theorem DatL.length :∀{vs:List V}{ds:List PyData},DatL H vs ds->vs.length=ds.length
 | _,_,.nil=>rfl
 | _,_,.cons _ r=>congrArg Nat.succ r.length
theorem DatL.get :∀{vs:List V}{ds:List PyData}{i:Nat}{v:V},DatL H vs ds->vs[i]? = some v->∃d,ds[i]? = some d/\Dat H v d
 | _,_,_,_,.nil,e=>by simp at e
 | _,_,0,_,.cons r _,e=>by simp at e;subst e;exact ⟨_,rfl,r⟩
 | _,_,i+1,v,.cons _ t,e=>by
  obtain ⟨d,h1,h2⟩:=DatL.get (i:=i) (v:=v) t (by simpa using e)
  exact ⟨d,by simpa using h1,h2⟩
theorem DatL.ints :∀(ns:List Int),DatL H (ns.map V.int) (ns.map om)
 | []=>.nil
 | n::ns=>.cons (.int n) (DatL.ints ns)
noncomputable def qM:Nat->PyData->Bool
 | 0,_=>false
 | _+1,.none=>true
 | _+1,.bool _=>true
 | _+1,.int _=>true
 | _+1,.str _=>true
 | n+1,.list ds=>decide (ds.length<=1000) && ds.all (qM n)
 | n+1,.tuple ds=>decide (ds.length<=1000) && ds.all (qM n)
 | _+1,_=>false
noncomputable def YG (n:Nat):Sp:=λvs H Q _=>∃(x y:V) (d:PyData),vs=[x,y]/\Dat H x d/\Dat H y d/\qM n d=true/\∀H',jn H H'->Q (.bl true) H'
theorem kL {n:Nat}{ns:List Int}:(ns.map om).all (qM (n+1))=true:=by
 rw [bB]
 intro x hx
 obtain ⟨i,_,rfl⟩:=List.mem_map.mp hx
 rfl
theorem zt {n:Nat}{ds:List PyData}(h:ds.length<=1000) (a:ds.all (qM n)=true):qM (n+1) (.list ds)=true:=by
 show (decide (ds.length<=1000) && ds.all (qM n))=true
 rw [decide_eq_true h,a];rfl
theorem Je {n:Nat}{ds:List PyData}(h:ds.length<=1000) (a:ds.all (qM n)=true):qM (n+1) (.tuple ds)=true:=by
 show (decide (ds.length<=1000) && ds.all (qM n))=true
 rw [decide_eq_true h,a];rfl
theorem XO (K:ah):aG K (.type "str") (.type "bool")=some false:=(qq K _ _).trans ↥49
theorem Zw (K:ah):aG K (.type "str") (.type "int")=some false:=(qq K _ _).trans ↥49
theorem gq (K:ah):aG K (.type "str") (.type "str")=some true:=(qq K _ _).trans ↥49
end L2
end
section
namespace L2
open PySem.W
noncomputable def Two (vs:Array ak) (a0:ak):Prop:=vs[0]? = some a0/\vs[2]? = some .none
theorem Two.put (t:Two vs a0) (x:ak):Two (vs.setIfInBounds 1 x) a0 :=
 ⟨by rw [i5 ⋯];exact t.1,by rw [i5 ⋯];exact t.2⟩
theorem VA (o:Obj) (f:Array ak->Array ak):(o.mapFields f).dict=o.dict:=by
 obtain ⟨c,d,dt,sl⟩:=o
 cases dt <;> rfl
noncomputable def OnT (h B:Heap) (e:Addr) (cls a0 fl:ak):Prop :=
 ∃oe vs T oT ts,h.get? e=some oe/\(oe.cls=cls/\Two vs a0/\oe.dict=none)/\oe.data = .fields vs/\vs[1]? = some (.ref T)/\B.get? T=none/\T≠e/\h.get? T=some oT/\oT.data = .fields ts/\ts[3]? = some fl
section
variable {M:Model}{A:br}{E:ak->Shared->Prop}{s:Shared}{B:Heap}{env:Env}{outer l:List Env}{L e:Addr}{cls a0 fl:ak}{Q:Unit->Shared->Prop}
theorem yM (st:B.StaysIn s.heap) (fu:s.heap.FunFrames B l) (on:OnT s.heap B e cls a0 fl)
  (k:∀g,B.StaysIn g->g.FunFrames B l->OnT g B e cls a0 .none->(∀b o,s.heap.get? b=some o->(∀vs,o.data≠.fields vs)->g.get? b=some o)->Q () { s with heap:=g }):az M A (setFlight (.ref e) none) Q E s:=by
 obtain ⟨oe,vs,T,oT,ts,ge,gc,gd,g1,gB,gn,gT,gD,g3⟩:=on
 have z3:3<ts.size:=(Array.getElem?_eq_some_iff.mp g3).1
 have ot:∀b,b≠T->(s.heap.update T (eM (·.setIfInBounds 3 ((none:Option Addr).elim aT λf=>c6 f)))).get? b=s.heap.get? b:=λb hb =>
  bS _ _ hb.symm
 have nr:∀{b o},s.heap.get? b=some o->(∀vs,o.data≠.fields vs)->b≠T:=λhb hn q=>by
  rw [q,gT] at hb
  cases hb
  exact hn ts gD
 unfold setFlight
 refine aa (bw ge gd g1 ?_)
 rw [if_pos (by simp)]
 refine f7 gT gD z3 (k _ (λb o hb=>?_) (fu.of_keeps λb o hb hn=>⟨o,?_,rfl⟩) ?_ λb o hb hn=>?_)
 ·rw [ot b λq=>by rw [q,gB] at hb;cases hb]
  exact st b o hb
 ·rw [ot b (nr hb hn)]
  exact hb
 ·refine ⟨oe,vs,T,_,_,?_,gc,gd,g1,gB,gn,dw _ gT (eQ (ef gD _)),ef gD _,by simp [z3]⟩
  rw [ot e gn.symm]
  exact ge
 ·rw [ot b (nr hb hn)]
  exact hb
theorem XH {nx:Bool}(fr:A.frames=some (env::outer)) (fu:s.heap.FunFrames B (env::outer)) (hL:env.frame=some L) (ge:s.heap.get? e=some oe) (st:B.StaysIn s.heap) (ne:B.get? e=none) (gd:oe.data = .fields vs)
  (z1:1<vs.size) (tw:Two vs a0) (dn:oe.dict=none) (k:∀g,B.StaysIn g->g.FunFrames B (env::outer)->OnT g B e oe.cls a0 (c6 L)->s.heap.UpToSlots g->Q () { s with heap:=g }) :
  az M A (do let a <- frameOf env;let pl <- entryPlaceOf L nx;let b <- nv head a .none (c6 L) .none pl;setField (.ref e) 1 b) Q E s:=by
 have out:e∉(env::outer).filterMap (·.frame):=λq=>by
  obtain ⟨_,o,ho,hn⟩:=fu.mem q
  rw [ge] at ho
  cases ho
  exact hn vs gd
 refine aa (wpAny_frameOf_fun fr fu hL λg1 so=>?_)
 refine aa (wpAny_entryPlaceOf λpl sh=>?_)
 unfold nv newFields
 refine aa (bx ?_ (sh.sizeOk5 _ _ _ _ _))
 have e1:g1.get? e=some oe:=(so.2.1 e out).trans ge
 have s1:B.StaysIn g1:=λb o hb=>(so.2.1 b λq=>by rw [(fu.mem q).1] at hb;cases hb).trans (st b o hb)
 generalize hnew:({ cls:=.type "traceback",dict:=none,data:=.fields ([head,.ref L,.none,c6 L,.none]++(if pl.isEmpty then dq 6 aT else pl)).toArray }:Obj)=new
 have nd:new.data = .fields ([head,.ref L,.none,c6 L,.none]++(if pl.isEmpty then dq 6 aT else pl)).toArray:=by rw [<- hnew]
 have e2:=aj (h:=g1) new e1
 refine f7 e2 gd z1 ?_
 have Te:g1.objs.size≠e:=cJ (aw e1)
 have d3:=ef gd (·.setIfInBounds 1 (aS g1.objs.size))
 have e3:=dw (eM (·.setIfInBounds 1 (aS g1.objs.size))) e2 (eQ d3)
 have T3:((g1.push new).update e (eM (·.setIfInBounds 1 (aS g1.objs.size)))).get? g1.objs.size=some new:=by
  rw [bS _ _ Te.symm]
  exact aA g1 (eQ nd)
 have kp:∀{b o},b≠e->g1.get? b=some o->((g1.push new).update e (eM (·.setIfInBounds 1 (aS g1.objs.size)))).get? b=some o:=λhb q=>by
  rw [bS _ _ hb.symm]
  exact aj _ q
 have nr:∀{b o},s.heap.get? b=some o->(∀vs,o.data≠.fields vs)->b≠e:=λhb hn q=>by
  rw [q,ge] at hb
  cases hb
  exact hn vs gd
 refine k _ (λb o hb=>kp (λq=>by rw [q,ne] at hb;cases hb) (s1 b o hb)) (fu.of_keeps λb o hb hn=>?_) ?_ λb o hb hn=>?_
 ·obtain ⟨sl,hs⟩:=so.2.2 b o hb
  exact ⟨_,kp (nr hb hn) hs,rfl⟩
 ·exact ⟨_,_,g1.objs.size,_,_,e3,⟨pe _ _,tw.put _,(VA _ _).trans dn⟩,d3,by simp [z1],s1.fresh,Te,T3,nd,by first | (simp;done) | (rcases sh with rfl | ⟨_,_,_,_,_,_,_,rfl⟩ <;> simp)⟩
 ·obtain ⟨sl,hs⟩:=so.2.2 b o hb
  exact ⟨sl,kp (nr hb hn) hs⟩
theorem ZW (fr:A.frames=some (env::outer)) (fu:s.heap.FunFrames B (env::outer)) (hL:env.frame=some L) (on:OnT s.heap B e cls a0 .none) (st:B.StaysIn s.heap) (ne:B.get? e=none)
  (k:∀g,B.StaysIn g->g.FunFrames B (env::outer)->OnT g B e cls a0 (c6 L)->s.heap.UpToSlots g->Q () { s with heap:=g }):az M A (iQ (.ref e) env) Q E s:=by
 obtain ⟨oe,vs,T,oT,ts,ge,⟨rfl,tw,dn⟩,gd,g1,gB,gn,gT,gD,g3⟩:=on
 unfold iQ
 simp only [hL]
 refine aa (bw ge gd g1 ?_)
 rw [if_pos (by simp)]
 refine aa (bw gT gD g3 ?_)
 rw [if_neg (by simp [c6])]
 refine aa (f7 gT gD (Array.getElem?_eq_some_iff.mp g3).1 ?_)
 have ot:∀b,b≠T->(s.heap.update T (eM (·.setIfInBounds 3 aT))).get? b=s.heap.get? b:=λb hb =>
  bS _ _ hb.symm
 have nr:∀{b o},s.heap.get? b=some o->(∀vs,o.data≠.fields vs)->b≠T:=λhb hn q=>by
  rw [q,gT] at hb
  cases hb
  exact hn ts gD
 refine XH (oe:=oe) (vs:=vs) (a0:=a0) fr (fu.of_keeps λb o hb hn=>⟨o,?_,rfl⟩) hL ?_ (λb o hb=>?_) ne gd (Array.getElem?_eq_some_iff.mp g1).1 tw dn λg k1 k2 k3 k4=>k g k1 k2 k3 λb o hb hn=>?_
 ·exact (ot b (nr hb hn)).trans hb
 ·exact (ot e gn.symm).trans ge
 ·exact (ot b λq=>by rw [q,gB] at hb;cases hb).trans (st b o hb)
 ·exact k4 b o ((ot b (nr hb hn)).trans hb) hn
theorem Ue (fr:A.frames=some (env::outer)) (fu:s.heap.FunFrames B (env::outer)) (hL:env.frame=some L) (on:OnT s.heap B e cls a0 .none) (st:B.StaysIn s.heap) (ne:B.get? e=none)
  (k:∀g,B.StaysIn g->g.FunFrames B (env::outer)->OnT g B e cls a0 .none->s.heap.UpToSlots g->Q () { s with heap:=g }):az M A (nh env (.ref e)) Q E s:=by
 unfold nh
 refine aa (ZW fr fu hL on st ne λg k1 k2 k3 k4=>?_)
 exact yM (s:={ s with heap:=g }) k1 k2 k3 λg' m1 m2 m3 m4=>k g' m1 m2 m3 (k4.trans λb o hb hn=>⟨o.slots,m4 b o hb hn⟩)
theorem Z8 (fr:A.frames=some (env::outer)) (hL:env.frame=some L) (st:B.StaysIn h) (fu:h.FunFrames B (env::outer)) (hx:mU h s.heap e cls args)
  (k:∀g t,B.StaysIn g->g.FunFrames B (env::outer)->OnT g B e cls (.ref t) .none->B.get? e=none->s.heap.UpToSlots g->Q () { s with heap:=g }):az M A (nh env (.ref e)) Q E s:=by
 obtain ⟨t,ge,tn,gt⟩:=hx.there
 have new:B.get? e=none:=by
  cases q:B.get? e with
  | none=>rfl
  | some o =>
   have:=st e o q
   rw [hx.new] at this
   cases this
 unfold nh iQ
 simp only [hL]
 refine aa (aa (bw (x:=.none) ge rfl rfl ?_))
 rw [if_neg ⋯]
 refine XH (a0:=.ref t) fr (fu.of_keeps λb o hb _=>⟨o,hx.keeps b o hb,rfl⟩) hL ge (λb o hb=>hx.keeps b o (st b o hb)) new rfl (by simp) ⟨rfl,rfl⟩ rfl λg k1 k2 k3 k4=>?_
 exact yM (s:={ s with heap:=g }) k1 k2 k3 λg' m1 m2 m3 m4=>k g' t m1 m2 m3 new (k4.trans λb o hb hn=>⟨o.slots,m4 b o hb hn⟩)
end
end L2
end
section
namespace L2
open PySem.W
structure Fly (g:Heap) (H:Hp) (h:Heap) (a:Addr) (cls fl:ak):Prop where
 na:g.get? a=none
 ha:H a=none
 ob:∃oe vs T oT ts a0,h.get? a=some oe/\(oe.cls=cls/\Two vs a0/\oe.dict=none)/\oe.data = .fields vs/\vs[1]? = some (.ref T)/\g.get? T=none/\H T=none/\T≠a/\h.get? T=some oT/\oT.data = .fields ts/\ts[3]? = some fl
theorem Fly.mono {g g':Heap}(f:Fly g H h a cls fl) (l:∀b o,g'.get? b=some o->∃o',g.get? b=some o'):Fly g' H h a cls fl:=by
 have no:∀{b},g.get? b=none->g'.get? b=none:=λ{b} e=>by
  cases q:g'.get? b with
  | none=>rfl
  | some o =>
   obtain ⟨o',e'⟩:=l b o q
   rw [e] at e'
   cases e'
 obtain ⟨oe,vs,T,oT,ts,a0,h1,h2,h3,h4,h5,h6⟩:=f.ob
 exact ⟨no f.na,f.ha,oe,vs,T,oT,ts,a0,h1,h2,h3,h4,no h5,h6⟩
noncomputable def CX1 (P:Program) (w:bp):CXT:=λouter H s E e s' =>
 ∃a cls H',e = .ref a/\s'.os=s.os/\ij s'.gens/\Un (frs outer) [] H H' s.heap s'.heap/\HOk P w H' s'.heap/\Fly s.heap H' s'.heap a cls .none/\E cls none H'
noncomputable def zd (X:Cx) (pins:List (Addr×Obj)) (σ:St) (H':Hp) (s1:Shared) (a:Addr) (cls fl:ak):Prop :=
 ∃s H,Inv X pins σ H s/\s1.os=s.os/\ij s1.gens/\Un (frs X.stack) [] H H' s.heap s1.heap/\HOk X.prog X.w H' s1.heap/\Fly s.heap H' s1.heap a cls fl
theorem kg (x:qv P w H h a o):∃ob,h.get? a=some ob:=by
 cases o with
 | lst xs=>obtain ⟨_,_,_,_,e⟩:=x;exact ⟨_,e⟩
 | tup xs=>obtain ⟨_,_,_,ob,e,_⟩:=x;exact ⟨_,e⟩
 | dK kvs=>obtain ⟨_,_,_,_,ob,_,_,e,_⟩:=x;exact ⟨_,e⟩
 | dT kvs=>obtain ⟨_,_,_,_,ob,_,_,e,_⟩:=x;exact ⟨_,e⟩
 | set S n=>obtain ⟨ob,_,_,_,e,_⟩:=x;exact ⟨_,e⟩
 | ins C dx fs=>obtain ⟨_,_,_,e,_⟩:=x;exact ⟨_,e⟩
 | own y=>exact x
 | xd fs=>obtain ⟨_,⟨_,_,_,e,_⟩,_⟩:=x;exact ⟨_,e⟩
 | rng lo hi=>obtain ⟨_,_,_,e⟩:=x;exact ⟨_,e⟩
 | frz ob u=>obtain ⟨e,_⟩:=x;exact ⟨_,e⟩
 | tbl ps=>exact ⟨_,(show h.get? a=some _ from x)⟩
 | met f y=>exact ⟨_,(show h.get? a=some _ from x)⟩
 | ext φ=>obtain ⟨_,e,_⟩:=x;exact e
section
variable {X:Cx}{pins:List (Addr×Obj)}{σ:St}{H H':Hp}{s s1:Shared}{a:Addr}{cls fl:ak}
theorem zd.inv (f:zd X pins σ H' s1 a cls fl):Inv X pins σ H' s1:=by
 obtain ⟨s,H,I,os,b,u,ok,fy⟩:=f
 exact I.call' os u ok b (λb z=>absurd z (by simp))
theorem zd.fly (hex:X.ex=[]) (f:zd X pins σ H' s1 a cls fl):Fly X.s₀.heap H' s1.heap a cls fl:=by
 obtain ⟨s,H,I,os,b,u,ok,fy⟩:=f
 exact fy.mono λc o e=>I.base.there c o e (by rw [hex];exact λz=>by cases z)
theorem zd.under (f:zd X pins σ H' s1 a cls .none):∃B a0,(B.StaysIn s1.heap/\B.get? a=none/\s1.heap.FunFrames B X.stack/\OnT s1.heap B a cls a0 .none) /\
  ∀h2 fl2,B.StaysIn h2->s1.heap.UpToSlots h2->OnT h2 B a cls a0 fl2->zd X pins σ H' { s1 with heap:=h2 } a cls fl2:=by
 have I1:=f.inv
 obtain ⟨s,H,I,os,b,u,ok,fy⟩:=f
 obtain ⟨oe,vs,T,oT,ts,a0,h1,h2,h3,h4,h5,h6,h7,h8,h9,h10⟩:=fy.ob
 have fr:=I1.stack
 have fs:∀b∈frs X.stack,b≠a/\b≠T:=λb hb=>by
  obtain ⟨_,o,ho,hn⟩:=fr.mem hb
  refine ⟨λz=>?_,λz=>?_⟩
  ·rw [z,h1] at ho;cases ho;exact hn _ h3
  ·rw [z,h8] at ho;cases ho;exact hn _ h9
 have in_:∀env∈X.stack,∀c,env.frame=some c->c∈a::T::frs X.stack:=λenv he c hc=>aH _ (aH _ (List.mem_filterMap.mpr ⟨env,he,hc⟩))
 have noB:∀{c o},s1.heap.get? c=some o->c≠a->c≠T->c∉frs X.stack->(hideAll s1.heap (a::T::frs X.stack)).get? c=some o:=λe n1 n2 n3 =>
  hideAll_get _ e (by simp only [fE,not_or];exact ⟨n1,n2,n3⟩)
 refine ⟨hideAll s1.heap (a::T::frs X.stack),a0,⟨λb o q=>of_hideAll _ q,hideAll_none _ (.head _),sr fr in_,oe,vs,T,oT,ts,h1,h2,h3,h4,hideAll_none _ (.tail _ (.head _)),h7,h8,h9,h10⟩,λhp fl2 st up tr=>?_⟩
 have lo:∀{c o},s.heap.get? c=some o->c≠a/\c≠T:=λ{c o} e=>⟨λz=>(by rw [z,fy.na] at e;cases e),λz=>(by rw [z,h5] at e;cases e)⟩
 have frn:∀{c o},s1.heap.get? c=some o->c∈frs X.stack->∀vs,o.data≠.fields vs:=λe hc=>by
  obtain ⟨_,o',ho,hn⟩:=fr.mem hc
  rw [e] at ho;cases ho;exact hn
 refine ⟨s,H,I,os,b,⟨λc o e n nf nx=>?_,λc o e n hf nx=>?_,λc o e n nx=>u.free c o e n nx,λc o e nx=>?_,u.tups,u.frzs,u.tbls⟩,λc o hc=>?_,?_⟩
 ·exact st _ _ (noB (u.keep c o e n nf nx) (lo e).1 (lo e).2 nf)
 ·obtain ⟨sl,e1⟩:=u.slot c o e n hf nx
  obtain ⟨sl2,e2⟩:=up c _ e1 (frn e1 hf)
  exact ⟨sl2,e2⟩
 ·obtain ⟨o1,e1⟩:=u.there c o e nx
  by_cases hf:c∈frs X.stack
  ·obtain ⟨sl2,e2⟩:=up c _ e1 (frn e1 hf)
   exact ⟨_,e2⟩
  ·exact ⟨o1,st _ _ (noB e1 (lo e).1 (lo e).2 hf)⟩
 ·refine (ok c o hc).stay (λc' o' hc' e=>?_) (λ_ e=>e) λ_ _ e=>e
  have hne:H' c'≠none:=by
   rcases hc' with z | z
   ·rw [z,hc];exact λy=>by cases y
   ·rw [z];exact λy=>by cases y
  exact st _ _ (noB e (λz=>hne (by rw [z];exact fy.ha)) (λz=>hne (by rw [z];exact h6)) λz=>hne (I1.stkFree _ z))
 ·obtain ⟨oe2,vs2,T2,oT2,ts2,g1,g2,g3,g4,g5,g6,g7,g8,g9⟩:=tr
  have key:T2=T\/s1.heap.get? T2=none:=by
   cases q:s1.heap.get? T2 with
   | none=>exact .inr rfl
   | some o =>
    refine .inl ?_
    by_cases hT:T2=T
    ·exact hT
    ·by_cases hf:T2∈frs X.stack
     ·obtain ⟨sl2,e2⟩:=up T2 _ q (frn q hf)
      rw [e2] at g7
      cases g7
      exact absurd g8 (frn q hf _)
     ·have:=noB q g6 hT hf
      rw [g5] at this
      cases this
  refine ⟨fy.na,fy.ha,oe2,vs2,T2,oT2,ts2,a0,g1,g2,g3,g4,?_,?_,g6,g7,g8,g9⟩
  ·rcases key with z | z
   ·rw [z];exact h5
   ·cases q:s.heap.get? T2 with
    | none=>rfl
    | some o =>
     obtain ⟨o',e'⟩:=u.there T2 o q (by simp)
     rw [z] at e'
     cases e'
  ·rcases key with z | z
   ·rw [z];exact h6
   ·cases q:H' T2 with
    | none=>rfl
    | some o =>
     obtain ⟨o',e'⟩:=kg (ok T2 o q)
     rw [z] at e'
     cases e'
theorem zd.leave {Q:Unit->Shared->Prop}(f:zd X pins σ H' s1 a cls .none) (st:X.stack=X.env::X.outer) (hf:X.env.frame=some X.env.locals)
  (k:∀h2,zd X pins σ H' { s1 with heap:=h2 } a cls .none->Q () { s1 with heap:=h2 }):az ↥6 X.A (nh X.env (.ref a)) Q E s1:=by
 obtain ⟨B,a0,fw,up⟩:=f.under
 have fr:X.A.frames=some (X.env::X.outer):=by rw [<- st];exact f.inv.ok.frames
 rw [st] at fw
 obtain ⟨f1,f2,f3,f4⟩:=fw
 exact Ue fr f3 hf f4 f1 f2 λh2 k1 k2 k3 k4=>k h2 (up h2 .none k1 k4 k3)
theorem Zp {Q:Unit->Shared->Prop}(I:Inv X pins σ H s) (hx:mU s.heap h1 a cls vs) (st:X.stack=X.env::X.outer) (hf:X.env.frame=some X.env.locals)
  (k:∀h2,zd X pins σ H { s with heap:=h2 } a cls .none->Q () { s with heap:=h2 }):az ↥6 X.A (nh X.env (.ref a)) Q E { s with heap:=h1 }:=by
 have fr:X.A.frames=some (X.env::X.outer):=by rw [<- st];exact I.ok.frames
 have fun0:=I.stack
 have in_:∀env∈X.stack,∀c,env.frame=some c->c∈frs X.stack:=λenv he c hc=>List.mem_filterMap.mpr ⟨env,he,hc⟩
 have fun1:=sr fun0 in_
 have frn:∀{c o},s.heap.get? c=some o->c∈frs X.stack->∀vs,o.data≠.fields vs:=λe hc=>by
  obtain ⟨_,o',ho,hn⟩:=fun0.mem hc
  rw [e] at ho;cases ho;exact hn
 rw [st] at fun1
 refine Z8 (s:={ s with heap:=h1 }) (B:=hideAll s.heap (frs (X.env::X.outer))) (h:=s.heap) fr hf (λb o q=>of_hideAll _ q) fun1 hx λh2 t b1 b2 fw b3 up=>?_
 rw [<- st] at fw b1
 obtain ⟨oe,ws,T,oT,ts,g1,g2,g3,g4,g5,g6,g7,g8,g9⟩:=fw
 have keepB:∀{c o},s.heap.get? c=some o->c∉frs X.stack->h2.get? c=some o:=λe n=>b1 _ _ (hideAll_get _ e n)
 have slotB:∀{c o},s.heap.get? c=some o->c∈frs X.stack->∃sl,h2.get? c=some { o with slots:=sl }:=λ{c o} e hc=>up c o (hx.keeps _ _ e) (frn e hc)
 have nT:s.heap.get? T=none:=by
  cases q:s.heap.get? T with
  | none=>rfl
  | some o =>
   exfalso
   by_cases hc:T∈frs X.stack
   ·obtain ⟨sl,e⟩:=slotB q hc
    rw [e] at g7
    cases g7
    exact frn q hc _ g8
   ·rw [hideAll_get _ q hc] at g5
    cases g5
 have hn:∀{c},s.heap.get? c=none->H c=none:=λ{c} e=>by
  cases q:H c with
  | none=>rfl
  | some o =>
   obtain ⟨o',e'⟩:=kg (I.hok c o q)
   rw [e] at e'
   cases e'
 refine k h2 ⟨s,H,I,rfl,I.bare,⟨λc o e n nf nx=>keepB e nf,λc o e n hf nx=>slotB e hf,λc o e n nx=>n,λc o e nx=>?_,λ_ _ e=>e,λ_ _ _ e=>e,λc ps e=>⟨#[],by rw [e];simp⟩⟩,λc o hc=>?_,hx.new,hn hx.new,oe,ws,T,oT,ts,.ref t,g1,g2,g3,g4,nT,hn nT,g6,g7,g8,g9⟩
 ·by_cases hc:c∈frs X.stack
  ·obtain ⟨sl,e2⟩:=slotB e hc
   exact ⟨_,e2⟩
  ·exact ⟨o,keepB e hc⟩
 ·refine (I.hok c o hc).stay (λc' o' hc' e=>?_) (λ_ e=>e) λ_ _ e=>e
  refine keepB e λz=>?_
  have:=I.stkFree _ z
  rcases hc' with y | y
  ·rw [y,hc] at this;cases this
  ·rw [y] at this;cases this
end
noncomputable def Acc (X:Cx) (J:ak->St->Hp->Prop):Prop:=∀(pins:List (Addr×Obj)) (σ:St) (H':Hp) (s1:Shared) (a:Addr) (cls:ak),zd X pins σ H' s1 a cls .none->J cls σ H'->X.xe (.ref a) s1
noncomputable def Gp (sp:Sp) (J:ak->St->Hp->Prop) (t:TA):TE:=λσ H Q=>t σ H λvs H1=>sp vs H1 Q λcls _ H'=>J cls σ H'
structure CalX (P:Program) (w:bp) (K:ah) (mg:Str->Option ak) (base:Heap) (k:Nat) (x:Str) (ps:List Str) (sp:Sp):Prop where
 ex:∃f fd,FnOk P w K mg base (CX1 P w) k f fd ps sp/\zV K fd ps []/\mg x=some (.ref f)/\bK K (.ref f)=true
theorem zO {X:Cx}{k:Nat}{e:Expr}{es:List Expr}(c:CalX X.prog X.w X.K X.mg X.base k x ps sp) (hr:Room k X.A) (ac:Acc X J) (hg:Gl X x) (ha:PA X (e::es) t)
  (hdb: ↥33=false:=by decide) (he:aJ (e::es) X.env=↥45::aJ es X.env:=by rfl) (hpl: (↥77).any (·.1)=false:=by rfl) :
  PE X ↥75 (Gp sp J t):=by
 obtain ⟨f,fd,F,hb,hm,hk⟩:=c.ex
 intro pins s σ H Q I h
 refine cU (yK I hg hm ?_ hdb)
 refine dm (h₀:=X.base) I.ok.mod.kin hk (thn ↥67 λus s1 ⟨vs,H1,I1,r,q⟩=>⟨I1.kIn,?_⟩) he hpl
 have hl:us.length=ps.length:=by rw [<- r.length];exact F.len _ _ _ _ q
 have hb':=hb s1 us I1.kIn (by rw [bj];exact hl)
 rw [bj] at hb'
 refine fK (d9 (F.run X.A X.stack s1 H1 ⟨us,[]⟩ us vs Q _ hr I1.env0 hb' r q) λr s' hq=>?_)
 cases r with
 | error e =>
  obtain ⟨a,cls,H',rfl,os,b,u,ok,fy,j⟩:=hq
  exact ac pins σ H' s' a cls ⟨s1,H1,I1,os,b,u,ok,fy⟩ j
 | ok fl =>
  cases fl with
  | ret u=>exact I1.after hq
  | next=>exact bg hq
  | brk=>exact bg hq
  | cont=>exact bg hq
theorem CalX.cal {P:Program}{w:bp}{K:ah}{mg:Str->Option ak}{base:Heap}{k:Nat}{x:Str}{sp:Sp}(c:CalX P w K mg base k x ps sp):Cal P w K mg base k x ps (λvs H Q _=>sp vs H Q E0):=by
 obtain ⟨f,fd,F,hb,hm,hk⟩:=c.ex
 refine ⟨f,fd,⟨λvs H Q E h=>F.len vs H Q E0 h,λA outer s H args us vs Q E hr he hb hv hs=>d9 (F.run A outer s H args us vs Q E0 hr he hb hv hs) λr s' q=>?_⟩,hb,hm,hk⟩
 cases r with
 | error e =>
  obtain ⟨a,cls,H',_,_,_,_,_,_,j⟩:=q
  exact bg j
 | ok fl =>
  cases fl with
  | ret u=>exact q
  | next=>exact q
  | brk=>exact q
  | cont=>exact q
theorem xE {K:ah}{E:XK} :
  Acc (vI (CX1 P w) P w K mg base N qual scope f cd A outer s H E) λcls _ H'=>E cls none H':=by
 intro pins σ H' s1 a cls fl j
 refine zd.leave (X:=vI (CX1 P w) P w K mg base N qual scope f cd A outer s H E) fl rfl rfl λh2 f2=>?_
 exact ⟨a,cls,H',rfl,f2.inv.os,f2.inv.bare,f2.inv.base,f2.inv.hok,f2.fly rfl,j⟩
noncomputable def Eo (X:Cx) (J:ak->St->Hp->Prop):Prop:=∀(pins:List (Addr×Obj)) (σ:St) (H:Hp) (s:Shared) (h1:Heap) (a:Addr) (cls:ak) (vs:List ak),Inv X pins σ H s->mU s.heap h1 a cls vs->J cls σ H->X.xe (.ref a) { s with heap:=h1 }
theorem xI {K:ah}{E:XK} :
  Eo (vI (CX1 P w) P w K mg base N qual scope f cd A outer s H E) λcls _ H'=>E cls none H':=by
 intro pins σ H' s1 h1 a cls vs I hx j
 refine Zp (X:=vI (CX1 P w) P w K mg base N qual scope f cd A outer s H E) I hx rfl rfl λh2 f2=>?_
 exact ⟨a,cls,H',rfl,f2.inv.os,f2.inv.bare,f2.inv.base,f2.inv.hok,f2.fly rfl,j⟩
theorem Gy {K:ah}{newId:String}(X:K.In h) (q:excIn K C bmB newId=true) :
  ∃bm N nm q bs hdct sn sub ab col dd k0 k1 k2 k3 k5 mN,h.get? C=some (excClassObj nm q C N bs bm hdct sn sub ab col dd k0 k1 k2 k3 k5 newId)/\h.Ns N mN/\mN "__init__" = none/\OwnTail h bmB bm:=by
 unfold excIn at q
 split at q
 ·rename_i dd cd sl ho
  split at q
  ·rename_i C' bm k0 k1 k2 k3 n k5 em es
   simp only [b9,beq_iff_eq,Bool.not_eq_true'] at q
   obtain ⟨⟨⟨⟨⟨rfl,rfl⟩,e1⟩,e2⟩,e3⟩,e4⟩:=q
   obtain ⟨nm,bs,mro,ns,qn,hd,sn,sub,ab,col,del⟩:=cd
   dsimp only at em e1 e3 e4
   subst em e1
   have e5:sl = #[k0,k1,k2,k3,some (.builtin n),k5]:=by obtain ⟨l⟩:=sl;simp only at es;rw [es]
   subst e5
   exact ⟨bm,ns,nm,qn,bs,hd,sn,sub,ab,col,dd,k0,k1,k2,k3,k5,_,X _ _ ho,.of_isNs (isNs_of_in X e3),nsMap_none_of_in X e3 e4,tail_of_in X e2⟩
  ·cases q
 ·cases q
theorem qT {X:Cx}{e:Expr}{es:List Expr}{t:TA}{C:Addr}{B newId initId:String}{J:ak->St->Hp->Prop}(FB:ExcBaseFacts B newId initId bmB) (O:excIn X.K C bmB newId=true) (hm:X.mg x=some (.ref C)) (hc:X.calm=true) (am:Eo X J)
  (hg:Gl X x) (ha:PA X (e::es) t) (hdb: ↥33=false:=by decide) (he:aJ (e::es) X.env=↥45::aJ es X.env:=by rfl) (hpl:(cp cpos (aJ es X.env)).any (·.1)=false:=by rfl) :
  PS X (.Raise (some (.Call (.Name x np) (e::es) [] cpos)) none pos) (λD σ H=>t σ H λvs H1=>vs.length<=sizeLine/\J (.ref C) σ H1):=by
 intro pins s σ H D I h
 obtain ⟨bm,N,nm,q,bs,hdct,sn,sub,ab,col,dd,k0,k1,k2,k3,k5,mN,hC,hN,hni,T⟩:=Gy I.ok.mod.kin O
 have h':=ha cpos pins s σ H _ I h
 rw [he] at h'
 refine wpAny_Raise_call_subT (C:=C) (nm:=nm) (q:=q) (N:=N) (bs:=bs) (bm:=bm) (hdct:=hdct) (sn:=sn) (sub:=sub) (ab:=ab) (col:=col) (dd:=dd) (k0:=k0) (k1:=k1) (k2:=k2) (k3:=k3) (k5:=k5)
  FB (mN:=mN) (T.hasType FB.hasBase) (I.ok.hd hc) (by rw [he];show (false || (cp cpos (aJ es X.env)).any (·.1))=false;rw [hpl];rfl) hni (yK I hg hm ⟨rfl,?_⟩ hdb)
 rw [he]
 refine eX (thn h' λus s2 ⟨vs,H2,I2,r,hl,j⟩=>⟨rfl,by rw [<- r.length];exact hl,I2.bk _ _ hC,hN.keeps I2.bk,T.keeps I2.bk,λh1 a hx=>am pins σ H2 s2 h1 a (.ref C) _ I2 hx j⟩)
theorem Fun.okX {P:Program}{w:bp}{K:ah}{mg:Str->Option ak}{base:Heap}{x:Str}{st:Stmt}{N:List Str}{k:Nat}{sp:Sp}(F:Fun K x qual st f fd) (S:FnScope N ps (ja st)) (len:∀vs H Q E,sp vs H Q E->vs.length=ps.length)
  (hbody:∀(cdv:ak) (A:br) (outer:List Env) (s:Shared) (H:Hp) (vs:List V) (Q:VK) (E:XK),Room k (A.deeper (iB qual (ja st) s.heap.objs.size f cdv))->sp vs H Q E ->
   ∃t,PSs (vI (CX1 P w) P w K mg base N qual (ja st) f cdv A outer s H E) (jQ st) t/\t { nx:=λ_ H'=>Q .non H',rt:=Q } (start N vs) H):FnOk P w K mg base (CX1 P w) (k+1) f fd ps sp:=by
 obtain ⟨oc,od,kV,doc,pm,an,cdv,ct,osl,rfl,lk,hcd⟩:=F.ex
 exact Ul lk hcd S len λA outer s H vs Q E hr hsp=>hbody cdv A outer s H vs Q E hr hsp
theorem CalX.mk' {P:Program}{w:bp}{K:ah}{mg:Str->Option ak}{base:Heap}{k:Nat}{x:Str}{ps:List Str}{st:Stmt}{f:Addr}{oc:ak}{od an:Option Addr}{osl:Array (Option ak)}{kV doc pm cdv ct:ak}
  (X:K.In h) (G:h.Ns mainGlobals mg) (a:aU K mainGlobals x=some (some (.ref f)))
  (l:K.lookup f=some ⟨oc,od,.func ↥28,osl⟩) (c:cz K cdv x=true) (k':bK K (.ref f)=true)
  (hb:∀(kV doc pm:ak) (an:Option Addr) (cdv ct:ak) (us:List ak),us.length=ps.length->cC ↥28 ⟨us,[]⟩=pure (ps.zip us))
  (ok:∀{f:Addr} {fd:FuncData},Fun K x x st f fd->FnOk P w K mg base (CX1 P w) k f fd ps sp):CalX P w K mg base k x ps sp:=by
 have F:=vt (st:=st) l c k'
 exact ⟨f,_,ok F,F.binds hb,aN X G a,k'⟩
end L2
end
section
namespace L2
open PySem.W
noncomputable abbrev Cx.atP (X:Cx) (pn:List (Addr×Obj)):Cx:={ X with pn:=pn }
noncomputable abbrev Cx.tryX (X:Cx) (pn:List (Addr×Obj)) (J:ak->St->Hp->Prop):Cx:={ X with pn:=pn,xe:=λe s1=>∃a cls σ' H',e = .ref a/\zd (X.atP pn) [] σ' H' s1 a cls .none/\J cls σ' H' }
noncomputable abbrev Cx.hand (X:Cx) (a:Addr):Cx:={ X with A:=X.A.mark (some (.ref a)),calm:=false,xe:=λ_ _=>False }
section
variable {X:Cx}{pins pn:List (Addr×Obj)}{σ:St}{H:Hp}{s:Shared}{J:ak->St->Hp->Prop}
theorem okP (ok:X.Ok) (Y:Cx) (h:Y={ X with pn:=Y.pn,xe:=Y.xe }):Y.Ok:=by
 rw [h]
 exact ⟨ok.mod,ok.kind,ok.glob,ok.blt,ok.above,ok.inj,ok.has,ok.cab,ok.hd,ok.frames,ok.stk,ok.exf,ok.bs,ok.bsz,ok.noex,ok.exfs,ok.funs,ok.frf⟩
theorem Inv.toTry (I:Inv X pins σ H s):Inv (X.tryX (X.pn++pins) J) [] σ H s :=
 ⟨okP I.ok _ rfl,I.os,I.bare,I.base,I.loc,I.cell,I.free,I.freeC,λp hp=>I.pin p (by rw [bj] at hp;exact hp),I.hok,I.len⟩
theorem Inv.ofTry (I:Inv (X.tryX pn J) pins σ H s):Inv (X.atP pn) [] σ H s :=
 ⟨okP I.ok _ rfl,I.os,I.bare,I.base,I.loc,I.cell,I.free,I.freeC,λp hp=>I.pin p (cB _ (by rw [bj] at hp;exact hp)),I.hok,I.len⟩
theorem Inv.ofP (I:Inv (X.atP (X.pn++pins)) [] σ H s):Inv X pins σ H s :=
 ⟨okP I.ok _ rfl,I.os,I.bare,I.base,I.loc,I.cell,I.free,I.freeC,λp hp=>I.pin p (by rw [bj];exact hp),I.hok,I.len⟩
theorem Inv.ofTryP (I:Inv (X.tryX (X.pn++pins) J) [] σ H s):Inv X pins σ H s:=Inv.ofP (Inv.ofTry I)
theorem Inv.toHand (a:Addr) (I:Inv X pins σ H s):Inv (X.hand a) pins σ H s :=
 ⟨⟨I.ok.mod,I.ok.kind,I.ok.glob,I.ok.blt,I.ok.above,I.ok.inj,I.ok.has,I.ok.cab,(λz=>(by cases z)),I.ok.frames,I.ok.stk,I.ok.exf,I.ok.bs,I.ok.bsz,I.ok.noex,I.ok.exfs,I.ok.funs,I.ok.frf⟩,I.os,I.bare,I.base,I.loc,I.cell,I.free,I.freeC,I.pin,I.hok,I.len⟩
theorem spOf {D:Ends}(g:∀{σ H},Inv Y pins' σ H s'->Inv X pins σ H s') (h:SP Y pins' D f s'):SP X pins D f s':=by
 cases f with
 | next=>obtain ⟨σ',H',I,q⟩:=h;exact ⟨σ',H',g I,q⟩
 | brk=>obtain ⟨σ',H',I,q⟩:=h;exact ⟨σ',H',g I,q⟩
 | cont=>obtain ⟨σ',H',I,q⟩:=h;exact ⟨σ',H',g I,q⟩
 | ret u=>obtain ⟨v,σ',H',I,r,q⟩:=h;exact ⟨v,σ',H',g I,r,q⟩
theorem ux:Acc (X.tryX pn J) J:=by
 intro pins σ H' s1 a cls f j
 obtain ⟨s,H,I,os,b,u,ok,fy⟩:=f
 exact ⟨a,cls,σ,H',rfl,⟨s,H,Inv.ofTry I,os,b,u,ok,fy⟩,j⟩
end
end L2
end
section
namespace L2
open PySem.W
section
variable {s:Shared}{A:br}{prog:Program}{w:bp}{E:ak->Shared->Prop}
end
section
variable {X:Cx}
end
end L2
end
section
namespace L2
open PySem.W
end L2
end
section
namespace L2
open PySem.W
section
variable {X:Cx}{o e:Expr}{es:List Expr}{to:TE}{t:TA}{name:Str}{apos cpos:Pos}{id:String}{r:V->List V->Hp->VK->Prop}
end
end L2
end
section
namespace L2
open PySem.W
noncomputable abbrev wK (ifs:List Expr) (env:Env):Sem Bool:=sX ifs true λc r=>if r=true then do let ok <- isTrue c env (eval c env);pure (bU ok) else pure (bU r)
noncomputable abbrev xF (elt tg iter tg2 iter2:Expr) (ifs ifs2:List Expr) (scope:Scope) (pos:Pos):Expr:=.ListComp elt [⟨tg,iter,ifs,0⟩,⟨tg2,iter2,ifs2,0⟩] scope pos
theorem YM (elt tg iter tg2 iter2:Expr) (ifs ifs2:List Expr) (scope:Scope) (pos:Pos) (it acc:ak) (env:Env) :
  oU ↥14 0 it acc env=(fc iter.pos >>= λ_=>fm it >>= λr=>match r with
   | none=>pure (.done .next)
   | some v=>cS tg it v >>= λ_=>i8 tg env v >>= λ_=>wK ifs env >>= λok =>
    (if ok=true then (eval iter2 env >>= λx=>fc iter2.pos >>= λ_=>cq iter2 env x >>= λx=>fe [x] (lB x) >>= λi2=>runOwn (.compStart ↥14 1 i2 acc env) env >>= λ_=>again (.compLoop ↥14 0 it acc env))
     else again (.compLoop ↥14 0 it acc env))):=by
 rfl
theorem Uk (elt tg iter tg2 iter2:Expr) (ifs ifs2:List Expr) (scope:Scope) (pos:Pos) (it acc:ak) (env:Env) :
  oU ↥14 1 it acc env=(fc iter2.pos >>= λ_=>fm it >>= λr=>match r with
   | none=>pure (.done .next)
   | some v=>cS tg2 it v >>= λ_=>i8 tg2 env v >>= λ_=>wK ifs2 env >>= λok =>
    (if ok=true then ((eval elt env >>= λx=>call (.builtin "list.append") [acc,x] >>= λ_=>pure ()) >>= λ_=>again (.compLoop ↥14 1 it acc env))
     else again (.compLoop ↥14 1 it acc env))):=by
 rfl
section
variable {s:Shared}{A:br}{prog:Program}{w:bp}{R:nW->Shared->Prop}{elt tg iter tg2 iter2:Expr}{ifs ifs2:List Expr}{scope:Scope}{pos:Pos}{it acc:ak}{env:Env}
theorem VZ (I:Nat->Shared->Prop)
  (turn:∀n s,I n s->az (aC prog w) A (fm it) (λr s₁=>match r with
   | none=>R (.ok .next) s₁
   | some v=>az (aC prog w) A (cS tg2 it v) (λ_ s₂=>az (aC prog w) A (i8 tg2 env v) (λ_ s₃=>az (aC prog w) A (wK ifs2 env) (λok s₄ =>
      if ok=true then az (aC prog w) A (eval elt env) (λx s₅=>az (aC prog w) A (call (.builtin "list.append") [acc,x]) (λ_ s₆=>∃m,m<n/\I m s₆) (λ_ _=>False) s₅) (λ_ _=>False) s₄
      else ∃m,m<n/\I m s₄) (λ_ _=>False) s₃) (λ_ _=>False) s₂) (λ_ _=>False) s₁) (λ_ _=>False) s)
  (n:Nat) (h:I n s):cW (aC prog w) A (.compLoop ↥14 1 it acc env) R s:=by
 refine oS rfl I (λn s hI=>?_) n h
 show az _ A ((oU ↥14 1 it acc env).onRaise (λx=>do iQ x env;mn x)) _ _ s
 refine r9 ?_;rw [Uk]
 refine aa (cV (aa (aX (turn n s hI) (λr s₁ h₁=>?_) λ_ _ h'=>h'.elim)))
 cases r with
 | none=>exact wpAny_pure h₁
 | some v =>
  refine aa (aX h₁ (λ_ s₂ h₂=>?_) λ_ _ h'=>h'.elim)
  refine aa ↥70
  cases ok with
  | false=>exact wpAny_pure ⟨rfl,h₄⟩
  | true=>exact aa (aa (aX h₄ (λx s₅ h₅=>aa (aX h₅ (λ_ s₆ h₆=>wpAny_pure (wpAny_pure ⟨rfl,h₆⟩)) λ_ _ h'=>h'.elim)) λ_ _ h'=>h'.elim))
theorem Vd {R:nW->Shared->Prop}(h0:cW (aC prog w) A (.compLoop ↥14 1 it acc env) R s)
  (h:az (aC prog w) A (lB it) (λi2 s'=>cW (aC prog w) A (.compLoop ↥14 1 i2 acc env) R s') (λ_ _=>False) s) :
  cW (aC prog w) A (.compStart ↥14 1 it acc env) R s:=by
 refine codeAny_of_tree ?_
 show az _ _ ((compStart ↥14 1 it acc env).onRaise (λx=>do iQ x env;fc theWindowsPlace)) _ _ s
 refine wpAny_notedAt ?_;unfold compStart;show az _ _ (ask >>= _) _ _ s
 refine aa (wpAny_askSetting (wpAny_ite ?_))
 split
 ·first | exact aa (wpAny_pure (wpAny_pure (fP rfl h0))) | exact wpAny_pure (fP rfl h0)
 ·first
   | exact aa (fL (aa (cV (aa (aX h (λi2 s' h'=>wpAny_pure (fP rfl h')) λ_ _ x=>x.elim)))))
   | (refine aa (fL ?_);show az _ _ (fc iter2.pos >>= _) _ _ s;exact aa (cV (aa (aX h (λi2 s' h'=>wpAny_pure (fP rfl h')) λ_ _ x=>x.elim))))
theorem V4 (I:Nat->Shared->Prop) (hs2:∀x,cq iter2 env x=pure x)
  (turn:∀n s,I n s->az (aC prog w) A (fm it) (λr s₁=>match r with
   | none=>R (.ok .next) s₁
   | some v=>az (aC prog w) A (cS tg it v) (λ_ s₂=>az (aC prog w) A (i8 tg env v) (λ_ s₃=>az (aC prog w) A (wK ifs env) (λok s₄ =>
      if ok=true then az (aC prog w) A (eval iter2 env) (λx s₅=>az (aC prog w) A (lB x) (λi2 s₆=>cW (aC prog w) A (.compStart ↥14 1 i2 acc env) (λr s'=>match r with | .ok _=>∃m,m<n/\I m s' | .error _=>False) s₆) (λ_ _=>False) s₅) (λ_ _=>False) s₄
      else ∃m,m<n/\I m s₄) (λ_ _=>False) s₃) (λ_ _=>False) s₂) (λ_ _=>False) s₁) (λ_ _=>False) s)
  (n:Nat) (h:I n s):cW (aC prog w) A (.compLoop ↥14 0 it acc env) R s:=by
 refine oS rfl I (λn s hI=>?_) n h
 show az _ A ((oU ↥14 0 it acc env).onRaise (λx=>do iQ x env;mn x)) _ _ s
 refine r9 ?_;rw [YM]
 refine aa (cV (aa (aX (turn n s hI) (λr s₁ h₁=>?_) λ_ _ h'=>h'.elim)))
 cases r with
 | none=>exact wpAny_pure h₁
 | some v =>
  refine aa (aX h₁ (λ_ s₂ h₂=>?_) λ_ _ h'=>h'.elim)
  refine aa ↥70
  cases ok with
  | false=>exact wpAny_pure ⟨rfl,h₄⟩
  | true =>
   refine aa (aX h₄ (λx s₅ h₅=>aa (cV (aa (mP (hs2 x) (aa (bD (aX h₅ (λi2 s₆ h₆=>aa (wpAny_runOwn ?_)) λ_ _ h'=>h'.elim))))))) λ_ _ h'=>h'.elim)
   rw [Around.mark_none]
   refine d9 h₆ λr s' q=>?_
   cases r with
   | ok f=>exact wpAny_pure ⟨rfl,q⟩
   | error e=>exact q.elim
end
noncomputable def wU (acc:Addr) (g2:TG) (ti2:TT) (te:TE) (J2:It) (NX:St->Hp->Prop) (σ3:St) (H5:Hp):Prop :=
 ∃W2:Nat->Nat->St->Hp->Prop,(∃m,W2 0 m σ3 H5)/\∀j m σ6 H6,W2 j m σ6 H6->(J2.stop j H6/\NX σ6 H6)\/(J2.go j H6/\∃NX2:St->Hp->Prop,(∀σ7 H7,NX2 σ7 H7->∃m',m'<m/\W2 (j+1) m' σ7 H7) /\
  ∀y H7,J2.yld j H6 y H7->g2 y σ6 H7 λσ8 H8=>ti2 σ8 H8 λok2 H9=>if ok2=true then te σ8 H9 λv H10=>∃ys,H10 acc=some (.lst ys)/\ys.length<sizeLine/\NX2 σ8 (upd H10 acc (.lst (ys++[v]))) else NX2 σ8 H9)
section
variable {X:Cx}{pos:Pos}
noncomputable def WD (own:Nat) (caps:List Nat) (wi:TI) (g:TG) (ti:TT) (wi2:TI) (g2:TG) (ti2:TT) (te:TE):TE:=λσ H Q=>wi σ H λJ H1=>∀acc,H1 acc=none ->
 ∃W:Nat->Nat->St->Hp->Prop,(∃m,W 0 m (yQ own caps σ) (upd H1 acc (.lst [])))/\∀i m σ' H',W i m σ' H' ->
  (J.stop i H'/\Q (.ref acc) H') \/
  (J.go i H'/\∃NX:St->Hp->Prop,↥17 /\
   ∀x H2,J.yld i H' x H2->g x σ' H2 λσ3 H3=>ti σ3 H3 λok H4=>if ok=true then wi2 σ3 H4 λJ2 H5=>wU acc g2 ti2 te J2 NX σ3 H5 else NX σ3 H4)
theorem Yu {scope:Scope}{own:Nat}{cl:List (Str×Addr)}{tg elt iter tg2 iter2:Expr}{ifs ifs2:List Expr}{g2:TG}{ti ti2:TT}{wi2:TI}{te:TE}{H:Hp}{s:Shared}{fp:List Addr}{it:Addr}
    {Q:VK} {RR:ak->Addr->nW->Shared->Prop} {E:ak->Shared->Prop}
  (hc:X.calm=true) (S:CompSc osc ON scope own N caps) (hsc:X.env.scope=osc) (hN:X.N=ON) (hcl:∀x,cl.lookup x=if (x,ba)∈scope.names then X.env.cells.lookup x else none)
  (hg:∀cl C s H ex,PG ↥10 tg g) (hif:∀cl C s H ex,hW ↥10 ifs ti) (hi2:∀cl C s H ex,PI ↥10 tg2 iter2 wi2) (hg2:∀cl C s H ex,PG ↥10 tg2 g2) (hif2:∀cl C s H ex,hW ↥10 ifs2 ti2) (he:∀cl C s H ex,PE ↥10 elt te) (hs2:∀env x,cq iter2 env x=pure x)
  (I:Inv X pins σ H s) (T:Turn X.prog X.w X.K tg J fp it tn) (st:tn 0 s.heap) (hf:∀b∈fp,yJ X pins H b)
  (hw:∀acc,H acc=none->∃W:Nat->Nat->St->Hp->Prop,(∃m,W 0 m (yQ own caps σ) (upd H acc (.lst [])))/\∀i m σ' H',W i m σ' H' ->
   (J.stop i H'/\Q (.ref acc) H')\/(J.go i H'/\∃NX:St->Hp->Prop,↥17 /\
    ∀x H2,J.yld i H' x H2->g x σ' H2 λσ3 H3=>ti σ3 H3 λok H4=>if ok=true then wi2 σ3 H4 λJ2 H5=>wU acc g2 ti2 te J2 NX σ3 H5 else NX σ3 H4))
  (fin:∀(D C:Addr) (H':Hp) (s':Shared),Inv X pins σ H' s'->BlockAt X pins H' C->(∃m,s'.heap.Ns C m)->Q (.ref D) H'->RR (.ref D) C (.ok .next) s') :
  az ↥6 X.A (oV []) (λacc s₃=>az ↥6 X.A (mH scope X.env.globals cl [] X.env.qual none .none (some X.env)) (λcenv s₄ =>
   cW ↥6 X.A (.compStart ↥14 0 (.ref it) acc { cenv with scope:=sQ scope X.env }) (RR acc cenv.locals) s₄) E s₃) E s:=by
 have hfs:∀b∈fp,b<s.heap.objs.size:=λb hb=>by
  obtain ⟨o,e,_⟩:=T.obj _ _ st b hb
  exact aw e
 refine bx (ir S.nocell (by intro y hy;simp at hy) (λh₁ hns₁ hsb₁=>?_) S.kind)
 dsimp only at hns₁ hsb₁ ⊢
 generalize hH2:s.heap.push { cls:=.type "list",dict:=none,data:=.seq ([]:List ak).toArray }=H2 at hns₁ hsb₁ ⊢
 have hCsz:H2.objs.size=s.heap.objs.size+1:=by rw [<- hH2,cx]
 have old:∀b o,s.heap.get? b=some o->h₁.get? b=some o:=λb o e=>hsb₁.extBut b o (aB (by rw [hCsz];exact c3 (aw e))) (aj _ (hH2 ▸ aj _ e))
 have eD:h₁.get? s.heap.objs.size=some { cls:=.type "list",data:=.seq #[] }:=hsb₁.extBut _ _ (aB ∅) (aj _ (hH2 ▸ aA _ rfl))
 have hDn:H s.heap.objs.size=none:=I.hok.fresh (av _)
 obtain ⟨W,⟨m0,w0⟩,turn⟩:=hw s.heap.objs.size hDn
 have hns:h₁.Ns H2.objs.size λ_=>none:=hns₁
 have I1:Inv ↥5 [] (yQ own caps σ) (upd H s.heap.objs.size (.lst [])) { s with heap:=h₁,toks:=s.toks+([]:List (Str×ak)).length } :=
  vo S hsc hN hcl I hf hfs rfl hCsz old eD hns _
 have st1:tn 0 h₁:=T.keep 0 _ _ st λb _ o e=>old b o e
 have fpB:∀{H':Hp},↥65->∀b∈fp,yJ ↥5 [] H' b:=λ{H'} hn b hb=>by
  have ok:=I1.ok
  exact ⟨hn b hb,(ok.exf b hb).1,ok.exfs b hb,.inl hb,(ok.exf b hb).2,λp hp=>absurd (show p∈([]:List (Addr×Obj)) from hp) (by simp)⟩
 have back:∀{σ':St} {H':Hp} {s':Shared},Inv ↥5 [] σ' H' s'->Q ↥19 H'->RR ↥19 H2.objs.size (.ok .next) s':=λ{σ' H' s'} J1 q=>by
  have J2:Inv X pins σ H' s':=I.call' (ch:=fp) J1.os J1.base J1.hok J1.bare λb hb=>⟨(hf b hb).2.2.2.1,(hf b hb).2.1,(hf b hb).2.2.2.2.1,(hf b hb).2.2.2.2.2⟩
  obtain ⟨m,hm,_⟩:=J1.loc
  refine fin _ _ H' s' J2 ⟨J1.free,cJ (aK I.lt ∅),aE I.sz ∅,λx c e z=>?_,λp hp z=>?_⟩ ⟨m,hm⟩ q
  ·obtain ⟨v,y⟩:=I.cell x c e
   have h1:H2.objs.size<s.heap.objs.size:=z ▸ y.lt
   exact absurd h1 ∅
  ·have h1:H2.objs.size<s.heap.objs.size:=z ▸ aw (I.pin p hp).1
   exact absurd h1 ∅
 have loop:∀s₃:Shared,s₃={ s with heap:=h₁,toks:=s.toks+([]:List (Str×ak)).length } ->
   cW ↥6 X.A (.compLoop ↥14 0 (.ref it) ↥19 (oR scope cl H2.objs.size X.env)) (RR ↥19 H2.objs.size) s₃:=by
  rintro s₃ rfl
  refine V4 ↥88 (hs2 _) ?_ m0
   ⟨0,_,_,I1,st1,λb hb=>by rw [j9 (aB (hfs b hb))];exact (hf b hb).1,w0⟩
  rintro n s3 ⟨i,σ3,H3,I3,st3,fr3,w3⟩
  rcases turn i n σ3 H3 w3 with ⟨stop,qn⟩ | ⟨go,NX,hNX,step⟩
  ·refine thn (T.done ↥5 rfl rfl rfl hc i [] s3 σ3 H3 _ I3 (fpB fr3) st3 stop) λr s4 ⟨hr,I4⟩=>?_
   subst hr
   exact back I4 qn
  ·refine thn (T.item ↥5 rfl rfl rfl hc i [] s3 σ3 H3 _ I3 (fpB fr3) st3 go) λr s4 ⟨u,hr,h4⟩=>?_
   subst hr
   refine thn h4 λ_ s5 ⟨x,H5,I5,r5,y5,st5,fr5⟩=>?_
   have I5':=I5.pinned (fpB fr5) (T.obj _ _ st5)
   refine thn (hg cl H2.objs.size s H fp _ s5 σ3 H5 x u _ I5' r5 (step x H5 y5)) λ_ s6 ⟨σ6,H6,I6,q6⟩=>?_
   refine thn (hif cl H2.objs.size s H fp _ s6 σ6 H6 _ I6 q6) λok s7 ⟨H7,I7,q7⟩=>?_
   have again:∀{s8:Shared} {σ8:St} {H8:Hp},Inv ↥5 ([]++zi fp s5.heap) σ8 H8 s8->NX σ8 H8->∃m,m<n/\∃i σ' H',Inv ↥5 [] σ' H' s8/\tn i s8.heap/\ ↥65/\W i m σ' H':=λ{s8 σ8 H8} I8 n8=>by
    obtain ⟨m',hm,w8⟩:=hNX σ8 H8 n8
    refine ⟨m',hm,i+1,σ8,H8,I8.unpinned,T.keep _ _ _ st5 λb hb o e=>(↥82).1,λb hb=>?_,w8⟩
    obtain ⟨o,e,d⟩:=T.obj _ _ st5 b hb
    exact (↥82).2.1
   cases ok with
   | false =>
    rw [if_neg au] at q7 ⊢
    exact again I7 q7
   | true =>
    rw [if_pos rfl] at q7 ⊢
    refine thn (hi2 cl H2.objs.size s H fp _ s7 σ6 H7 _ I7 q7) λv s8 h8=>thn h8 λitv s9 h9=>?_
    obtain ⟨it2,fp2,tn2,J2,H9,e,I9,T2,st9,f9,W2,⟨m2,w2⟩,turn2⟩:=h9
    subst e
    have stat2:∀{H':Hp},(∀b∈fp2,H' b=none)->∀b∈fp2,yJ ↥5 ([]++zi fp s5.heap) H' b:=λhn b hb=>⟨hn b hb,(f9 b hb).2⟩
    have inner:cW ↥6 X.A (.compLoop ↥14 1 (.ref it2) ↥19 (oR scope cl H2.objs.size X.env)) (λr s'=>match r with | .ok _=>∃m,m<n/\∃i σ' H',Inv ↥5 [] σ' H' s'/\tn i s'.heap/\ ↥65/\W i m σ' H' | .error _=>False) s9:=by
     refine VZ (λn2 s'=>∃j σ' H',Inv ↥5 ([]++zi fp s5.heap) σ' H' s'/\tn2 j s'.heap/\(∀b∈fp2,H' b=none)/\W2 j n2 σ' H') ?_ m2 ⟨0,_,_,I9,st9,λb hb=>(f9 b hb).1,w2⟩
     rintro n2 s10 ⟨j,σ10,H10,I10,st10,fr10,w10⟩
     rcases turn2 j n2 σ10 H10 w10 with ⟨stop2,nx2⟩ | ⟨go2,NX2,hNX2,step2⟩
     ·refine thn (T2.done ↥5 rfl rfl rfl hc j _ s10 σ10 H10 _ I10 (stat2 fr10) st10 stop2) λr s11 ⟨hr,I11⟩=>?_
      subst hr
      exact again I11 nx2
     ·refine thn (T2.item ↥5 rfl rfl rfl hc j _ s10 σ10 H10 _ I10 (stat2 fr10) st10 go2) λr s11 ⟨u2,hr,h11⟩=>?_
      subst hr
      refine thn h11 λ_ s12 ⟨x2,H12,I12,r12,y12,st12,fr12⟩=>?_
      have I12':=I12.pinned (stat2 fr12) (T2.obj _ _ st12)
      refine thn (hg2 cl H2.objs.size s H fp _ s12 σ10 H12 x2 u2 _ I12' r12 (step2 x2 H12 y12)) λ_ s13 ⟨σ13,H13,I13,q13⟩=>?_
      refine thn (hif2 cl H2.objs.size s H fp _ s13 σ13 H13 _ I13 q13) λok2 s14 ⟨H14,I14,q14⟩=>?_
      have again2:∀{s15:Shared} {σ15:St} {H15:Hp},Inv ↥5 (([]++zi fp s5.heap)++zi fp2 s12.heap) σ15 H15 s15->NX2 σ15 H15->∃m,m<n2/\∃j σ' H',Inv ↥5 ([]++zi fp s5.heap) σ' H' s15/\tn2 j s15.heap/\(∀b∈fp2,H' b=none)/\W2 j m σ' H':=λ{s15 σ15 H15} I15 n15=>by
       obtain ⟨m',hm,w15⟩:=hNX2 σ15 H15 n15
       refine ⟨m',hm,j+1,σ15,H15,I15.unpinned,T2.keep _ _ _ st12 λb hb o e=>(I15.pin (b,o) (aD _ (aD _ (qE hb e)))).1,λb hb=>?_,w15⟩
       obtain ⟨o,e,d⟩:=T2.obj _ _ st12 b hb
       exact (I15.pin (b,o) (aD _ (aD _ (qE hb e)))).2.1
      cases ok2 with
      | false =>
       rw [if_neg au] at q14 ⊢
       exact again2 I14 q14
      | true =>
       rw [if_pos rfl] at q14 ⊢
       refine thn (he cl H2.objs.size s H fp _ s14 σ13 H14 _ I14 q14) λv15 s15 ⟨y15,H15,I15,r15,ys,e15,z15,q15⟩=>?_
       refine thn (qL _ s15 σ13 H15 ↥19 [y15] _ [v15] (λ_ H16=>NX2 σ13 H16) I15 rfl (.cons r15 .nil) ⟨_,ys,y15,rfl,rfl,e15,z15,q15⟩) λ_ s16 ⟨_,H16,I16,_,q16⟩=>?_
       exact again2 I16 q16
    exact Vd inner (T2.self _ 0 _ _ _ st9 inner)
 exact fX (loop _ rfl) (T.self _ 0 _ _ _ st1 (loop _ rfl))
theorem Uc {own:Nat}(S:CompSc osc ON scope own N caps)
  (hc:X.calm=true) (hsc:X.env.scope=osc) (hN:X.N=ON) (hi:PI X tg iter wi)
  (hg:∀cl C s H ex,PG ↥10 tg g) (hif:∀cl C s H ex,hW ↥10 ifs ti) (hi2:∀cl C s H ex,PI ↥10 tg2 iter2 wi2) (hg2:∀cl C s H ex,PG ↥10 tg2 g2) (hif2:∀cl C s H ex,hW ↥10 ifs2 ti2) (he:∀cl C s H ex,PE ↥10 elt te)
  (hs:∀x,cq iter X.env x=pure x:=by intro _;rfl) (hs2:∀env x,cq iter2 env x=pure x:=by intro _ _;rfl):PE X (.ListComp elt [⟨tg,iter,ifs,0⟩,⟨tg2,iter2,ifs2,0⟩] scope pos) (WD own caps wi g ti wi2 g2 ti2 te):=by
 intro pins s σ H Q I h
 obtain ⟨cl,hclos,hcl⟩:=yB (Qa S hsc I)
 rw [nI]
 refine dJ (use:=none) rfl hs hclos S.kind S.loc ↥76
 obtain ⟨it,fp,tn,J,H2,e,I2,T,st2,f2,hw⟩:=h2
 subst e
 refine Yu (RR:=λacc C=>rX ↥6 X.A X.xe none ↥73 acc C) hc S hsc hN hcl hg hif hi2 hg2 hif2 he hs2 I2 T st2 f2 hw λD C H' s' J1 B ⟨m,hm⟩ q=>?_
 exact ⟨m,hm,λh' hs'=>⟨.ref D,H',B.gone J1 hs',rfl,q⟩⟩
end
end L2
end
section
namespace L2
open PySem.W
structure CalM (P:Program) (w:bp) (K:ah) (mg:Str->Option ak) (base:Heap) (k:Nat) (C:Addr) (m:Str) (ps:List Str) (sp:Sp):Prop where
 ex:∃f fd,FnOk P w K mg base CX0 k f fd ps sp/\zV K fd ps []/\Meth K C m f
structure CalMX (P:Program) (w:bp) (K:ah) (mg:Str->Option ak) (base:Heap) (k:Nat) (C:Addr) (m:Str) (ps:List Str) (sp:Sp):Prop where
 ex:∃f fd,FnOk P w K mg base (CX1 P w) k f fd ps sp/\zV K fd ps []/\Meth K C m f
section
variable {X:Cx}{k:Nat}{f C:Addr}{fd:FuncData}{ps:List Str}{sp:Sp}{x m:Str}{p pos apos:Pos}{e o:Expr}{es:List Expr}{ta:TE}{t:TA}{J:ak->St->Hp->Prop}
theorem E4 {pins:List (Addr×Obj)}{σ:St}{s:Shared}{Q:VK}{us:List ak}(F:FnOk X.prog X.w X.K X.mg X.base (CX1 X.prog X.w) k f fd ps sp) (hr:Room k X.A) (hb:zV X.K fd ps []) (ac:Acc X J)
  (I:Inv X pins σ H s) (r:jJ vs us) (h:sp vs H Q λcls _ H'=>J cls σ H'):az ↥6 X.A (call (.ref f) us) ↥73 X.xe s:=by
 have hl:us.length=ps.length:=by rw [<- r.length];exact F.len _ _ _ _ h
 have hb':=hb s us I.kIn (by rw [bj];exact hl)
 rw [bj] at hb'
 refine fK (d9 (F.run X.A X.stack s H ⟨us,[]⟩ us vs Q _ hr I.env0 hb' r h) λr s' hq=>?_)
 cases r with
 | error e =>
  obtain ⟨a,cls,H',rfl,os,b,u,ok,fy,j⟩:=hq
  exact ac pins σ H' s' a cls ⟨s,H,I,os,b,u,ok,fy⟩ j
 | ok fl =>
  cases fl with
  | ret u=>exact I.after hq
  | next=>exact bg hq
  | brk=>exact bg hq
  | cont=>exact bg hq
theorem pe_m (he:PE X o ta) (c:Cls X.K C) (cm:CalM X.prog X.w X.K X.mg X.base k C m ps sp) (hr:Room k X.A) (ha:PA X (e::es) t)
  (hst:aJ (e::es) X.env=↥45::aJ es X.env:=by rfl) (hpl: (↥77).any (·.1)=false:=by rfl)
  (ht:eval ↥63 X.env=(do let ov <- eval o X.env;fc apos.atName;let (f,first) <- fe [ov] (i9 ov m pl);lM pos f first (cp pos (aJ (e::es) X.env)) (ft pos (dh [] X.env))):=by rfl) :
  PE X ↥63 (ZN C m sp [] E0 ta t):=by
 obtain ⟨f,fd,F,hb,hm⟩:=cm.ex
 exact Uv he c hm F hr hb .nil Vq ha hst hpl ht
theorem Ju (he:PE X o ta) (c:Cls X.K C) (cm:CalM X.prog X.w X.K X.mg X.base k C m ps sp) (hr:Room k X.A)
  (ht:eval (.Call (.Attribute o m apos) [] [] pos) X.env=(do let ov <- eval o X.env;fc apos.atName;let (f,first) <- fe [ov] (i9 ov m pl);lM pos f first (cp pos (aJ [] X.env)) (ft pos (dh [] X.env))):=by rfl) :
  PE X (.Call (.Attribute o m apos) [] [] pos) (ZN C m sp [] E0 ta Ww):=by
 obtain ⟨f,fd,F,hb,hm⟩:=cm.ex
 exact VD he c hm F hr hb .nil Vq ht
noncomputable def Gx (C:Addr) (m:Str) (sp:Sp) (J:ak->St->Hp->Prop) (ta:TE) (t:TA):TE:=λσ H Q=>ta σ H λx H1=>∃a dx fs,x = .ref a/\H1 a=some (.ins C dx fs)/\fs.lookup m=none/\t σ H1 λvs H2=>sp (x::vs) H2 Q λcls _ H'=>J cls σ H'
theorem zf (he:PE X o ta) (c:Cls X.K C) (cm:CalMX X.prog X.w X.K X.mg X.base k C m ps sp) (hr:Room k X.A) (ac:Acc X J) (ha:PA X (e::es) t)
  (hst:aJ (e::es) X.env=↥45::aJ es X.env:=by rfl) (hpl: (↥77).any (·.1)=false:=by rfl)
  (ht:eval ↥63 X.env=(do let ov <- eval o X.env;fc apos.atName;let (f,first) <- fe [ov] (i9 ov m pl);lM pos f first (cp pos (aJ (e::es) X.env)) (ft pos (dh [] X.env))):=by rfl) :
  PE X ↥63 (Gx C m sp J ta t):=by
 obtain ⟨f,fd,F,hb,hm⟩:=cm.ex
 intro pins s σ H Q I h
 refine eO (pl:=pl) (thn ↥69 λu s1 ⟨x,H1,I1,rx,a,dx,fs,ex,ea,l,q⟩=>?_) ht
 subst ex
 obtain rfl:u=aS a:=rx
 refine yG I1 ea c hm l ?_
 refine dm (first:=[.ref a]) (h₀:=X.base) I.ok.mod.kin hm.kp (thn (ha pos pins s1 σ H1 _ I1 q) λus s2 ⟨vs,H2,I2,r,q2⟩=>⟨I2.kIn,?_⟩) hst hpl
 exact E4 (us:=.ref a::us) (vs:=.ref a::vs) F hr hb ac I2 (.cons rfl r) q2
structure MakX (P:Program) (w:bp) (K:ah) (mg:Str->Option ak) (base:Heap) (k:Nat) (C:Addr) (x:Str) (ps:List Str) (sp:Sp):Prop where
 ex:∃f fd,FnOk P w K mg base (CX1 P w) k f fd ps sp/\zV K fd ps []/\Mk K C f/\mg x=some (.ref C)
noncomputable def WR (C:Addr) (sp:Sp) (J:ak->St->Hp->Prop) (t:TA):TE:=λσ H Q=>t σ H λvs H1=>∀x dx,H1 x=none->H1 dx=none->dx≠x ->
 sp (.ref x::vs) (upd (upd H1 dx (.own x)) x (.ins C dx [])) (λv H2=>v = .non/\Q (.ref x) H2) λcls _ H'=>J cls σ H'
theorem ZV (c:MakX X.prog X.w X.K X.mg X.base k C x ps sp) (hr:Room (k+1) X.A) (ac:Acc X J) (hg:Gl X x) (ha:PA X (e::es) t) (hdb: ↥33=false:=by decide) (he:aJ (e::es) X.env=↥45::aJ es X.env:=by rfl) (hpl: (↥77).any (·.1)=false:=by rfl) :
  PE X ↥75 (WR C sp J t):=by
 obtain ⟨f,fd,F,hb,M,hm⟩:=c.ex
 intro pins s0 σ H0 Q I0 h0
 refine cU (yK I0 hg hm ?_ hdb)
 refine dm (h₀:=X.base) I0.ok.mod.kin M.kp (thn (ha pos pins s0 σ H0 _ I0 h0) λus s ⟨vs,H,I,r,h⟩=>⟨I.kIn,?_⟩) he hpl
 have hq:=h ↥21 s.heap.objs.size (I.hok.fresh (dH _)) (I.hok.fresh (av _)) (aB (ia _))
 have I2:=Inv.made (C:=C) I
 have r2:jJ (V.ref ↥21::vs) (aS ↥21::us):=.cons rfl r
 have hl:(aS ↥21::us).length=ps.length:=by rw [<- r2.length];exact F.len _ _ _ _ hq
 have hb':=hb { s with heap:=_ } (aS ↥21::us) I2.kIn (by rw [bj];exact hl)
 rw [bj] at hb'
 refine fK (Ui (f:=f) I.kIn M.makes M.init (beq_iff_eq.mp M.fn) (d9 (F.run _ X.stack _ _ ⟨aS ↥21::us,[]⟩ (aS ↥21::us) _ _ _ (hr.make C us []) (I2.env0.make C us []) hb' r2 hq) λr s' hq'=>?_))
 cases r with
 | error e =>
  obtain ⟨a,cls,H',rfl,os,b,u,ok,fy,j⟩:=hq'
  exact ac pins σ H' s' a cls ⟨_,_,I2,os,b,u,ok,fy⟩ j
 | ok fl =>
  cases fl with
  | ret u =>
   obtain ⟨v,H',I3,rv,ev,q3⟩:=I2.after hq'
   subst ev
   exact ⟨rv,⟨V.ref ↥21,H',I3,rfl,q3⟩⟩
  | next=>exact bg hq'
  | brk=>exact bg hq'
  | cont=>exact bg hq'
theorem jV {f:Str}(K:ah) (he:PE X e ta) (hb:eJ e f X.env (eval e X.env)=eval e X.env:=by rfl) (hK:X.K=K:=by rfl):PE X (.Attribute e f pos) (GK K ta f):=by subst hK;exact WC he hb
theorem zU {f:Str}(K:ah) (ha:PE X o ta) (hv:PE X value tv) (hs:iP value (some (.Attribute o f pos')) pos.line X.env=pure false:=by rfl) (hK:X.K=K:=by rfl):PS X (.Assign [.Attribute o f pos'] value pos) (En K ta tv f):=by subst hK;exact GC ha hv hs
end
theorem Go {K:ah}{xs:List V}{g2:TG}{ti2:TT}{te:TE}{NX:St->Hp->Prop}{σ:St}{H:Hp}(Pv:Nat->St->Hp->Prop) (h0:Pv 0 σ H) (hl:∀i σ H,i<=xs.length->Pv i σ H->SqT K H a xs)
  (hs:∀i x σ H,xs[i]? = some x->Pv i σ H->g2 x σ H λσ3 H3=>ti2 σ3 H3 λok H4=>if ok=true then te σ3 H4 λv H5=>∃ys,H5 acc=some (.lst ys)/\ys.length<sizeLine/\Pv (i+1) σ3 ↥31 else Pv (i+1) σ3 H4)
  (hd:∀σ H,Pv xs.length σ H->NX σ H):wU acc g2 ti2 te (Itt K a) NX σ H:=by
 refine ⟨λi m σ H=>m=xs.length-i/\i<=xs.length/\Pv i σ H,⟨xs.length,by simp,aP _,h0⟩,λi m σ H z=>?_⟩
 obtain ⟨rfl,hi,p⟩:=z
 have q:=hl i σ H hi p
 by_cases hlt:i<xs.length
 ·refine .inr ⟨⟨xs,xs[i],q,by simp [hlt]⟩,Pv (i+1),λσ' H' p'=>⟨xs.length-(i+1),∅,rfl,hlt,p'⟩,λx H' y=>?_⟩
  obtain ⟨e,y⟩:=y
  subst e
  exact hs i x σ _ (y xs q) p
 ·obtain rfl:i=xs.length:=∅
  exact .inl ⟨⟨xs,q,av _⟩,hd σ H p⟩
theorem YZ {K:ah}{acc:Addr}{xs:List V}{g g2:TG}{ti ti2:TT}{wi2:TI}{te:TE}{R:Hp->Prop}{σ:St}{H:Hp}(Pv:Nat->St->Hp->Prop) (h0:Pv 0 σ H) (hl:∀i σ H,i<=xs.length->Pv i σ H->SqT K H a xs)
  (hs:∀i x σ H,xs[i]? = some x->Pv i σ H->g x σ H λσ3 H3=>ti σ3 H3 λok H4=>if ok=true then wi2 σ3 H4 λJ2 H5=>wU acc g2 ti2 te J2 (Pv (i+1)) σ3 H5 else Pv (i+1) σ3 H4)
  (hd:∀σ H,Pv xs.length σ H->R H) :
  ∃W:Nat->Nat->St->Hp->Prop,↥84/\∀i m σ' H',W i m σ' H' ->
   ((Itt K a).stop i H'/\R H')\/((Itt K a).go i H'/\∃NX:St->Hp->Prop,↥17 /\
    ∀x H2,(Itt K a).yld i H' x H2->g x σ' H2 λσ3 H3=>ti σ3 H3 λok H4=>if ok=true then wi2 σ3 H4 λJ2 H5=>wU acc g2 ti2 te J2 NX σ3 H5 else NX σ3 H4):=by
 refine ⟨λi m σ H=>m=xs.length-i/\i<=xs.length/\Pv i σ H,⟨xs.length,by simp,aP _,h0⟩,λi m σ H z=>?_⟩
 obtain ⟨rfl,hi,p⟩:=z
 have q:=hl i σ H hi p
 by_cases hlt:i<xs.length
 ·refine .inr ⟨⟨xs,xs[i],q,by simp [hlt]⟩,Pv (i+1),λσ' H' p'=>⟨xs.length-(i+1),∅,rfl,hlt,p'⟩,λx H' y=>?_⟩
  obtain ⟨e,y⟩:=y
  subst e
  exact hs i x σ _ (y xs q) p
 ·obtain rfl:i=xs.length:=∅
  exact .inl ⟨⟨xs,q,av _⟩,hd σ H p⟩
theorem vk :Acc X λ_ _ _=>False:=λ_ _ _ _ _ _ _ z=>z.elim
end L2
end
section
namespace L2
open PySem.W
inductive gN (K:ah) (n:Str) (s:Stmt):Prop
 | mk {f:Addr} {oc kV dc pm cd ct:ak} {od an:Option Addr} {sl:Array (Option ak)} (a:nsIn K mainGlobals n=some (some (.ref f))) (l:K.lookup f=some ⟨oc,od,.func (fnOf n n (qh s) (jQ s) (ja s) .none kV dc pm an cd ct),sl⟩) (c:codeIn K cd n=true) (k:keepIn K (.ref f)=true)
inductive gM (K:ah) (C:Addr) (m q:Str) (s:Stmt):Prop
 | mk {f:Addr} {oc kV dc pm cd ct:ak} {od an:Option Addr} {sl:Array (Option ak)} (a:findIn K (.ref C) m=some (some (.ref f))) (i:isFn K (.ref f)=true) (l:K.lookup f=some ⟨oc,od,.func (fnOf m q (qh s) (jQ s) (ja s) .none kV dc pm an cd ct),sl⟩) (c:codeIn K cd q=true) (k:keepIn K (.ref f)=true)
structure gE (K:ah) (n:Str) (C:Addr):Prop where
 e:nsIn K mainGlobals n=some (some (.ref C))
 x:excIn K C [.type "ValueError",.type "Exception",.type "BaseException",.type "object"] "ValueError.__new__" = true
 m:exmOne K (.ref C) (.ref C)=some true
noncomputable abbrev gB (x q:Str) (st:Stmt) (ps:List Str):Prop:=∀(kV doc pm:ak) (an:Option Addr) (cdv ct:ak) (us:List ak),us.length=ps.length->cC (fnOf x q (qh st) (jQ st) (ja st) .none kV doc pm an cdv ct) ⟨us,[]⟩=pure (ps.zip us)
inductive Zt (P:Program) (w:bp) (K:ah) (mg:Str->Option ak) (base:Heap):Prop
 | mk {h:Heap} (X:K.In h) (G:h.Ns mainGlobals mg)
section
variable {P:Program}{w:bp}{K:ah}{mg:Str->Option ak}{base:Heap}{k:Nat}{x q:Str}{ps:List Str}{sp:Sp}{st:Stmt}{C:Addr}
theorem gN.cal (a:gN K x st) (z:Zt P w K mg base) (hb:gB x x st ps)
  (ok:∀{f:Addr} {fd:FuncData},Fun K x x st f fd->FnOk P w K mg base CX0 k f fd ps sp):Cal P w K mg base k x ps sp:=by
 obtain ⟨a,l,c,k'⟩:=a
 obtain ⟨X,G⟩:=z
 exact Cal.mk' X G a l c k' hb ok
theorem gN.calX (a:gN K x st) (z:Zt P w K mg base) (hb:gB x x st ps)
  (ok:∀{f:Addr} {fd:FuncData},Fun K x x st f fd->FnOk P w K mg base (CX1 P w) k f fd ps sp):CalX P w K mg base k x ps sp:=by
 obtain ⟨a,l,c,k'⟩:=a
 obtain ⟨X,G⟩:=z
 exact CalX.mk' X G a l c k' hb ok
theorem gM.cal (a:gM K C x q st) (z:Zt P w K mg base) (hb:gB x q st ps)
  (ok:∀{f:Addr} {fd:FuncData},Fun K x q st f fd->FnOk P w K mg base CX0 k f fd ps sp):CalM P w K mg base k C x ps sp:=by
 obtain ⟨a,i,l,c,k'⟩:=a
 have F:=vt (st:=st) l c k'
 exact ⟨_,_,ok F,F.binds hb,⟨a,i,k'⟩⟩
theorem gM.calX (a:gM K C x q st) (z:Zt P w K mg base) (hb:gB x q st ps)
  (ok:∀{f:Addr} {fd:FuncData},Fun K x q st f fd->FnOk P w K mg base (CX1 P w) k f fd ps sp):CalMX P w K mg base k C x ps sp:=by
 obtain ⟨a,i,l,c,k'⟩:=a
 have F:=vt (st:=st) l c k'
 exact ⟨_,_,ok F,F.binds hb,⟨a,i,k'⟩⟩
theorem gM.mak (a:gM K C "__init__" q st) (z:Zt P w K mg base) (m:makesIn K C=true) (kc:keepIn K (.ref C)=true) (n:nsIn K mainGlobals y=some (some (.ref C))) (hb:gB "__init__" q st ps)
  (ok:∀{f:Addr} {fd:FuncData},Fun K "__init__" q st f fd->FnOk P w K mg base (CX1 P w) k f fd ps sp):MakX P w K mg base k C y ps sp:=by
 obtain ⟨a,i,l,c,k'⟩:=a
 obtain ⟨X,G⟩:=z
 have F:=vt (st:=st) l c k'
 exact ⟨_,_,ok F,F.binds hb,⟨m,a,i,kc⟩,mg_of X G n⟩
end
theorem bnd1 {ps:List Str}{us:List ak}(hl:us.length=1) (h:∀a,cC fd ⟨[a],[]⟩=pure (ps.zip [a])):cC fd ⟨us,[]⟩=pure (ps.zip us):=match us,hl with | [a],_=>h a
theorem bnd2 {ps:List Str}{us:List ak}(hl:us.length=2) (h:∀a b,cC fd ⟨[a,b],[]⟩=pure (ps.zip [a,b])):cC fd ⟨us,[]⟩=pure (ps.zip us):=match us,hl with | [a,b],_=>h a b
theorem bnd3 {ps:List Str}{us:List ak}(hl:us.length=3) (h:∀a b c,cC fd ⟨[a,b,c],[]⟩=pure (ps.zip [a,b,c])):cC fd ⟨us,[]⟩=pure (ps.zip us):=match us,hl with | [a,b,c],_=>h a b c
theorem bnd4 {ps:List Str}{us:List ak}(hl:us.length=4) (h:∀a b c d,cC fd ⟨[a,b,c,d],[]⟩=pure (ps.zip [a,b,c,d])):cC fd ⟨us,[]⟩=pure (ps.zip us):=match us,hl with | [a,b,c,d],_=>h a b c d
theorem bnd5 {ps:List Str}{us:List ak}(hl:us.length=5) (h:∀a b c d e,cC fd ⟨[a,b,c,d,e],[]⟩=pure (ps.zip [a,b,c,d,e])):cC fd ⟨us,[]⟩=pure (ps.zip us):=match us,hl with | [a,b,c,d,e],_=>h a b c d e
theorem bnd6 {ps:List Str}{us:List ak}(hl:us.length=6) (h:∀a b c d e f,cC fd ⟨[a,b,c,d,e,f],[]⟩=pure (ps.zip [a,b,c,d,e,f])):cC fd ⟨us,[]⟩=pure (ps.zip us):=match us,hl with | [a,b,c,d,e,f],_=>h a b c d e f
end L2
end
section
namespace L2
open PySem.W
theorem gW:entryFor table "proto.unchain" = some fH.«proto.unchain»:=entryFor_of_fast (by kernel_rfl)
noncomputable def JG (A:br) (h:Heap):Prop:=∃e oe ws,A.handled=some (.ref e)/\h.get? e=some oe/\oe.data = .fields ws/\ws[2]? = some .none
theorem JG.keep {A:br}{h':Heap}(x:JG A h) (k:∀b o ws,h.get? b=some o->o.data = .fields ws->ws[2]? = some .none->∃o' ws',h'.get? b=some o'/\o'.data = .fields ws'/\ws'[2]? = some .none):JG A h':=by
 obtain ⟨e,oe,ws,a,b,c,d⟩:=x
 obtain ⟨o',ws',b',c',d'⟩:=k e oe ws b c d
 exact ⟨e,o',ws',a,b',c',d'⟩
section
variable {prog:Program}{w:bp}{A:br}{E:ak->Shared->Prop}{s:Shared}
theorem ZE {α:Type}{e:Addr}{oe:Obj}{vs:Array ak}{Q:α->Shared->Prop}(hh:JG A s.heap) (ge:s.heap.get? e=some oe) (gd:oe.data = .fields vs) (z2:2<vs.size) (new:∀x,A.handled=some (.ref x)->x≠e)
  (k:∀x,E (.ref e) { s with heap:=s.heap.update e (eM (·.setIfInBounds 2 x)) }):az (aC prog w) A (raiseNew (.ref e):Sem α) Q E s:=by
 obtain ⟨x,ox,ws,hA,gx,gw,g2⟩:=hh
 have ne:=new x hA
 unfold raiseNew
 refine aa (sJ ?_)
 rw [hA]
 dsimp only
 rw [if_pos (by simpa using ne)]
 refine aa (bD (wpAny_runValue (mq gW ?_)))
 show az _ _ (mw (.ref x) 2 >>= _) _ _ s
 refine aa (bw gx gw g2 ?_)
 rw [if_pos (by rfl)]
 refine wpAny_pure ?_
 show az _ _ (updateField e 2 (.ref x) >>= _) _ _ s
 unfold updateField
 refine aa (aa (wpAny_load ge ?_))
 rw [gd]
 dsimp only
 rw [if_pos z2]
 exact wpAny_update ge (wpAny_throw (k _))
theorem JE {α:Type}{it:Addr}{oi:Obj}{u0 u1 y:ak}{Q:Option ak->Shared->Prop}(hh:JG A s.heap) (gi:s.heap.get? it=some oi) (gd:oi.data = .fields #[u0,u1]) (k:∀g,iz it s.heap g->Q none { s with heap:=g }) :
  az (aC prog w) A (setField (.ref it) 0 y >>= λ_=>tG (.type "StopIteration") [] >>= λe=>(raiseNew e:Sem α)) (λ_ _=>False) (λe s1=>∃a,e = .ref a/\s1.TypeIs (.ref a) "StopIteration" /\ Q none s1) s:=by
 refine aa (f7 gi gd (by simp) (aa ?_))
 simp only [tG,newTuple]
 refine aa (bx ?_ (by size_fits))
 refine aa (m:=iY _ _) (mP (a:=aT) (by first | rfl | (simp only [iY];rfl)) ?_)
 refine bx ?_ (by size_fits)
 generalize hg:(s.heap.update it (eM (·.setIfInBounds 0 y))).push _=g1
 have kp:∀{b o},b≠it->s.heap.get? b=some o->g1.get? b=some o:=λ{b o} n q=>by
  rw [<- hg]
  refine aj _ ?_
  rw [bS _ _ n.symm]
  exact q
 have notIt:∀{b o ws},s.heap.get? b=some o->o.data = .fields ws->ws[2]? = some .none->b≠it:=λ{b o ws} q d d2 z=>by
  rw [z,gi] at q
  cases q
  rw [gd] at d
  cases d
  cases d2
 refine ZE (oe:=_) ?_ (aA _ rfl) rfl (by first | (simp;done) | (simp;omega)) (λx hx=>?_) λx=>?_
 ·exact hh.keep λb o ws q d d2=>⟨o,ws,aj _ (kp (notIt q d d2) q),d,d2⟩
 ·obtain ⟨e,oe,ws,hA,ge,gw,g2⟩:=hh
  rw [hA] at hx
  cases hx
  exact aB (aw (kp (notIt ge gw g2) ge))
 ·refine ⟨_,rfl,⟨_,dw _ (aA _ rfl) rfl,rfl⟩,k _ λb o n q=>?_⟩
  rw [bS _ _ (cJ (aw (kp n q)))]
  exact aj _ (kp n q)
theorem XY {i:Nat}{Q:Option ak->Shared->Prop}(hh:JG A s.heap) (hit:s.heap.IsListIter it l i) (hl:s.heap.IsList l items) (hx:items[i]? = none)
  (k:∀g,iz it s.heap g->Q none { s with heap:=g }):az (aC prog w) A (fm (.ref it)) Q E s:=by
 obtain ⟨oi,gi,gc,gd⟩:=id hit
 obtain ⟨ol,gl,_,nl,dl⟩:=hl
 unfold fm
 refine aa (eK ?_)
 refine bQ (name:=ai "__next__") hit.typeIs oo ?_
 refine cg oo hit.typeIs entry_listiter_next ?_ (args_listiter_next _)
 show az _ A.in1 (mw (.ref it) 0 >>= _) _ _ s
 refine aa (bw gi gd (x:=.ref l) rfl ?_)
 show az _ A.in1 (if (aS l == aT)=true then _ else _) _ _ s
 rw [if_neg (by exact au)]
 show az _ A.in1 (mw (.ref it) 1 >>= _) _ _ s
 refine aa (bw gi gd (x:=.int i 0) rfl ?_)
 show az _ A.in1 (pK (.ref l) >>= _) _ _ s
 refine aa (cP gl dl ?_)
 simp only [bz,hx]
 refine aa (fL ?_)
 refine aX (JE (A:=A.in1) (Q:=Q) hh gi gd k) (λ_ _ z=>z.elim) λe s1 ⟨a,ea,ht,q⟩=>?_
 subst ea
 exact aa (lR (T:="StopIteration") (b:=true) ht mT (wpAny_pure q))
theorem YF {i:Nat}{Q:Option ak->Shared->Prop}(hh:JG A s.heap) (hit:IsTupIter s.heap it l i) (hl:rM s.heap l items) (hx:items[i]? = none)
  (k:∀g,iz it s.heap g->Q none { s with heap:=g }):az (aC prog w) A (fm (.ref it)) Q E s:=by
 obtain ⟨oi,gi,gc,gd⟩:=id hit
 obtain ⟨ol,gl,_,nl,dl⟩:=hl
 unfold fm
 refine aa (eK ?_)
 refine bQ (name:=ai "__next__") hit.typeIs nA ?_
 refine cg nA hit.typeIs entry_tupleiter_next ?_ (args_tupleiter_next _)
 show az _ A.in1 (mw (.ref it) 0 >>= _) _ _ s
 refine aa (bw gi gd (x:=.ref l) rfl ?_)
 show az _ A.in1 (if (aS l == aT)=true then _ else _) _ _ s
 rw [if_neg (by exact au)]
 show az _ A.in1 (mw (.ref it) 1 >>= _) _ _ s
 refine aa (bw gi gd (x:=.int i 0) rfl ?_)
 show az _ A.in1 (pK (.ref l) >>= _) _ _ s
 refine aa (cP gl dl ?_)
 simp only [bz,hx]
 refine aa (fL ?_)
 refine aX (JE (A:=A.in1) (Q:=Q) hh gi gd k) (λ_ _ z=>z.elim) λe s1 ⟨a,ea,ht,q⟩=>?_
 subst ea
 exact aa (lR (T:="StopIteration") (b:=true) ht mT (wpAny_pure q))
theorem YU {x1}(hh:JG A s.heap) (ht:rM s.heap t items) (hn:(d4 elts env).length=items.size) (hstar:(d4 elts env).findIdx? (·.1)=none)
  (k:∀g,iz s.heap.objs.size s.heap g->az (aC prog w) A (sy ((d4 elts env).map (·.2)) items.toList) Q E { s with heap:=g }):az (aC prog w) A (i8 (.Tuple elts x1 pos) env (.ref t)) Q E s:=by
 have lt:t≠s.heap.objs.size:=by
  obtain ⟨o,ho,_⟩:=ht
  exact aB (aw ho)
 rw [assign_Tuple]
 refine aa (cV ?_)
 unfold unpack
 rw [hn,hstar]
 refine aa (bD ?_)
 unfold unpackItems
 refine aa ?_
 unfold notIterableAtAll
 refine aa (rA ht.typeIs slot_tuple_iter.lookup ↥52)
 simp only [c9,if_false]
 refine aa (bD (iter_tuple ht ?_))
 refine aa (bD (draw_tuple lt items.size 0 _ _ ⟨_,aA _ rfl,rfl,rfl⟩ (ht.push _) ∅ λg1 hi1 sb1=>?_))
 rw [show List.take items.size (List.drop 0 items.toList)=items.toList by rw [List.drop_zero];exact cN (by simp)]
 rw [if_neg (by simp)]
 have kp:∀{b o},b≠s.heap.objs.size->s.heap.get? b=some o->g1.get? b=some o:=λ{b o} n q=>sb1.extBut b o n (aj _ q)
 refine aa (bD (YF (hh.keep λb o ws q d d2=>⟨o,ws,kp (aB (aw q)) q,d,d2⟩) hi1 ((ht.push _).extBut sb1.extBut lt) (by simp) λg2 e2=>?_))
 simp only [Option.isSome_none,c9,if_false]
 exact wpAny_pure (k g2 λb o n q=>e2 b o n (kp n q))
end
structure Hu (X:Cx):Prop where
 ex:∃e oe ws,X.A.handled=some (.ref e)/\X.s₀.heap.get? e=some oe/\X.H₀ e=none/\e∉X.fs/\e∉X.ex/\oe.data = .fields ws/\ws[2]? = some .none
theorem Hu.now {X:Cx}(h:Hu X) (I:Inv X pins σ H s):JG X.A s.heap:=by
 obtain ⟨e,oe,ws,a,b,c,d,f,g,k⟩:=h.ex
 exact ⟨e,oe,ws,a,I.base.keep e oe b c d f,g,k⟩
theorem Hu.block {X:Cx}{cl:List (Str×Addr)}{N:List Str}{fp:List Addr}(h:Hu X) (I:Inv X pins σ H s) (hf:∀b∈fp,yJ X pins H b):Hu (X.block scope cl C N s H fp):=by
 obtain ⟨e,oe,ws,a,b,c,d,f,g,k⟩:=h.ex
 have now:=I.base.keep e oe b c d f
 refine ⟨e,oe,ws,a,now,I.base.free e oe b c f,λz=>?_,λz=>?_,g,k⟩
 ·rcases List.mem_cons.mp (I.stkSub e z) with y | y
  ·obtain ⟨m,⟨o,es,ep,ho,hd,_⟩,_⟩:=I.loc
   rw [<- y,now] at ho
   cases ho
   rw [g] at hd
   cases hd
  ·exact d y
 ·rcases (hf e z).2.2.2.1 with y | y
  ·exact f y
  ·exact absurd (aw b) (Nat.not_lt.mpr y)
structure TurnH (P:Program) (w:bp) (K:ah) (tg:Expr) (J:It) (fp:List Addr) (it:Addr) (tn:Nat->Heap->Prop):Prop where
 mem:it∈fp
 obj:∀i h,tn i h->∀b∈fp,∃o,h.get? b=some o/\∀v,o.data≠.cell v
 keep:∀i h h',tn i h->(∀b∈fp,∀o,h.get? b=some o->h'.get? b=some o)->tn i h'
 item:∀(X:Cx),X.prog=P->X.w=w->X.K=K->Hu X->∀(i:Nat) (pins:List (Addr×Obj)) (s:Shared) (σ:St) (H:Hp) (E:ak->Shared->Prop),Inv X pins σ H s->(∀b∈fp,yJ X pins H b)->tn i s.heap->J.go i H ->
  az (aC P w) X.A (fm (.ref it)) (λr s1=>∃u,r=some u /\
   az (aC P w) X.A (cS tg (.ref it) u) (λ_ s2=>∃x H',Inv X pins σ H' s2/\jK x u/\J.yld i H x H'/\tn (i+1) s2.heap/\∀b∈fp,H' b=none) E s1) E s
 done:∀(X:Cx),X.prog=P->X.w=w->X.K=K->Hu X->∀(i:Nat) (pins:List (Addr×Obj)) (s:Shared) (σ:St) (H:Hp) (E:ak->Shared->Prop),Inv X pins σ H s->(∀b∈fp,yJ X pins H b)->tn i s.heap->J.stop i H ->
  az (aC P w) X.A (fm (.ref it)) (λr s1=>r=none/\Inv X pins σ H s1) E s
 self:∀(A:br) (i:Nat) (s:Shared) (Q:ak->Shared->Prop) (E:ak->Shared->Prop),tn i s.heap->Q (.ref it) s->az (aC P w) A (lB (.ref it)) Q E s
noncomputable def PIEH (X:Cx) (pins:List (Addr×Obj)) (σ:St) (tg:Expr) (R:It->Hp->Prop) (itv:ak) (s2:Shared):Prop :=
 ∃(it:Addr) (fp:List Addr) (tn:Nat->Heap->Prop) (J:It) (H':Hp),itv = .ref it/\Inv X pins σ H' s2/\TurnH X.prog X.w X.K tg J fp it tn/\tn 0 s2.heap/\(∀b∈fp,yJ X pins H' b)/\R J H'
noncomputable def PIH (X:Cx) (tg iter:Expr) (wi:TI):Prop :=
 ∀(pins:List (Addr×Obj)) (s:Shared) (σ:St) (H:Hp) (R:It->Hp->Prop),Inv X pins σ H s->wi σ H R ->
  az ↥6 X.A (eval iter X.env) (λv s1=>az ↥6 X.A (lB v) (PIEH X pins σ tg R) X.xe s1) X.xe s
theorem ZA {K:ah}(a it:Addr):TurnH P w K tg (Itl K a) [it] it (λi h=>h.IsListIter it a i) where
 mem:=by simp
 obj:=λi h st b hb=>by
  have e:b=it:=by simpa using hb
  subst e
  obtain ⟨o,e,c,d⟩:=st
  exact ⟨o,e,λv z=>by rw [d] at z;cases z⟩
 keep:=λi h h' st k=>st.at λo e=>k it (by simp) o e
 item:=by
  intro X hP hw hK hc i pins s σ H E I hf st hg
  subst hP hw hK
  obtain ⟨xs,x,hq,hx⟩:=hg
  obtain ⟨its,rv,p,hz⟩:=I.list hq
  obtain ⟨u,hu,ru⟩:=rv.get hx
  obtain ⟨f0,f1,f2,f3,f4,f5⟩:=hf it (by simp)
  refine lX st p.isList (x:=u) (by simpa using hu) λh' st' sb=>?_
  have I1:Inv X pins σ H { s with heap:=h' }:=I.turned (t':=s.toks) (λb o hb e=>(sb.2 b hb).trans e) f0 f1 f3 f4 f5
  obtain ⟨o,e,c,d⟩:=id st'
  exact ⟨u,rfl,Xo (s:={ s with heap:=h' }) e c d ⋯ ⟨x,H,I1,ru,⟨rfl,λys hy=>by rw [I.list_inj hy hq];exact hx⟩,st',λb hb=>(hf b hb).1⟩⟩
 done:=by
  intro X hP hw hK hc i pins s σ H E I hf st hg
  subst hP hw hK
  obtain ⟨xs,hq,hx⟩:=hg
  obtain ⟨its,rv,p,hz⟩:=I.list hq
  obtain ⟨f0,f1,f2,f3,f4,f5⟩:=hf it (by simp)
  have hl:=rv.length
  exact XY (hc.now I) st p.isList (by simp;omega) λh' eb=>⟨rfl,I.turned (t':=s.toks) (λb o hb e=>eb b o hb e) f0 f1 f3 f4 f5⟩
 self:=λ_ _ _ _ _ st h=>my st h
section
variable {X:Cx}{tg:Expr}{pos:Pos}
theorem Vm (hl:PE X l tl):PIH X tg l (Y9 X.K tl):=by
 intro pins s σ H R I h
 refine thn (hl pins s σ H _ I h) λv s1 ⟨x,H1,I1,r1,q1⟩=>?_
 obtain ⟨a,e,⟨xs,hq⟩,q⟩:=q1
 subst e
 cases r1
 obtain ⟨its,rv,p,hz⟩:=I1.list hq
 refine eS p.isList ?_
 refine ⟨s1.heap.objs.size,[s1.heap.objs.size],_,_,H1,rfl,I1.kept (t':=s1.toks) λb o e=>aj _ e,ZA a _,⟨_,aA _ rfl,rfl,rfl⟩,λb hb=>?_,q⟩
 have e:b=s1.heap.objs.size:=by simpa using hb
 subst e
 exact I1.fpOk (av _) (I1.hok.fresh (av _))
theorem Uw {k:Nat}{n:Nat}(K:ah) (hu:Hu X) (h:PGs X es t)
  (hn:(d4 es X.env).length=n:=by rfl) (hst:(d4 es X.env).findIdx? (·.1)=none:=by rfl) (hK:X.K=K:=by rfl):PG X (.Tuple es k pos) (WV K n t):=by
 subst hK
 intro pins s σ H v u Q I r hw
 obtain ⟨a,xs,e1,hq,hl,hw⟩:=hw
 subst e1
 cases r
 obtain ⟨its,rv,ht,hz⟩:=I.tuple hq
 refine YU (hu.now I) ht (by simp [hn,<- hl,rv.length]) hst λh' hx=>?_
 have I1:Inv X pins σ H { s with heap:=h' }:=I.kept (t':=s.toks) λb o e=>hx b o (aB (aw e)) e
 exact h pins _ σ H xs _ Q I1 (by simpa using rv) hw
theorem V9 {scope:Scope}{own:Nat}{cl:List (Str×Addr)}{tg elt iter:Expr}{ti:TT}{te:TE}{H:Hp}{s:Shared}{fp:List Addr}
    {Q:VK} {RR:ak->Addr->nW->Shared->Prop} 
  (hu:Hu X) (S:CompSc osc ON scope own N caps) (hsc:X.env.scope=osc) (hN:X.N=ON) (hcl:∀x,cl.lookup x=if (x,ba)∈scope.names then X.env.cells.lookup x else none)
  (hg:∀cl C s H ex,Hu ↥10->PG ↥10 tg g) (hif:∀cl C s H ex,Hu ↥10->hW ↥10 ifs ti) (he:∀cl C s H ex,Hu ↥10->PE ↥10 elt te)
  (I:Inv X pins σ H s) (T:TurnH X.prog X.w X.K tg J fp it tn) (st:tn 0 s.heap) (hf:∀b∈fp,yJ X pins H b)
  (hw:∀acc,H acc=none->∃W:Nat->Nat->St->Hp->Prop,(∃m,W 0 m (yQ own caps σ) (upd H acc (.lst [])))/\∀i m σ' H',W i m σ' H' ->
   (J.stop i H'/\Q (.ref acc) H')\/(J.go i H'/\∃NX:St->Hp->Prop,↥17 /\
    ∀x H2,J.yld i H' x H2->g x σ' H2 λσ3 H3=>ti σ3 H3 λok H4=>if ok=true then te σ3 H4 λv H5=>∃ys,H5 acc=some (.lst ys)/\ys.length<sizeLine/\NX σ3 ↥31 else NX σ3 H4))
  (fin:∀(D C:Addr) (H':Hp) (s':Shared),Inv X pins σ H' s'->BlockAt X pins H' C->(∃m,s'.heap.Ns C m)->Q (.ref D) H'->RR (.ref D) C (.ok .next) s') :
  az ↥6 X.A (oV []) (λacc s₃=>az ↥6 X.A (mH scope X.env.globals cl [] X.env.qual none .none (some X.env)) (λcenv s₄ =>
   cW ↥6 X.A (.compStart ↥25 0 (.ref it) acc { cenv with scope:=sQ scope X.env }) (RR acc cenv.locals) s₄) E s₃) E s:=by
 have hfs:∀b∈fp,b<s.heap.objs.size:=λb hb=>by
  obtain ⟨o,e,_⟩:=T.obj _ _ st b hb
  exact aw e
 refine bx (ir S.nocell (by intro y hy;simp at hy) (λh₁ hns₁ hsb₁=>?_) S.kind)
 dsimp only at hns₁ hsb₁ ⊢
 generalize hH2:s.heap.push { cls:=.type "list",dict:=none,data:=.seq ([]:List ak).toArray }=H2 at hns₁ hsb₁ ⊢
 have hCsz:H2.objs.size=s.heap.objs.size+1:=by rw [<- hH2,cx]
 have old:∀b o,s.heap.get? b=some o->h₁.get? b=some o:=λb o e=>hsb₁.extBut b o (aB (by rw [hCsz];exact c3 (aw e))) (aj _ (hH2 ▸ aj _ e))
 have eD:h₁.get? s.heap.objs.size=some { cls:=.type "list",data:=.seq #[] }:=hsb₁.extBut _ _ (aB ∅) (aj _ (hH2 ▸ aA _ rfl))
 have hDn:H s.heap.objs.size=none:=I.hok.fresh (av _)
 obtain ⟨W,⟨m0,w0⟩,turn⟩:=hw s.heap.objs.size hDn
 have hns:h₁.Ns H2.objs.size λ_=>none:=hns₁
 have I1:Inv ↥5 [] (yQ own caps σ) (upd H s.heap.objs.size (.lst [])) { s with heap:=h₁,toks:=s.toks+([]:List (Str×ak)).length } :=
  vo S hsc hN hcl I hf hfs rfl hCsz old eD hns _
 have hub:Hu ↥5:=hu.block I hf
 have st1:tn 0 h₁:=T.keep 0 _ _ st λb _ o e=>old b o e
 have fpB:∀{H':Hp},↥65->∀b∈fp,yJ ↥5 [] H' b:=λ{H'} hn b hb=>by
  have ok:=I1.ok
  exact ⟨hn b hb,(ok.exf b hb).1,ok.exfs b hb,.inl hb,(ok.exf b hb).2,λp hp=>absurd (show p∈([]:List (Addr×Obj)) from hp) (by simp)⟩
 have back:∀{σ':St} {H':Hp} {s':Shared},Inv ↥5 [] σ' H' s'->Q ↥19 H'->RR ↥19 H2.objs.size (.ok .next) s':=λ{σ' H' s'} J1 q=>by
  have J2:Inv X pins σ H' s':=I.call' (ch:=fp) J1.os J1.base J1.hok J1.bare λb hb=>⟨(hf b hb).2.2.2.1,(hf b hb).2.1,(hf b hb).2.2.2.2.1,(hf b hb).2.2.2.2.2⟩
  obtain ⟨m,hm,_⟩:=J1.loc
  refine fin _ _ H' s' J2 ⟨J1.free,cJ (aK I.lt ∅),aE I.sz ∅,λx c e z=>?_,λp hp z=>?_⟩ ⟨m,hm⟩ q
  ·obtain ⟨v,y⟩:=I.cell x c e
   have h1:H2.objs.size<s.heap.objs.size:=z ▸ y.lt
   exact absurd h1 ∅
  ·have h1:H2.objs.size<s.heap.objs.size:=z ▸ aw (I.pin p hp).1
   exact absurd h1 ∅
 have loop:∀s₃:Shared,s₃={ s with heap:=h₁,toks:=s.toks+([]:List (Str×ak)).length } ->
   cW ↥6 X.A (.compLoop ↥25 0 (.ref it) ↥19 (oR scope cl H2.objs.size X.env)) (RR ↥19 H2.objs.size) s₃:=by
  rintro s₃ rfl
  refine wn ↥88 ?_ m0
   ⟨0,_,_,I1,st1,λb hb=>by rw [j9 (aB (hfs b hb))];exact (hf b hb).1,w0⟩
  rintro n s3 ⟨i,σ3,H3,I3,st3,fr3,w3⟩
  rcases turn i n σ3 H3 w3 with ⟨stop,qn⟩ | ⟨go,NX,hNX,step⟩
  ·refine thn (T.done ↥5 rfl rfl rfl hub i [] s3 σ3 H3 _ I3 (fpB fr3) st3 stop) λr s4 ⟨hr,I4⟩=>?_
   subst hr
   exact back I4 qn
  ·refine thn (T.item ↥5 rfl rfl rfl hub i [] s3 σ3 H3 _ I3 (fpB fr3) st3 go) λr s4 ⟨u,hr,h4⟩=>?_
   subst hr
   refine thn h4 λ_ s5 ⟨x,H5,I5,r5,y5,st5,fr5⟩=>?_
   have I5':=I5.pinned (fpB fr5) (T.obj _ _ st5)
   refine thn (hg cl H2.objs.size s H fp hub _ s5 σ3 H5 x u _ I5' r5 (step x H5 y5)) λ_ s6 ⟨σ6,H6,I6,q6⟩=>?_
   refine thn (hif cl H2.objs.size s H fp hub _ s6 σ6 H6 _ I6 q6) λok s7 ⟨H7,I7,q7⟩=>?_
   have again:∀{s8:Shared} {σ8:St} {H8:Hp},Inv ↥5 ([]++zi fp s5.heap) σ8 H8 s8->NX σ8 H8->∃m,m<n/\∃i σ' H',Inv ↥5 [] σ' H' s8/\tn i s8.heap/\ ↥65/\W i m σ' H':=λ{s8 σ8 H8} I8 n8=>by
    obtain ⟨m',hm,w8⟩:=hNX σ8 H8 n8
    refine ⟨m',hm,i+1,σ8,H8,I8.unpinned,T.keep _ _ _ st5 λb hb o e=>(↥82).1,λb hb=>?_,w8⟩
    obtain ⟨o,e,d⟩:=T.obj _ _ st5 b hb
    exact (↥82).2.1
   cases ok with
   | false =>
    rw [if_neg au] at q7 ⊢
    exact again I7 q7
   | true =>
    rw [if_pos rfl] at q7 ⊢
    refine thn (he cl H2.objs.size s H fp hub _ s7 σ6 H7 _ I7 q7) λv s8 ⟨y,H8,I8,r8,ys,e8,z8,q8⟩=>?_
    refine thn (qL _ s8 σ6 H8 ↥19 [y] _ [v] (λ_ H9=>NX σ6 H9) I8 rfl (.cons r8 .nil) ⟨_,ys,y,rfl,rfl,e8,z8,q8⟩) λ_ s9 ⟨_,H9,I9,_,q9⟩=>?_
    exact again I9 q9
 exact fX (loop _ rfl) (T.self _ 0 _ _ _ st1 (loop _ rfl))
theorem Vy {own:Nat}{tg:Expr}(S:CompSc osc ON scope own N caps)
  (hu:Hu X) (hsc:X.env.scope=osc) (hN:X.N=ON) (hi:PIH X tg iter wi)
  (hg:∀cl C s H ex,Hu ↥10->PG ↥10 tg g) (hif:∀cl C s H ex,Hu ↥10->hW ↥10 ifs ti) (he:∀cl C s H ex,Hu ↥10->PE ↥10 elt te)
  (hs:∀x,cq iter X.env x=pure x:=by intro _;rfl):PE X ↥25 (Vv own caps wi g ti te):=by
 intro pins s σ H Q I h
 obtain ⟨cl,hclos,hcl⟩:=yB (Qa S hsc I)
 rw [nI]
 refine dJ (use:=none) rfl hs hclos S.kind S.loc ↥76
 obtain ⟨it,fp,tn,J,H2,e,I2,T,st2,f2,hw⟩:=h2
 subst e
 refine V9 (RR:=λacc C=>rX ↥6 X.A X.xe none ↥73 acc C) hu S hsc hN hcl hg hif he I2 T st2 f2 hw λD C H' s' J1 B ⟨m,hm⟩ q=>?_
 exact ⟨m,hm,λh' hs'=>⟨.ref D,H',B.gone J1 hs',rfl,q⟩⟩
end
end L2
end
section
namespace L2
open PySem PySem.Spec PySem.W PyProof.Rows PySem.Calls
section
variable {prog:Program}{w:bp}{A:br}{E:ak->Shared->Prop}{s:Shared}{K:ah}{x D:Addr}{ox:Obj}{odo:Option Obj}
theorem UC {Q:Option ak->Shared->Prop}(X:K.In s.heap) (I:rO s.heap x ox D odo) (hga:findIn K (.ref D) "__getattribute__" = some (some (.builtin "BaseException.__getattribute__"))) (hgt:findIn K (.ref D) "__getattr__" = some none)
  (hf:findObj K D odo "__class__" = some (.bind (.builtin "getset_descriptor.__get__") ↥55)) (hm:mroIn K D (.type "object")=some true) (hb:subIn K (.ref D) (.type "BaseException")=some true)
  (k:Q (some (.ref D)) { s with toks:=s.toks+1 }):az (aC prog w) A (getAttr? (.ref x) "__class__") Q E s:=by
 obtain ⟨hh,g,d,t,os⟩:=s
 have L0:=I.type (M:=aC prog w)
 have L1:=looks_findIn (M:=aC prog w) X hga
 have L2:=looks_findIn (M:=aC prog w) X hgt
 have L3:=looks_find (M:=aC prog w) X I hf
 have L4:=looks_subIn (M:=aC prog w) X hb
 have LI:Looks (aC prog w) hh (isInstance (.ref x) (.type "BaseException")) true:=L0.andThen L4
 unfold getAttr? getAttrBy? getAttrBy
 refine aa (wpAny_mkText (aa (eK (bD (aa (L0.at (aa (L1.at ?_))))))))
 have n1:(onTheHeap (aS D) && lH "BaseException.__getattribute__" == lH "object.__getattribute__")=false:=by
  rw [show (lH "BaseException.__getattribute__" == lH "object.__getattribute__")=false by decide +kernel,rV]
 dsimp only
 rw [if_neg (by rw [n1];exact au)]
 unfold getAttrByItsOwn
 refine aa ?_
 show az _ _ (rR (.ref D) "__getattr__") _ _ _
 refine L2.at ?_
 refine aa (eK (bD ?_))
 show az _ _ (su _ _ _) _ _ _
 unfold su
 refine aa ?_
 rw [F.excAttr_ValueError.ga.bind (.ref x)]
 refine wpAny_pure ?_
 refine fK (codeAny_call_builtin F.excAttr_ValueError.ga.plain F.entry_bexc_ga ?_)
 have hk:builtinKind "BaseException.__getattribute__" = some .slot:=by decide +kernel
 have hsp:splitId "BaseException.__getattribute__" = some ("BaseException","__getattribute__"):=by decide +kernel
 have ha:=F.args_bexc_ga (.ref x) (.str "__class__" t)
 show az (aC prog w) A.in1 (pO "BaseException.__getattribute__" ⟨[.ref x,.str "__class__" t],[]⟩) _ _ _
 simp only [pO,hk,hsp]
 refine aa (LI.at ?_)
 rw [if_neg ⋯]
 refine mP ha ?_
 unfold fH.«object.__getattribute__»
 refine aa ↥52
 refine aa ↥52
 refine aa (L0.at ?_)
 refine aa (L3.at ?_)
 show az _ _ (fe [.builtin "object.__class__"] (call (.builtin "getset_descriptor.__get__") [.builtin "object.__class__",.ref x,.ref D]) >>= ret) _ _ _
 refine aa (bD (fK (class_get (s:=⟨hh,g,d,t+1,os⟩) (ox:=ox) (od:=odo) X I hm ?_)))
 refine wpAny_pure ?_
 exact handed_on rfl (wpAny_pure k)
structure ExK (K:ah) (D:Addr):Prop where
 cl:(clsIn K D).isSome=true
 ga:findIn K (.ref D) "__getattribute__" = some (some (.builtin "BaseException.__getattribute__"))
 gt:findIn K (.ref D) "__getattr__" = some none
 ha:findIn K (.ref D) "__class__" = some (some ↥55)
 hn:specialIn K ↥55 "__get__" = some (some (.builtin "getset_descriptor.__get__"))
 tk:takesIn K ↥55=some true
 mo:mroIn K D (.type "object")=some true
 be:subIn K (.ref D) (.type "BaseException")=some true
theorem ExK.kit (e:ExK K D):KitX K (.ref x) (.ref D) (λh=>∃o,h.get? x=some o/\o.cls = .ref D/\o.dict=none/\notCls o=true) where
 ty:=λM h _ ⟨o,g,c,_⟩=>c ▸ (tD g).andThen .now
 it:=λM h X _=>by
  have cl:=e.cl
  unfold clsIn at cl
  split at cl
  ·rename_i c' d' cd' sl' ho
   intro A' Q' E' s' k q
   unfold isType loadHead
   exact aa (rP (k _ _ (X _ _ ho)) (wpAny_pure q))
  ·cases cl
 ne:=λh tp dd its n sl X htp=>by
  have cl:=e.cl
  refine Bool.eq_false_iff.mpr λq=>?_
  obtain rfl:D=tp:=Value.ref.inj (beq_iff_eq.mp q)
  unfold clsIn at cl
  split at cl
  ·rename_i c' d' cd' sl' ho
   cases (X _ _ ho).symm.trans htp
  ·cases cl
 ca:=λX ⟨o,g,c,dn,no⟩ k=>by
  refine UC (ox:=o) (odo:=none) X ⟨g,c,no,by rw [dn];trivial⟩ e.ga e.gt ?_ e.mo e.be k
  obtain ⟨cd,hc⟩:=Option.isSome_iff_exists.mp e.cl
  unfold findObj
  rw [hc,pQ,e.ha,pQ]
  simp [e.hn,e.tk]
end
end L2
end
section
namespace L2
open PySem PySem.Spec PySem.W PyProof.Rows PySem.Calls
noncomputable def Qq (oe:Obj) (cls:ak):Prop:=oe.cls=cls/\oe.dict=none/\∃ws,oe.data = .fields ws/\ws[2]? = some .none
theorem Qq.noCell (h:Qq oe cls):∀v,oe.data≠.cell v:=λv z=>by
 obtain ⟨_,_,ws,d,_⟩:=h
 rw [d] at z
 cases z
theorem Qq.noCls (h:Qq oe cls):notCls oe=true:=by
 obtain ⟨_,_,ws,d,_⟩:=h
 unfold notCls
 rw [d]
noncomputable abbrev Cx.handE (X:Cx) (a:Addr) (oe:Obj) (pn:List (Addr×Obj)):Cx:={ X with A:=X.A.mark (some (.ref a)),calm:=false,pn:=pn++[(a,oe)],xe:=λ_ _=>False }
section
variable {X:Cx}{pins:List (Addr×Obj)}{σ:St}{H:Hp}{s:Shared}{a:Addr}{oe:Obj}{cls:ak}
theorem Inv.toHandE (I:Inv X pins σ H s) (ga:s.heap.get? a=some oe) (ha:H a=none) (hl:a≠X.env.locals) (hf:a∉X.fs) (hc:∀v,oe.data≠.cell v):Inv (X.handE a oe (X.pn++pins)) [] σ H s :=
 ⟨⟨I.ok.mod,I.ok.kind,I.ok.glob,I.ok.blt,I.ok.above,I.ok.inj,I.ok.has,I.ok.cab,(λz=>(by cases z)),I.ok.frames,I.ok.stk,I.ok.exf,I.ok.bs,I.ok.bsz,I.ok.noex,I.ok.exfs,I.ok.funs,I.ok.frf⟩,I.os,I.bare,I.base,I.loc,I.cell,I.free,I.freeC,λp hp=>by
  rw [bj] at hp
  rcases List.mem_append.mp hp with z | z
  ·exact I.pin p z
  ·obtain rfl:p=(a,oe):=by simpa using z
   exact ⟨ga,ha,hl,hf,hc⟩,I.hok,I.len⟩
theorem Inv.ofHandE (hd:X.calm=true->X.A.handled=none) (I:Inv (X.handE a oe (X.pn++pins)) [] σ H s):Inv X pins σ H s :=
 ⟨⟨I.ok.mod,I.ok.kind,I.ok.glob,I.ok.blt,I.ok.above,I.ok.inj,I.ok.has,I.ok.cab,hd,I.ok.frames,I.ok.stk,I.ok.exf,I.ok.bs,I.ok.bsz,I.ok.noex,I.ok.exfs,I.ok.funs,I.ok.frf⟩,I.os,I.bare,I.base,I.loc,I.cell,I.free,I.freeC,
  λp hp=>I.pin p (cB _ (cB _ hp)),I.hok,I.len⟩
theorem wL {i:Nat}{Q:Unit->Shared->Prop}(I:Inv X pins σ H s) (hN:X.N.Nodup) (hi:X.N[i]? = some n) (hk:X.env.scope.names.lookup n=some .local)
  (h:∀s',Inv X pins (σ.set i none) H s'->Q () s'):az M A (do bindName X.env n .none;unbindBehindTheSuite X.env n pos) Q E s:=by
 obtain ⟨m,hn,hl⟩:=id I.loc
 have nc:(X.env.scope.kind == .class || (X.env.scope.kind == .module && X.env.locals != X.env.globals))=false:=by rw [I.ok.kind];rfl
 have hiσ:i<σ.length:=by rw [I.len];exact (List.getElem?_eq_some_iff.mp hi).1
 refine wpAny_nameGoes_keeps hk hn nc λg v hn' hs=>?_
 obtain ⟨oL,_,_,hoL,_⟩:=id hn
 have lo:∀{b o},X.s₀.heap.get? b=some o->g.get? b=s.heap.get? b:=λ{b o} e=>hs.2 b (aB (aK (aw e) I.ok.above))
 refine h _ ⟨I.ok,I.os,I.bare,⟨λb o e n hb hx=>(lo e).trans (I.base.keep b o e n hb hx),λb o e n hb hx=>?_,I.base.free,λb o e hx=>?_,I.base.tups,I.base.frzs,I.base.tbls⟩,⟨_,hn',λj y v' e1 e2 e3=>?_⟩,λy c e=>?_,I.free,I.freeC,λp hp=>?_,λb ob e=>?_,by simpa using I.len⟩
 ·obtain ⟨sl,e1⟩:=I.base.slot b o e n hb hx
  exact ⟨sl,(lo e).trans e1⟩
 ·obtain ⟨o',e1⟩:=I.base.there b o e hx
  exact ⟨o',(lo e).trans e1⟩
 ·by_cases hj:j=i
  ·subst hj
   rw [fS hiσ] at e2
   cases e2
  ·rw [ip (cG hj)] at e2
   obtain ⟨u',r',q⟩:=hl j y v' e1 e2 e3
   refine ⟨u',r',?_⟩
   rcases q with ⟨k,e⟩ | ⟨k,c,e,z⟩
   ·have ny:y≠n:=λz=>hj (ku hN e1 (z ▸ hi))
    exact .inl ⟨k,by show (if y=n then v else m y)=_;rw [if_neg ny];exact e⟩
   ·exact .inr ⟨k,c,e,z.sameBut hs (I.cne y c e)⟩
 ·obtain ⟨w',z⟩:=I.cell y c e
  exact ⟨w',z.sameBut hs (I.cne y c e)⟩
 ·obtain ⟨e,n,ne,nf,d⟩:=I.pin p hp
  exact ⟨(hs.2 p.1 ne).trans e,n,ne,nf,d⟩
 ·refine (I.hok b ob e).stay (λc w' hc q=>(hs.2 c ?_).trans q) (λ_ q=>q) λ_ _ q=>q
  rintro rfl
  rcases hc with z | z
  ·rw [<- z,I.free] at e;cases e
  ·rw [I.free] at z;cases z
end
noncomputable def Ends.un (D:Ends) (i:Nat):Ends:={ nx:=λσ H=>D.nx (σ.set i none) H,rt:=D.rt,bk:=λσ H=>D.bk (σ.set i none) H,ct:=λσ H=>D.ct (σ.set i none) H }
noncomputable def GD (K:ah) (C:Addr) (i:Nat) (tb:(ak->St->Hp->Prop)->TS) (th:Addr->Obj->TS):TS:=λD σ H =>
 tb (λcls σ' H'=>exmOne K cls (.ref C)=some true/\∀a oe,Qq oe cls->H' a=none->th a oe (D.un i) (σ'.set i (some (.ref a))) H') D σ H
theorem U2 {X:Cx}{suite:List Stmt}{b₀:Stmt}{i:Nat}{tb:(ak->St->Hp->Prop)->TS}{th:Addr->Obj->TS}(K:ah) (st:X.stack=X.env::X.outer) (hf:X.env.frame=some X.env.locals) (hm:X.mg x=some (.ref C)) (hg:Gl X x)
  (hN:X.N.Nodup) (hi:X.N[i]? = some n) (hk:X.env.scope.names.lookup n=some .local)
  (hb:∀(pn:List (Addr×Obj)) (J:ak->St->Hp->Prop),PSs (X.tryX pn J) body (tb J)) (hs:∀(a:Addr) (oe:Obj) (pn:List (Addr×Obj)),PSs (X.handE a oe pn) (b₀::suite) (th a oe)) (hdb: ↥33=false:=by decide) (hK:X.K=K:=by rfl) :
  PS X (.Try body [.ExceptHandler (some (.Name x np)) (some n) (b₀::suite) hpos] [] [] pos) (GD K C i tb th):=by
 subst hK
 intro pins s σ H D I h
 refine wpAny_Try_except (aX (hb (X.pn++pins) _ [] s σ H D I.toTry h) (λf s1 q=>?_) λe s1 q=>?_)
 ·have q':SP X pins D f s1:=spOf (λI=>Inv.ofTryP I) q
  cases f with
  | next=>exact fF q'
  | brk=>exact q'
  | cont=>exact q'
  | ret u=>exact q'
 ·obtain ⟨a,cls,σ',H',rfl,fl,hx,ht⟩:=q
  have f:zd X pins σ' H' s1 a cls .none:=by
   obtain ⟨s,H,I,os,b,u,ok,fy⟩:=fl
   exact ⟨s,H,Inv.ofP I,os,b,u,ok,fy⟩
  obtain ⟨B,a0,fw,up⟩:=f.under
  have fr:X.A.frames=some (X.env::X.outer):=by rw [<- st];exact I.ok.frames
  rw [st] at fw
  refine ZW fr fw.2.2.1 hf fw.2.2.2 fw.1 fw.2.1 λh2 n1 n2 n3 up2=>?_
  refine yM (s:={ s1 with heap:=h2 }) n1 n2 n3 λh3 m1 m2 m3 m4=>?_
  have up3:s1.heap.UpToSlots h3:=up2.trans λb o e n=>⟨o.slots,m4 b o e n⟩
  have f3:zd X pins σ' H' { s1 with heap:=h3 } a cls .none:=up h3 .none m1 up3 m3
  have I3:=f3.inv.toHand a
  refine wpAny_handleBy_cons (codeAny_handlers_test ?_) ↥47
  refine yK (X:=X.hand a) I3 hg hm ?_ hdb
  obtain ⟨oe,_,_,_,_,he,hc,_⟩:=id m3
  have lt:Looks ↥6 h3 (rS (.ref a)) cls:=hc.1 ▸ (tD he).andThen .now
  refine exm_one (M:=aC X.prog X.w) I3.kIn lt hx _ _ _ _ (λ_ _ e=>e) ?_
  refine codeAny_handlers_suite_as ?_
  refine yM (s:={ s1 with heap:=h3 }) m1 m2 m3 λh4 k1 k2 k3 k4=>?_
  have f4:zd X pins σ' H' { s1 with heap:=h4 } a cls .none:=up h4 .none k1 (up3.trans λb o e n=>⟨o.slots,k4 b o e n⟩) k3
  have I4:=f4.inv
  obtain ⟨oe4,vs,T,oT,ts,g1,g2,g3,_⟩:=id k3
  have eo:Qq oe4 cls:=⟨g2.1,g2.2.2,vs,g3,g2.2.1.2⟩
  have ha:H' a=none:=by
   obtain ⟨_,_,_,_,_,_,_,fy⟩:=f4
   exact fy.ha
  have hl:a≠X.env.locals:=λz=>by
   obtain ⟨m,⟨o,es,ep,ho,hd,_⟩,_⟩:=I4.loc
   rw [<- z,g1] at ho
   cases ho
   rw [g3] at hd
   cases hd
  have hfs:a∉X.fs:=λz=>by
   have z':a∈frs X.stack:=by
    rw [st]
    unfold frs
    rw [fk,hf]
    exact aH _ z
   obtain ⟨_,o,ho,hn⟩:=I4.stack.mem z'
   rw [g1] at ho
   cases ho
   exact hn _ g3
  have I5:Inv (X.handE a oe4 (X.pn++pins)) [] σ' H' { s1 with heap:=h4 }:=I4.toHandE g1 ha hl hfs eo.noCell
  refine hZ (X:=X.handE a oe4 (X.pn++pins)) (v:=V.ref a) I5 hN hi (.inl hk) rfl (λs6 I6=>?_) (.inr hk)
  refine aX (hs a oe4 (X.pn++pins) [] s6 _ H' (D.un i) I6 (ht a oe4 eo ha)) (λg s7 q=>?_) λ_ _ z=>bg z
  cases g with
  | next=>obtain ⟨σ7,H7,I7,q7⟩:=q;exact wL (Inv.ofHandE I.ok.hd I7) hN hi hk λs8 I8=>⟨_,H7,I8,q7⟩
  | brk=>obtain ⟨σ7,H7,I7,q7⟩:=q;exact wL (Inv.ofHandE I.ok.hd I7) hN hi hk λs8 I8=>⟨_,H7,I8,q7⟩
  | cont=>obtain ⟨σ7,H7,I7,q7⟩:=q;exact wL (Inv.ofHandE I.ok.hd I7) hN hi hk λs8 I8=>⟨_,H7,I8,q7⟩
  | ret u=>obtain ⟨v,σ7,H7,I7,r7,q7⟩:=q;exact wL (Inv.ofHandE I.ok.hd I7) hN hi hk λs8 I8=>⟨v,_,H7,I8,r7,q7⟩
noncomputable def cxH (P:Program) (w:bp) (K:ah) (mg:Str->Option ak) (base:Heap) (N:List Str) (qual:Str) (scope:Scope) (f:Addr) (cd:ak) (A:br) (outer:List Env) (s:Shared) (H:Hp):Cx :=
 { vI (λ_ _ _ _ _ _=>False) P w K mg base N qual scope f cd A outer s H (λ_ _ _=>False) with calm:=false }
structure AtE (A:br) (outer:List Env) (s:Shared) (H:Hp) (a:Addr) (oe:Obj) (cls:ak):Prop where
 hd:A.handled=some (.ref a)
 at_:s.heap.get? a=some oe
 ex:Qq oe cls
 free:H a=none
 out:a∉frs outer
noncomputable def FnH (P:Program) (w:bp) (K:ah) (mg:Str->Option ak) (base:Heap) (k:Nat) (f:Addr) (fd:FuncData) (ps:List Str) (sp:Addr->ak->List V->Hp->VK->Prop):Prop :=
 ∀(A:br) (outer:List Env) (s:Shared) (H:Hp) (args:Args) (us:List ak) (vs:List V) (Q:VK) (a:Addr) (oe:Obj) (cls:ak),A.depth+3*k+5<recursionLimit->A.units+16*k+200<cLine->AtE A outer s H a oe cls ->
  Env0 P w K mg base A outer s H->oK s fd args (ps.zip us)->jJ vs us->vs.length=ps.length->sp a cls vs H Q->cW (aC P w) A (.call (.ref f) args) (CR (λ_ _ _ _ _ _=>False) outer P w H s Q (λ_ _ _=>False)) s
theorem Z2 {P:Program}{w:bp}{K:ah}{mg:Str->Option ak}{base:Heap}{N ps:List Str}{qual:Str}{scope:Scope}{f:Addr}{cd:ak}{A:br}{outer:List Env}{s s1:Shared}{H:Hp}{us:List ak}{vs:List V}(S:FnScope N ps scope) (e0:Env0 P w K mg base A outer s H) (hl:vs.length=ps.length) (r:jJ vs us)
  (x:InCallC s s.heap.objs.size (pW (↥66).kindOf (ps.zip us) λ_=>none) (lN ↥21 scope.names []) (pX (↥66).kindOf (ps.zip us) λ_=>none) s1) :
  Inv (cxH P w K mg base N qual scope f cd A outer s H) [] (start N vs) H s1:=by
 have I:=uK (CX:=λ_ _ _ _ _ _=>False) (A:={ A with handled:=none }) (E:=λ_ _ _=>False) (P:=P) (w:=w) S rfl ⟨e0.frames,e0.mod,e0.bs,e0.bsz,e0.funs,e0.frf,e0.hok,e0.bare⟩ hl r x
 exact ⟨⟨I.ok.mod,I.ok.kind,I.ok.glob,I.ok.blt,I.ok.above,I.ok.inj,I.ok.has,I.ok.cab,(λz=>(by cases z)),mF e0.frames,I.ok.stk,I.ok.exf,I.ok.bs,I.ok.bsz,I.ok.noex,I.ok.exfs,I.ok.funs,I.ok.frf⟩,I.os,I.bare,I.base,I.loc,I.cell,I.free,I.freeC,I.pin,I.hok,I.len⟩
theorem Gw {K:ah}(e:AtE A outer s H a oe cls):Hu (cxH P w K mg base N qual scope f cd A outer s H):=by
 obtain ⟨_,_,ws,d,d2⟩:=e.ex
 exact ⟨a,oe,ws,e.hd,e.at_,e.free,e.out,(λz=>by cases z),d,d2⟩
theorem Fun.okH {P:Program}{w:bp}{K:ah}{mg:Str->Option ak}{base:Heap}{x:Str}{st:Stmt}{N:List Str}{k:Nat}{sp:Addr->ak->List V->Hp->VK->Prop}(F:Fun K x qual st f fd) (S:FnScope N ps (ja st))
  (hbody:∀(cdv:ak) (A:br) (outer:List Env) (s:Shared) (H:Hp) (vs:List V) (Q:VK) (a:Addr) (oe:Obj) (cls:ak),AtE A outer s H a oe cls->sp a cls vs H Q ->
   ∃t,PSs (cxH P w K mg base N qual (ja st) f cdv A outer s H) (jQ st) t/\t { nx:=λ_ H'=>Q .non H',rt:=Q } (start N vs) H):FnH P w K mg base (k+1) f fd ps sp:=by
 obtain ⟨oc,od,kV,doc,pm,an,cdv,ct,osl,rfl,lk,hcd⟩:=F.ex
 intro A outer s H args us vs Q a oe cls dp un ae e0 hb r hl hsp
 have KX:K.In s.heap:=e0.mod.kin.keeps λb o e=>(e0.bs b o e).1
 have lim:s.heap.NoLimit:=e0.mod.nolimit.keeps λb o e=>(e0.bs b o e).1
 have kinds:∀y∈ps.zip us,(ja st).names.lookup y.1=some .local\/((ja st).names.lookup y.1=some .cell/\((lN ↥21 (ja st).names []).lookup y.1).isSome=true):=λ⟨n,v⟩ hy=>by
  rcases S.par n (fG hy).1 with q | q
  ·exact .inl q
  ·exact .inr ⟨q,dZ _ _ _ (.inl q)⟩
 refine mz ∅ (KX _ _ lk) rfl S.co S.gen rfl (nX KX hcd) (hb _ _ _ _ ?_)
 refine eW S.kind kinds λenv he s1 x=>?_
 subst he
 refine ⟨lim.keeps x.toInCall.keep,codeAny_func ?_⟩
 obtain ⟨t,ht,hq⟩:=hbody cdv A outer s H vs Q a oe cls ae hsp
 have I:Inv (cxH P w K mg base N qual (ja st) f cdv A outer s H) [] (start N vs) H s1:=Z2 S e0 hl r x
 refine aX (ht [] s1 (start N vs) H _ I hq) (λfl s' hs=>?_) λe s' hs=>hs
 have fin:∀{σ':St} {H':Hp} {v:V} {u:ak},Inv (cxH P w K mg base N qual (ja st) f cdv A outer s H) [] σ' H' s'->jK v u->Q v H'->CE outer P w H s Q u s':=λ{σ' H' v u} J rv q =>
  ⟨v,H',J.os,J.bare,J.base,J.hok,rv,q⟩
 cases fl with
 | ret u=>obtain ⟨v,σ',H',J,rv,q⟩:=hs;exact fin J rv q
 | next=>obtain ⟨σ',H',J,q⟩:=hs;exact fin (v:=V.non) (u:=aT) J rfl q
 | brk=>obtain ⟨_,_,_,q⟩:=hs;exact bg q
 | cont=>obtain ⟨_,_,_,q⟩:=hs;exact bg q
structure CalH (P:Program) (w:bp) (K:ah) (mg:Str->Option ak) (base:Heap) (k:Nat) (x:Str) (ps:List Str) (sp:Addr->ak->List V->Hp->VK->Prop):Prop where
 ex:∃f fd,FnH P w K mg base k f fd ps sp/\zV K fd ps []/\mg x=some (.ref f)/\bK K (.ref f)=true
theorem CalH.mk' {P:Program}{w:bp}{K:ah}{mg:Str->Option ak}{base:Heap}{k:Nat}{x:Str}{ps:List Str}{st:Stmt}{f:Addr}{oc:ak}{od an:Option Addr}{osl:Array (Option ak)}{kV doc pm cdv ct:ak}
  (X:K.In h) (G:h.Ns mainGlobals mg) (a:aU K mainGlobals x=some (some (.ref f)))
  (l:K.lookup f=some ⟨oc,od,.func ↥28,osl⟩) (c:cz K cdv x=true) (k':bK K (.ref f)=true)
  (hb:∀(kV doc pm:ak) (an:Option Addr) (cdv ct:ak) (us:List ak),us.length=ps.length->cC ↥28 ⟨us,[]⟩=pure (ps.zip us))
  (ok:∀{f:Addr} {fd:FuncData},Fun K x x st f fd->FnH P w K mg base k f fd ps sp):CalH P w K mg base k x ps sp:=by
 have F:=vt (st:=st) l c k'
 exact ⟨f,_,ok F,F.binds hb,aN X G a,k'⟩
noncomputable def GA (a:Addr) (oe:Obj) (n:Nat) (sp:Addr->ak->List V->Hp->VK->Prop) (t:TA):TE:=λσ H Q=>t σ H λvs H1=>vs.length=n/\∃cls,Qq oe cls/\sp a cls vs H1 Q
theorem W6 {X:Cx}{k:Nat}{e:Expr}{es:List Expr}{oe:Obj}(c:CalH X.prog X.w X.K X.mg X.base k x ps sp) (dp:X.A.depth+3*k+5<recursionLimit) (un:X.A.units+16*k+200<cLine)
  (hd:X.A.handled=some (.ref a)) (hp:(a,oe)∈X.pn) (hg:Gl X x) (ha:PA X (e::es) t)
  (hdb: ↥33=false:=by decide) (he:aJ (e::es) X.env=↥45::aJ es X.env:=by rfl) (hpl: (↥77).any (·.1)=false:=by rfl) :
  PE X ↥75 (GA a oe ps.length sp t):=by
 obtain ⟨f,fd,F,hb,hm,hk⟩:=c.ex
 intro pins s σ H Q I h
 refine cU (yK I hg hm ?_ hdb)
 refine dm (h₀:=X.base) I.ok.mod.kin hk (thn ↥67 λus s1 ⟨vs,H1,I1,r,n,cls,eo,q⟩=>⟨I1.kIn,?_⟩) he hpl
 have hl:us.length=ps.length:=by rw [<- r.length];exact n
 have hb':=hb s1 us I1.kIn (by rw [bj];exact hl)
 rw [bj] at hb'
 obtain ⟨g1,g2,g3,g4,g5⟩:=I1.pin (a,oe) (cB _ hp)
 have ae:AtE X.A X.stack s1 H1 a oe cls:=⟨hd,g1,eo,g2,λz=>(List.mem_cons.mp (I1.stkSub a z)).elim g3 g4⟩
 refine fK (d9 (F X.A X.stack s1 H1 ⟨us,[]⟩ us vs Q a oe cls dp un ae I1.env0 hb' r n q) λr s' hq=>?_)
 cases r with
 | error e=>exact bg hq
 | ok fl =>
  cases fl with
  | ret u=>exact I1.after hq
  | next=>exact bg hq
  | brk=>exact bg hq
  | cont=>exact bg hq
theorem Ug {X:Cx}{a D:Addr}(K:ah) (ek:ExK K D) (ga:X.s₀.heap.get? a=some oe) (ha:X.H₀ a=none) (hf:a∉X.fs) (hx:a∉X.ex) (eo:Qq oe (.ref D)) (hK:X.K=K:=by rfl) :
  qO X (.builtin "isinstance") (λxs H Q=>∃c cv b,xs=[.ref a,c]/\(∀u,jK c u->u=cv)/\aG K (.ref D) cv=some b/\Q (.bl b) H):=by
 subst hK
 intro pins s σ H vs us Q I r h
 obtain ⟨c,cv,b,rfl,hc,hb,q⟩:=h
 cases r with
 | cons r1 r2 =>
  cases r2 with
  | cons r3 r4 =>
   cases r4
   cases (show _=aS a from r1)
   cases hc _ r3
   exact bT (ExK.kit (x:=a) ek) I.kIn ⟨oe,I.base.keep a oe ga ha hf hx,eo.1,eo.2.1,eo.noCls⟩ hb (λz=>nomatch z) λtk=>⟨.bl b,H,I.tok _,rfl,q⟩
end L2
end
section
namespace L2
open PySem.W
theorem gN.calH {P:Program}{w:bp}{K:ah}{mg:Str->Option ak}{base:Heap}{k:Nat}{x:Str}{st:Stmt}(a:gN K x st) (z:Zt P w K mg base) (hb:gB x x st ps)
  (ok:∀{f:Addr} {fd:FuncData},Fun K x x st f fd->FnH P w K mg base k f fd ps sp):CalH P w K mg base k x ps sp:=by
 obtain ⟨a,l,c,k'⟩:=a
 obtain ⟨X,G⟩:=z
 exact CalH.mk' X G a l c k' hb ok
end L2
end
section
namespace L2
open PySem.W
end L2
end
section
namespace L2
end L2
namespace L2
section
variable (P:Program) (w:bp)
end
section
variable {P:Program}{w:bp}{H H':Hp}{h h':Heap}{a:Addr}{o:HO}
end
section
variable {P:Program}{w:bp}{H:Hp}{h h':Heap}{x e:Addr}{o':HO}
end
section
variable {fs fs' ex ex':List Addr}{H H1 H2:Hp}{h h1 h2 h':Heap}{a x e:Addr}{o:HO}
end
end L2
namespace L2
section
variable {X:Cx}{pins:List (Addr×Obj)}{σ:List (Option V)}{H H':Hp}{s:Shared}{h':Heap}
end
end L2
namespace L2
section
variable {X:Cx}
variable {a b:Expr}{ta tb:TE}{pos:Pos}
variable {tA tB':TT}{zn:List Expr}
end
end L2
namespace L2
section
variable {X:Cx}{pins:List (Addr×Obj)}{σ:St}{H:Hp}{s:Shared}{a:Addr}{xs ys:List V}
end
section
variable {X:Cx}{pins:List (Addr×Obj)}{σ:St}{H:Hp}{s:Shared}{E:ak->Shared->Prop}
end
section
variable {X:Cx}{st:Stmt}{zn:List Stmt}{t u:TS}{e:Expr}{te:TE}{pos:Pos}
end
section
variable {X:Cx}{pos:Pos}
end
section
variable {X:Cx}{pos:Pos}
end
end L2
namespace L2
section
variable {X:Cx}{tg:Expr}
end
end L2
namespace L2
section
variable {X:Cx}{a b c:Expr}{ta tb tc:TE}{pos:Pos}
end
section
variable {X:Cx}{a b c:Expr}{ta tb tc:TE}{pos:Pos}
end
end L2
namespace L2
section
variable {prog:Program}{w:bp}{A:br}{E:ak->Shared->Prop}{s:Shared}{K:ah}{x dx C f:Addr}{mA:Str->Option ak}{name:Str}{v:ak}
end
section
variable {P:Program}{w:bp}{H H':Hp}{h h':Heap}{a C dx:Addr}{fs fs':List (Str×V)}
end
section
variable {X:Cx}{pins:List (Addr×Obj)}{σ:St}{H:Hp}{s:Shared}{a C dx:Addr}{fs:List (Str×V)}{f:Str}{v:V}{A:br}{E:ak->Shared->Prop}
end
section
variable {X:Cx}{o e value:Expr}{f:Str}{pos pos' tpos:Pos}{ta tv:TE}
end
section
variable {X:Cx}{pins:List (Addr×Obj)}{σ:St}{H:Hp}{s:Shared}{A:br}{E:ak->Shared->Prop}{Q:ak->Shared->Prop}{c:ak}{b:Bool}
end
end L2
namespace L2
section
variable {X:Cx}{e:Expr}{es:List Expr}{te:TE}{t:TA}{pos:Pos}
end
section
variable {X:Cx}{pins:List (Addr×Obj)}{σ:St}{H:Hp}{s s':Shared}
end
section
variable {X:Cx}{CX:CXT}{k:Nat}{f C:Addr}{fd:FuncData}{ps:List Str}{sp:Sp}{dvs:List V}{ds:List ak}{E:XK}{x m:Str}{p pos apos:Pos}{e o:Expr}{es:List Expr}{ta:TE}{t:TA}
end
section
variable {X:Cx}{CX:CXT}{k:Nat}{f C:Addr}{fd:FuncData}{ps ks:List Str}{sp:Sp}{E:XK}{x m:Str}{p pos apos kpos:Pos}{e o:Expr}{es:List Expr}{kws:List iJ}{te ta:TE}{t tk:TA}{nm:Option Str}
variable {g:List ak->List ak->List ak}{gV:List V->List V->List V}
end
end L2
namespace L2
section
variable {X:Cx}{x:Str}{p pos:Pos}{e:Expr}{es:List Expr}{t:TA}{id T:String}{r:List V->Hp->VK->Prop}
end
end L2
namespace L2
section
variable {κ:Type} [DecidableEq κ]
noncomputable def qm (kvs:List (κ×V)) (k:κ):Option V:=(kvs.find? λkv=>decide (kv.1=k)).map (·.2)
noncomputable def qu (kvs:List (κ×V)) (k:κ) (v:V):List (κ×V) :=
 if (kvs.any λkv=>decide (kv.1=k))=true then kvs.map (λkv=>if kv.1=k then (kv.1,v) else kv) else kvs++[(k,v)]
noncomputable def zk (kvs:List (κ×V)) (k:κ):List (κ×V):=kvs.filter λkv=>decide (kv.1≠k)
theorem yY {k:κ}:qm ([]:List (κ×V)) k=none:=rfl
theorem gh {p:κ×V}{r:List (κ×V)}{k:κ}(e:p.1=k):qm (p::r) k=some p.2:=by simp [qm,eG,e]
theorem kj {p:κ×V}{r:List (κ×V)}{k:κ}(e:¬p.1=k):qm (p::r) k=qm r k:=by simp [qm,eG,e]
theorem ym (k:κ):∀kvs:List (κ×V),(kvs.any λkv=>decide (kv.1=k))=(qm kvs k).isSome
 | []=>rfl
 | p::r=>by
  rw [fB]
  by_cases e:p.1=k
  ·simp only [gh e,decide_eq_true e,Bool.true_or,Option.isSome_some]
  ·rw [kj e,decide_eq_false e,Bool.false_or];exact ym k r
theorem vv (kvs:List (κ×V)) (k:κ) (v:V):(qu kvs k v).length<=kvs.length+1:=by
 unfold qu
 split
 ·rw [af];omega
 ·rw [ay,bb,rC];omega
theorem yT {k:κ}(v:V) (h:qm kvs k=none):qu kvs k v=kvs++[(k,v)]:=by
 unfold qu
 rw [ym,h]
 exact if_neg ⋯
theorem yz.isSome_eq (r:yz o u):o.isSome=u.isSome:=by
 cases o with
 | none=>cases u with
  | none=>rfl
  | some _=>exact (show False from r).elim
 | some _=>cases u with
  | none=>exact (show False from r).elim
  | some _=>rfl
theorem yz.getD (r:yz o u) (rd:jK d d'):jK (o.getD d) (u.getD d'):=by
 cases o with
 | none=>cases u with
  | none=>exact rd
  | some _=>exact (show False from r).elim
 | some _=>cases u with
  | none=>exact (show False from r).elim
  | some _=>exact r
theorem KV.val {kvs:List (κ×V)}(r:KV kvs vs) (k:κ):yz (qm kvs k) (me vs k):=by
 unfold KV at r
 induction r with
 | nil=>exact cK
 | @cons p q ps qs h t ih =>
  obtain ⟨h1,h2⟩:=h
  by_cases e:p.1=k
  ·have e':q.1=k:=h1.symm.trans e
   have b:me (q::qs) k=some q.2:=by simp [me,eG,e']
   rw [gh e,b];exact h2
  ·have e':¬q.1=k:=λz=>e (h1.trans z)
   have b:me (q::qs) k=me qs k:=by simp [me,eG,e']
   rw [kj e,b];exact ih
theorem KV.any {kvs:List (κ×V)}{vs:List (κ×ak)}(r:KV kvs vs) (k:κ):(kvs.any λkv=>decide (kv.1=k))=vs.any λkv=>decide (kv.1=k):=by
 unfold KV at r
 induction r with
 | nil=>rfl
 | cons h t ih=>rw [fB,fB,ih,h.1]
theorem KV.repl {kvs:List (κ×V)}(r:KV kvs vs) (k:κ) (ry:jK y u) :
  KV (kvs.map λkv=>if kv.1=k then (kv.1,y) else kv) (vs.map λkv=>if kv.1=k then (kv.1,u) else kv):=by
 unfold KV at r ⊢
 induction r with
 | nil=>exact .nil
 | @cons p q ps qs h t ih =>
  rw [aV,aV]
  refine .cons ?_ ih
  obtain ⟨h1,h2⟩:=h
  by_cases e:p.1=k
  ·rw [if_pos e,if_pos (h1.symm.trans e)];exact ⟨h1,ry⟩
  ·rw [if_neg e,if_neg (λz=>e (h1.trans z))];exact ⟨h1,h2⟩
theorem KV.put {kvs:List (κ×V)}(r:KV kvs vs) (k:κ) (ry:jK y u):KV (qu kvs k y) (stored vs k u):=by
 unfold qu stored
 rw [r.any k]
 by_cases e:(vs.any λkv=>decide (kv.1=k))=true
 ·rw [if_pos e,if_pos e];exact r.repl k ry
 ·rw [if_neg e,if_neg e];exact cE r ⟨rfl,ry⟩
theorem KV.drop {kvs:List (κ×V)}(r:KV kvs vs) (k:κ):KV (zk kvs k) (without vs k):=by
 unfold KV at r ⊢
 unfold zk without
 induction r with
 | nil=>exact .nil
 | @cons p q ps qs h t ih =>
  obtain ⟨h1,h2⟩:=h
  rw [pR,pR]
  by_cases e:p.1=k
  ·have a:¬decide (p.1≠k)=true:=by simp [e]
   have b:¬decide (q.1≠k)=true:=by simp [h1.symm.trans e]
   rw [if_neg a,if_neg b];exact ih
  ·have e':¬q.1=k:=λz=>e (h1.trans z)
   have a:decide (p.1≠k)=true:=by simp [e]
   have b:decide (q.1≠k)=true:=by simp [e']
   rw [if_pos a,if_pos b];exact .cons ⟨h1,h2⟩ ih
theorem KV.length {kvs:List (κ×V)}(r:KV kvs vs):kvs.length=vs.length:=aZ r
theorem XC (kvs:List (κ×V)) (k:κ):(zk kvs k).length<=kvs.length:=bI _ _
end
theorem uH {k:Key}(r:jK (kV k) u):(jS P w).is k u=true:=by
 cases k with
 | inl i=>obtain ⟨t,e⟩:=(show ∃t,u=iO i t from r);subst e;exact QZ P w i t
 | inr x=>obtain ⟨t,e⟩:=(show ∃t,u=lI x t from r);subst e;exact QK P w x t
theorem Jn :∀{ks:List Key}{us:List ak},jJ (ks.map kV) us->ItemsAre (jS P w) ks us
 | [],_,r=>by rw [fh] at r;cases r;exact .nil
 | k::ks,_,r=>by
  rw [aV] at r
  cases r with
  | cons h t=>exact .cons (uH h) (Jn t)
noncomputable abbrev KT (H:Hp):List (List Key×V)->List (List Key×Addr×ak)->Prop:=d8 λp q=>p.1=q.1/\H q.2.1=some (.tup (p.1.map kV))/\jK p.2 q.2.2
theorem KT.val {kvs:List (List Key×V)}{xs:List (List Key×Addr×ak)}(r:KT H kvs xs) (k:List Key):yz (qm kvs k) ((rg xs k).map (·.2)):=by
 induction r with
 | nil=>exact cK
 | @cons p q ps qs h t ih =>
  obtain ⟨h1,_,h2⟩:=h
  by_cases e:p.1=k
  ·have e':q.1=k:=h1.symm.trans e
   have b:rg (q::qs) k=some q.2:=by simp [rg,eG,e']
   rw [gh e,b];exact h2
  ·have e':¬q.1=k:=λz=>e (h1.trans z)
   have b:rg (q::qs) k=rg qs k:=by simp [rg,eG,e']
   rw [kj e,b];exact ih
theorem KT.repl {kvs:List (List Key×V)}{xs:List (List Key×Addr×ak)}(r:KT H kvs xs) (k:List Key) (ry:jK y u) :
  KT H (kvs.map λkv=>if kv.1=k then (kv.1,y) else kv) (xs.map (putAt k u)):=by
 induction r with
 | nil=>exact .nil
 | @cons p q ps qs h t ih =>
  rw [aV,aV]
  refine .cons ?_ ih
  obtain ⟨h1,h2,h3⟩:=h
  unfold putAt
  by_cases e:p.1=k
  ·rw [if_pos e,if_pos (h1.symm.trans e)];exact ⟨h1,h2,ry⟩
  ·rw [if_neg e,if_neg (λz=>e (h1.trans z))];exact ⟨h1,h2,h3⟩
theorem KT.put {kvs:List (List Key×V)}{xs:List (List Key×Addr×ak)}(r:KT H kvs xs) (k:List Key) {b:Addr}(hb:H b=some (.tup (k.map kV))) (ry:jK y u) :
  KT H (qu kvs k y) (storedH xs k b u):=by
 have e:(kvs.any λkv=>decide (kv.1=k))=(rg xs k).isSome:=by
  rw [ym,(r.val k).isSome_eq,ly]
 unfold qu storedH
 rw [e]
 by_cases q:(rg xs k).isSome=true
 ·rw [if_pos q,if_pos q];exact r.repl k ry
 ·rw [if_neg q,if_neg q];exact cE r ⟨rfl,hb,ry⟩
theorem KT.keeps {H':Hp}{kvs:List (List Key×V)}{xs:List (List Key×Addr×ak)}(r:KT H kvs xs) (ht:∀b ys,H b=some (.tup ys)->H' b=some (.tup ys)):KT H' kvs xs :=
 Paired.mapP r λ_ _ z=>⟨z.1,ht _ _ z.2.1,z.2.2⟩
section
variable {P:Program}{w:bp}{H:Hp}{h:Heap}{a:Addr}
theorem Wd (ok:HOk P w H h) (e:Rd H a u):qv P w H h a u:=e.ok ok
theorem yl (ok:HOk P w H h) (e:Rd H a (.dK kvs)):kvs.length<=sizeLine/\(a == dW)=false/\∃vs,KV kvs vs/\h.DictOf (jS P w) a vs :=
 show qv P w H h a (.dK kvs) from Wd ok e
theorem Qy (ok:HOk P w H h) (e:H a=some (.dK kvs)):kvs.length<=sizeLine/\(a == dW)=false/\∃vs,KV kvs vs/\h.DictOf (jS P w) a vs:=yl ok (.inl e)
theorem uM {ks:List Key}(ok:HOk P w H h) (e:H a=some (.tup (ks.map kV))):(lK (jS P w)).is h ks a:=by
 obtain ⟨_,its,r,o,h1,h2,n,h3⟩:=(show qv P w H h a (.tup (ks.map kV)) from ok a _ e)
 exact ⟨o,its.toArray,n,h1,h2,h3,by simpa using Jn r⟩
theorem wQ (ok:HOk P w H h) (e:Rd H a (.dT kvs)):kvs.length<=sizeLine/\(a == dW)=false /\
  ∃xs,KT H kvs xs/\h.DictOfH (lK (jS P w)) a xs:=by
 obtain ⟨z,y,xs,r,o,es,ep,h1,h2,h3,h4,h5⟩:=(show qv P w H h a (.dT kvs) from Wd ok e)
 refine ⟨z,y,xs,r,o,es,ep,h1,h2,h3,h4,λx hx=>?_,h5⟩
 have all:∀{l:List (List Key×V)} {m:List (List Key×Addr×ak)},KT H l m->∀x∈m,(lK (jS P w)).is h x.1 x.2.1:=by
  intro l m q
  induction q with
  | nil=>intro x hx;exact nomatch hx
  | @cons p q ps qs hq t ih =>
   intro x hx
   rcases List.mem_cons.mp hx with e | hx
   ·subst e
    exact uM ok (by rw [<- hq.1];exact hq.2.1)
   ·exact ih x hx
 exact all r x hx
theorem Ep (ok:HOk P w H h) (e:H a=some (.dT kvs)):kvs.length<=sizeLine/\(a == dW)=false /\
  ∃xs,KT H kvs xs/\h.DictOfH (lK (jS P w)) a xs:=wQ ok (.inl e)
end
noncomputable def qc (H:Hp) (a:Addr) (y:V) (r:Option V):Prop :=
 (∃kvs k,Rd H a (.dK kvs)/\y=kV k/\r=qm kvs k)\/∃kvs k b,Rd H a (.dT kvs)/\y = .ref b/\H b=some (.tup (k.map kV))/\r=qm kvs k
noncomputable def vG (H:Hp) (a:Addr) (y v:V) (H':Hp):Prop :=
 (∃kvs k,H a=some (.dK kvs)/\y=kV k/\kvs.length<sizeLine/\H'=upd H a (.dK (qu kvs k v))) \/
 ∃kvs k b,H a=some (.dT kvs)/\y = .ref b/\H b=some (.tup (k.map kV))/\kvs.length<sizeLine/\H'=upd H a (.dT (qu kvs k v))
theorem qc.k {H:Hp}{kvs:List (Key×V)}{k:Key}(e:H a=some (.dK kvs)):qc H a (kV k) (qm kvs k):=.inl ⟨kvs,k,.inl e,rfl,rfl⟩
theorem vG.k {H:Hp}{kvs:List (Key×V)}{k:Key}(e:H a=some (.dK kvs)) (hl:kvs.length<sizeLine):vG H a (kV k) v (upd H a (.dK (qu kvs k v))):=.inl ⟨kvs,k,e,rfl,hl,rfl⟩
section
variable {X:Cx}{pins:List (Addr×Obj)}{σ:St}{H:Hp}{s:Shared}{a:Addr}{y v:V}{u r:ak}{o:Option V}{A:br}{E:ak->Shared->Prop}
theorem Inv.big (I:Inv X pins σ H s):dW<s.heap.objs.size:=by
 have h:mainGlobals<s.heap.objs.size:=(I.mod.glob.keeps I.bk).lt
 exact Nat.lt_trans ⋯ h
theorem V1 {Q:ak->Shared->Prop}(hu:A.units+1<cLine) (I:Inv X pins σ H s) (g:qc H a y (some v)) (ry:jK y u) (h:∀w' s',Inv X pins σ H s'->jK v w'->Q w' s') :
  az ↥6 A (iK (.ref a) u) Q E s:=by
 rcases g with ⟨kvs,k,e,ey,l⟩ | ⟨kvs,k,b,e,ey,eb,l⟩
 ·subst ey
  obtain ⟨z,hd,vs,rel,dd⟩:=yl I.hok e
  obtain ⟨w',hw,rw'⟩:=yz.some_of (v:=v) (o:=me vs k) (by rw [l];exact rel.val k)
  exact wpAny_getItem_of (uH ry) dd.mapOf hw (h w' _ (I.tok _) rw')
 ·subst ey
  cases (show u=aS b from ry)
  obtain ⟨z,hd,xs,rel,dd⟩:=wQ I.hok e
  obtain ⟨w',hw,rw'⟩:=yz.some_of (v:=v) (o:=(rg xs k).map (·.2)) (by rw [l];exact rel.val k)
  obtain ⟨p,hp,hp2⟩:=Option.map_eq_some_iff.mp hw
  refine wpAny_getItem_heap (eA hu) (uM I.hok eb) dd hp ?_
  rw [hp2]
  exact h w' _ (I.tok _) rw'
theorem d_in {Q:ak->Shared->Prop}(hu:A.units+1<cLine) (I:Inv X pins σ H s) (g:qc H a y o) (ry:jK y u) (h:∀s',Inv X pins σ H s'->Q (.bool o.isSome) s') :
  az ↥6 A (cf .In u (.ref a)) Q E s:=by
 rcases g with ⟨kvs,k,e,ey,l⟩ | ⟨kvs,k,b,e,ey,eb,l⟩
 ·subst ey
  obtain ⟨z,hd,vs,rel,dd⟩:=yl I.hok e
  refine wpAny_in_of (uH ry) hd dd.mapOf ?_
  rw [<- (rel.val k).isSome_eq,<- l]
  exact h _ (I.tok _)
 ·subst ey
  cases (show u=aS b from ry)
  obtain ⟨z,hd,xs,rel,dd⟩:=wQ I.hok e
  refine wpAny_in_heap (eA hu) (uM I.hok eb) hd dd ?_
  have q:=(rel.val k).isSome_eq
  rw [ly] at q
  rw [<- q,<- l]
  exact h _ (I.tok _)
theorem Uu {Q:ak->Shared->Prop}(hu:A.units+1<cLine) (I:Inv X pins σ H s) (g:qc H a y o) (ry:jK y u) (h:∀s',Inv X pins σ H s'->Q (.bool (!o.isSome)) s') :
  az ↥6 A (cf .NotIn u (.ref a)) Q E s:=by
 rcases g with ⟨kvs,k,e,ey,l⟩ | ⟨kvs,k,b,e,ey,eb,l⟩
 ·subst ey
  obtain ⟨z,hd,vs,rel,dd⟩:=yl I.hok e
  refine wpAny_notIn_of (uH ry) hd dd.mapOf ?_
  rw [<- (rel.val k).isSome_eq,<- l]
  exact h _ (I.tok _)
 ·subst ey
  cases (show u=aS b from ry)
  obtain ⟨z,hd,xs,rel,dd⟩:=wQ I.hok e
  refine wpAny_notIn_heap (eA hu) (uM I.hok eb) hd dd ?_
  have q:=(rel.val k).isSome_eq
  rw [ly] at q
  rw [<- q,<- l]
  exact h _ (I.tok _)
theorem uw {t':Nat}(I:Inv X pins σ H s) (mu:Mut (H a)) (hs:dY a s.heap h') (he:∃q,h'.get? a=some q) (new:qv X.prog X.w (upd H a ob) h' a ob) :
  Inv X pins σ (upd H a ob) { s with heap:=h',toks:=t' } :=
 I.write (x:=a) (e:=a) mu (.inl rfl) (λb q hb z=>(hs.2 b hb).trans z) he new
theorem kZ {h':Heap}{kvs:List (Key×V)}(z:kvs.length<=sizeLine) (hd:(a == dW)=false) (rel:KV kvs vs) (dd:h'.DictOf (jS P w) a vs) :
  qv P w H' h' a (.dK kvs):=⟨z,hd,vs,rel,dd⟩
theorem YR {Q:Unit->Shared->Prop}(hu:A.units+1<cLine) (I:Inv X pins σ H s) (g:vG H a y v H') (ry:jK y u) (rv:jK v r) (h:∀s',Inv X pins σ H' s'->Q () s') :
  az ↥6 A (setItem (.ref a) u r) Q E s:=by
 rcases g with ⟨kvs,k,e,ey,l,eH⟩ | ⟨kvs,k,b,e,ey,eb,l,eH⟩
 ·subst ey eH
  obtain ⟨z,hd,vs,rel,dd⟩:=Qy I.hok e
  have hz:vs.length<=sizeLine:=by rw [<- rel.length];exact z
  have hl:(qu kvs k v).length<=sizeLine:=by have:=vv kvs k v;omega
  refine wpAny_setItem_pairs (hsz:=hz) (uH ry) dd λh' dd' hs=>h _ ?_
  have he:∃q,h'.get? a=some q:=let ⟨q,_,_,hq,_⟩:=dd';⟨q,hq⟩
  exact uw I (by rw [e];exact cK) hs he (kZ hl hd (rel.put k rv) dd')
 ·subst ey eH
  cases (show u=aS b from ry)
  obtain ⟨z,hd,xs,rel,dd⟩:=Ep I.hok e
  have hz:xs.length<=sizeLine:=by rw [<- aZ rel];exact z
  have hl:(qu kvs k v).length<=sizeLine:=by have:=vv kvs k v;omega
  refine wpAny_setItem_heap (hsz:=hz) (eA hu) (uM I.hok eb) dd λh' dd' hs=>h _ ?_
  obtain ⟨q,es,ep,hq,h2,h3,h4,_,h5⟩:=dd'
  refine uw I (by rw [e];exact cK) hs ⟨q,hq⟩ ⟨hl,hd,_,(rel.put k eb rv).keeps λc ys ec=>?_,q,es,ep,hq,h2,h3,h4,h5⟩
  rw [j9 (jg ec e (λz=>nomatch z))]
  exact ec
end
section
variable {X:Cx}{pins:List (Addr×Obj)}{σ:St}{H:Hp}{s:Shared}{a:Addr}{kvs:List (Key×V)}{k:Key}{u:ak}{A:br}{E:ak->Shared->Prop}
theorem YV {Q:Unit->Shared->Prop}(I:Inv X pins σ H s) (e:H a=some (.dK kvs)) (ry:jK (kV k) u) (l:(qm kvs k).isSome=true) (h:∀s',Inv X pins σ (upd H a (.dK (zk kvs k))) s'->Q () s') :
  az ↥6 A (delItem (.ref a) u) Q E s:=by
 obtain ⟨z,hd,vs,rel,dd⟩:=Qy I.hok e
 refine wpAny_delItem_slot dd.typeIs ⋯ lj
  (mf lj dd.typeIs PySem.F.entry_dict_delitem (PySem.F.args_dict_delitem_2 _ _) (meets_dict_delitem_pairs (jS X.prog X.w) a (uH ry)) ⟨vs,dd,by rw [<- rel.length];exact z,by rw [<- (rel.val k).isSome_eq];exact l,λh' dd' hs=>h _ ?_⟩)
 have he:∃q,h'.get? a=some q:=let ⟨q,_,_,hq,_⟩:=dd';⟨q,hq⟩
 exact uw I (by rw [e];exact cK) hs he (kZ (aE (XC kvs k) z) hd (rel.drop k) dd')
theorem Ei {more:List ak}{Q:ak->Shared->Prop}(I:Inv X pins σ H s) (e:H a=some (.dK kvs)) (ry:jK (kV k) u) (l:qm kvs k=some v) (hm:more=[]\/∃x,more=[x])
  (h:∀w' s',Inv X pins σ (upd H a (.dK (zk kvs k))) s'->jK v w'->Q w' s'):az ↥6 A (call (.builtin "dict.pop") (.ref a::u::more)) Q E s:=by
 obtain ⟨z,hd,vs,rel,dd⟩:=Qy I.hok e
 obtain ⟨w',hw,rw'⟩:=yz.some_of (v:=v) (o:=me vs k) (by rw [<- l];exact rel.val k)
 have hp:(keyPart u).isSome=true:=by
  cases k with
  | inl i=>obtain ⟨t,q⟩:=(show ∃t,u=iO i t from ry);subst q;rfl
  | inr x=>obtain ⟨t,q⟩:=(show ∃t,u=lI x t from ry);subst q;rfl
 have ha:argsOk "dict.pop" ⟨.ref a::u::more,[]⟩:=by
  rcases hm with q | ⟨x,q⟩
  ·subst q;exact PySem.F.args_dict_pop_2 _ _
  ·subst q;exact PySem.F.args_dict_pop_3 _ _ _
 refine mf mB dd.typeIs PySem.F.entry_dict_pop ha (meets_dict_pop_there (jS X.prog X.w) a (uH ry) more hm hp)
  ⟨vs,w',dd,by rw [<- rel.length];exact z,hw,λh' dd' hs=>h w' _ ?_ rw'⟩
 have he:∃q,h'.get? a=some q:=let ⟨q,_,_,hq,_⟩:=dd';⟨q,hq⟩
 exact uw I (by rw [e];exact cK) hs he (kZ (aE (XC kvs k) z) hd (rel.drop k) dd')
end
noncomputable def E1 (i:Expr):Prop:=∀ov iv,mG i false ov iv=operate [ov,iv] (iK ov iv)
theorem Uz {prog:Program}{w:bp}{A:br}{E:ak->Shared->Prop}{s:Shared}{env:Env}{value slice:Expr}{pos:Pos}{T id:String}{Q:ak->Shared->Prop}
  (hl:rR (.type T) "__getitem__" = pure (some (.builtin id))) (hs:E1 slice)
  (h:az (aC prog w) A (eval value env) (λo s₁=>az (aC prog w) A (eval slice env) (λi s₂=>s₂.TypeIs o T/\az (aC prog w) A (iK o i) Q E s₂) E s₁) E s) :
  az (aC prog w) A (eval (.Subscript value slice pos) env) Q E s:=by
 refine lZ (aX h (λo s₁ h₁=>aX h₁ (λi s₂ h₂=>?_) λ_ _ x=>x) λ_ _ x=>x)
 obtain ⟨hT,h₂⟩:=h₂
 unfold ik
 refine aa ?_
 rw [getitemInPython_of_ne hT.not_modules]
 refine aa (rA hT hl ?_)
 have fin:az (aC prog w) A (mG slice false o i) (λr s₃=>az (aC prog w) A (letTemporaryGo value o r >>= λ_=>pure r) Q E s₃) E s₂:=by
  rw [hs o i]
  exact wpAny_operating (aX h₂ (λr s₃ h₃=>aa (wpAny_letTemporaryGo (wpAny_pure h₃))) λ_ _ x=>x)
 first
  | exact wpAny_pure (aa fin)
  | exact aa (wpAny_pure (aa fin))
  | exact aa fin
theorem Xi (I:Inv X pins σ H s) (g:qc H a y o):s.TypeIs (.ref a) "dict":=by
 rcases g with ⟨kvs,k,e,_,_⟩ | ⟨kvs,k,b,e,_,_,_⟩
 ·obtain ⟨_,_,vs,_,dd⟩:=yl I.hok e
  exact dd.typeIs
 ·obtain ⟨_,_,xs,_,dd⟩:=wQ I.hok e
  exact dd.typeIs
noncomputable def Eh (td ty:TE):TE:=λσ H Q=>td σ H λx H1=>ty σ H1 λy H2=>∃a v,x = .ref a/\qc H2 a y (some v)/\Q v H2
noncomputable def tDIn (ty td:TE):TE:=λσ H Q=>ty σ H λy H1=>td σ H1 λx H2=>∃a o,x = .ref a/\qc H2 a y o/\Q (.bl o.isSome) H2
noncomputable def Uy (ty td:TE):TE:=λσ H Q=>ty σ H λy H1=>td σ H1 λx H2=>∃a o,x = .ref a/\qc H2 a y o/\Q (.bl (!o.isSome)) H2
noncomputable def Ej (td ty tv:TE):TS:=λD σ H=>tv σ H λv H1=>td σ H1 λx H2=>ty σ H2 λy H3=>∃a H4,x = .ref a/\vG H3 a y v H4/\D.nx σ H4
noncomputable def E9 (td ty:TE):TS:=λD σ H=>td σ H λx H1=>ty σ H1 λy H2=>∃a kvs k,x = .ref a/\H2 a=some (.dK kvs)/\y=kV k/\(qm kvs k).isSome=true/\D.nx σ (upd H2 a (.dK (zk kvs k)))
section
variable {X:Cx}{o i e value:Expr}{pos pos' tpos:Pos}{td ty tv:TE}
theorem jy (hu:X.A.units+1<cLine) (ho:PE X o td) (hi:PE X i ty) (hs:E1 i):PE X (.Subscript o i pos) (Eh td ty):=by
 intro pins s σ H Q I h
 refine Uz PySem.F.slot_dict_getitem.lookup hs (thn (ho pins s σ H _ I h) λu s1 ⟨x,H1,I1,rx,q1⟩=>thn (hi pins s1 σ H1 _ I1 q1) λiv s2 ⟨y,H2,I2,ry,a,v,ex,g,q2⟩=>?_)
 subst ex
 obtain rfl:u=aS a:=rx
 exact ⟨Xi I2 g,V1 hu I2 g ry λw' s3 I3 rw'=>⟨v,H2,I3,rw',q2⟩⟩
theorem Gv (hu:X.A.units+1<cLine) (hi:PE X i ty) (ho:PE X o td):PC X .In i o (tDIn ty td):=by
 intro pins s σ H Q I h
 refine thn (hi pins s σ H _ I h) λiv s1 ⟨y,H1,I1,ry,q1⟩=>thn (ho pins s1 σ H1 _ I1 q1) λu s2 ⟨x,H2,I2,rx,a,ov,ex,g,q2⟩=>?_
 subst ex
 obtain rfl:u=aS a:=rx
 exact d_in hu I2 g ry λs3 I3=>⟨.bl ov.isSome,H2,I3,rfl,q2⟩
theorem vA (hu:X.A.units+1<cLine) (hi:PE X i ty) (ho:PE X o td):PC X .NotIn i o (Uy ty td):=by
 intro pins s σ H Q I h
 refine thn (hi pins s σ H _ I h) λiv s1 ⟨y,H1,I1,ry,q1⟩=>thn (ho pins s1 σ H1 _ I1 q1) λu s2 ⟨x,H2,I2,rx,a,ov,ex,g,q2⟩=>?_
 subst ex
 obtain rfl:u=aS a:=rx
 exact Uu hu I2 g ry λs3 I3=>⟨.bl (!ov.isSome),H2,I3,rfl,q2⟩
theorem xh (hu:X.A.units+1<cLine) (ho:PE X o td) (hi:PE X i ty) (hv:PE X value tv) (hs:iP value (some (.Subscript o i pos')) pos.line X.env=pure false) :
  PS X (.Assign [.Subscript o i pos'] value pos) (Ej td ty tv):=by
 intro pins s σ H D I h
 refine wpAny_Assign_Subscript (thn (hv pins s σ H _ I h) λr s1 ⟨v,H1,I1,rv,q1⟩=>thn (ho pins s1 σ H1 _ I1 q1) λu s2 ⟨x,H2,I2,rx,q2⟩=>thn (hi pins s2 σ H2 _ I2 q2) λiv s3 ⟨y,H3,I3,ry,a,H4,ex,g,q3⟩=>?_) hs
 subst ex
 obtain rfl:u=aS a:=rx
 exact YR hu I3 g ry rv λs4 I4=>⟨σ,H4,I4,q3⟩
theorem Yd (ho:PE X o td) (hi:PE X i ty):PS X (.Delete [.Subscript o i tpos] pos) (E9 td ty):=by
 intro pins s σ H D I h
 refine wpAny_Delete (wpAny_deleteEach_cons (wpAny_delete_Subscript (thn (ho pins s σ H _ I h) λu s1 ⟨x,H1,I1,rx,q1⟩=>thn (hi pins s1 σ H1 _ I1 q1) λiv s2 ⟨y,H2,I2,ry,a,kvs,k,ex,e,ey,l,q2⟩=>?_)))
 subst ex ey
 obtain rfl:u=aS a:=rx
 exact YV I2 e ry l λs3 I3=>wpAny_deleteEach_nil ⟨σ,_,I3,q2⟩
end
theorem QA (h:Heap) (hb:dW<h.objs.size):qv P w H (h.push { cls:=.type "dict",data:=.dict #[] }) h.objs.size (.dK []) :=
 ⟨aP _,beq_eq_false_iff_ne.mpr (cG (aB hb)),[],.nil,Heap.DictOf.new h⟩
noncomputable def WF:TE:=λ_ H Q=>∀p,H p=none->Q (.ref p) (upd H p (.dK []))
section
variable {X:Cx}{pos:Pos}
theorem ur:PE X (.Dict [] [] pos) WF:=λpins s σ H Q I h =>
 wpAny_Dict_empty ⟨.ref s.heap.objs.size,_,I.laid (a:=s.heap.objs.size) (o:=.dK []) (t':=s.toks) (λ_ _ q=>aj _ q) (av _) (QA s.heap I.big),rfl,h _ (I.hok.fresh (av _))⟩
end
noncomputable def Zu:List (TE×TE)->St->Hp->(List (V×V)->Hp->Prop)->Prop
 | [],_,H,Q=>Q [] H
 | (tk,tv)::r,σ,H,Q=>tk σ H λx H1=>tv σ H1 λy H2=>Zu r σ H2 λps H3=>Q ((x,y)::ps) H3
noncomputable abbrev VV:List (V×V)->List (ak×ak)->Prop:=d8 λp q=>jK p.1 q.1/\jK p.2 q.2
noncomputable def PPs (X:Cx) (pos:Pos) (keys:List (Option Expr)) (values:List Expr) (trs:List (TE×TE)):Prop :=
 ∀(pins:List (Addr×Obj)) (s:Shared) (σ:St) (H:Hp) (Q:List (V×V)->Hp->Prop),Inv X pins σ H s->Zu trs σ H Q ->
  az ↥6 X.A (evalPairs (pairTrees keys values X.env pos)) (λvs s'=>∃ps H',Inv X pins σ H' s'/\VV ps vs/\Q ps H') X.xe s
theorem UJ :PPs X pos [] [] []:=λpins s σ H Q I h=>pairTrees_nil_walk ⟨[],H,I,.nil,h⟩
theorem km {k:Expr}(hk:PE X k tk) (hv:PE X v tv) (hr:PPs X pos ks vs trs) :
  PPs X pos (some k::ks) (v::vs) ((tk,tv)::trs):=λpins s σ H Q I h =>
 pairTrees_cons_walk (thn (hk pins s σ H _ I h) λu s1 ⟨x,H1,I1,rx,q1⟩=>thn (hv pins s1 σ H1 _ I1 q1) λw2 s2 ⟨y,H2,I2,ry,q2⟩ =>
  thn (hr pins s2 σ H2 _ I2 q2) λws s3 ⟨ps,H3,I3,rel,q3⟩=>⟨(x,y)::ps,H3,I3,.cons ⟨rx,ry⟩ rel,q3⟩)
noncomputable def x9 (kvs more:List (Key×V)):List (Key×V):=more.foldl (λacc kv=>qu acc kv.1 kv.2) kvs
theorem KV.merge:∀{more:List (Key×V)}{rs:List (Key×ak)}{kvs:List (Key×V)}{vs:List (Key×ak)},KV more rs->KV kvs vs->KV (x9 kvs more) (merged vs rs):=by
 intro more rs kvs vs r
 unfold KV at r
 induction r generalizing kvs vs with
 | nil=>intro q;exact q
 | @cons p q ps qs h t ih =>
  intro r0
  have e:KV (qu kvs p.1 p.2) (stored vs q.1 q.2):=by
   have:=r0.put p.1 h.2
   rw [<- h.1];exact this
  exact ih e
theorem yd:∀(more kvs:List (Key×V)),(x9 kvs more).length<=kvs.length+more.length
 | [],kvs=>by show kvs.length<=kvs.length+0;omega
 | p::r,kvs=>by
  have h1:=yd r (qu kvs p.1 p.2)
  have h2:=vv kvs p.1 p.2
  show (x9 (qu kvs p.1 p.2) r).length<=_
  rw [bb];omega
theorem gp :∀{kvs:List (Key×V)}{ws:List (ak×ak)},VV (kvs.map λkv=>(kV kv.1,kv.2)) ws->∃rs,Carries (jS P w) ws rs/\KV kvs rs
 | [],_,r=>by rw [fh] at r;cases r;exact ⟨[],cK,.nil⟩
 | p::kvs,_,r=>by
  rw [aV] at r
  cases r with
  | @cons a b as bs h t =>
   obtain ⟨rs,c,q⟩:=gp (P:=P) (w:=w) t
   obtain ⟨b1,b2⟩:=b
   exact ⟨(p.1,b2)::rs,⟨uH h.1,rfl,c⟩,.cons ⟨rfl,h.2⟩ q⟩
noncomputable def Ee (trs:List (TE×TE)):TE:=λσ H Q=>∀p,H p=none->Zu trs σ (upd H p (.dK [])) λps H2=>H2 p=some (.dK [])/\∃kvs:List (Key×V),ps=kvs.map (λkv=>(kV kv.1,kv.2))/\kvs.length<=15/\Q (.ref p) (upd H2 p (.dK (x9 [] kvs)))
theorem UQ (h:PPs X pos keys values trs) (hall:keys.all (·.isSome)=true) (hl:keys.length=values.length) (h0:keys≠[])
  (h15:keys.length<=15):PE X (.Dict keys values pos) (Ee trs):=by
 intro pins s σ H Q I q
 have hn:=I.hok.fresh (av s.heap.objs.size)
 have I1:=I.laid (a:=s.heap.objs.size) (o:=.dK []) (h':=s.heap.push { cls:=.type "dict",data:=.dict #[] }) (t':=s.toks) (λ_ _ q=>aj _ q) (av _) (QA s.heap I.big)
 refine wpAny_Dict_walk (knd:=jS X.prog X.w) hall hl h0 h15 (thn (h pins _ σ _ _ I1 (q _ hn)) λws s2 ⟨ps,H2,I2,rel,e,kvs,ep,lk,q2⟩=>?_)
 subst ep
 obtain ⟨rs,c,rk⟩:=gp (P:=X.prog) (w:=X.w) rel
 obtain ⟨z,hd,vs0,r0,dd⟩:=Qy I2.hok e
 cases r0
 refine ⟨rs,c,dd,λh' dd' hs=>⟨.ref s.heap.objs.size,_,?_,rfl,q2⟩⟩
 have hz:(x9 [] kvs).length<=sizeLine:=by
  have h1:=yd kvs []
  rw [rC] at h1
  rw [bH];omega
 have he:∃q,h'.get? s.heap.objs.size=some q:=let ⟨q,_,_,hq,_⟩:=dd';⟨q,hq⟩
 exact uw I2 (by rw [e];exact cK) hs he (kZ hz hd (rk.merge .nil) dd')
structure M1 (X:Cx) (o:Expr) (m:Str) (apos:Pos) (e:Expr) (cpos:Pos):Prop where
 base:eJ o m X.env (eval o X.env)=eval o X.env
 few:((cp cpos (aJ [e] X.env)).all (λx=>!x.1) && (ft cpos (dh [] X.env)).all (λx=>x.1.isSome)
  && decide (([e]:List Expr).length+([]:List iJ).length+(if ([]:List iJ).isEmpty then 0 else 1)<30))=true
 line:(apos.endLine == cpos.line)=true
 trees:cp cpos (aJ [e] X.env)=[↥45]
structure M2 (X:Cx) (o:Expr) (m:Str) (apos:Pos) (e f:Expr) (cpos:Pos):Prop where
 base:eJ o m X.env (eval o X.env)=eval o X.env
 few:((cp cpos (aJ [e,f] X.env)).all (λx=>!x.1) && (ft cpos (dh [] X.env)).all (λx=>x.1.isSome)
  && decide (([e,f]:List Expr).length+([]:List iJ).length+(if ([]:List iJ).isEmpty then 0 else 1)<30))=true
 line:(apos.endLine == cpos.line)=true
 trees:cp cpos (aJ [e,f] X.env)=[↥45,(false,eval f X.env)]
noncomputable def IsD (H:Hp) (a:Addr):Prop:=(∃kvs,Rd H a (.dK kvs))\/∃kvs,Rd H a (.dT kvs)
theorem U3 (I:Inv X pins σ H s) (d:IsD H a) :
  s.TypeIs (.ref a) "dict" /\ (∀b,aS a = .ref b->∃ob,s.heap.get? b=some ob/\ob.dict=none)/\(a == dW)=false:=by
 rcases d with ⟨kvs,e⟩ | ⟨kvs,e⟩
 ·obtain ⟨_,hd,vs,_,dd⟩:=yl I.hok e
  refine ⟨dd.typeIs,λb q=>?_,hd⟩
  cases q
  obtain ⟨ob,_,_,h1,h2,_⟩:=dd
  exact ⟨ob,h1,h2.2.1⟩
 ·obtain ⟨_,hd,xs,_,dd⟩:=wQ I.hok e
  refine ⟨dd.typeIs,λb q=>?_,hd⟩
  cases q
  obtain ⟨ob,_,_,h1,h2,_⟩:=dd
  exact ⟨ob,h1,h2.2.1⟩
section
variable {X:Cx}{pins:List (Addr×Obj)}{σ:St}{H:Hp}{s:Shared}{a:Addr}{y d:V}{u r:ak}{o:Option V}{A:br}{E:ak->Shared->Prop}
theorem Wt {Q:ak->Shared->Prop}(hu:A.units+1<cLine) (I:Inv X pins σ H s) (g:qc H a y o) (ry:jK y u) (rd:jK d r) (h:∀w' s',Inv X pins σ H s'->jK (o.getD d) w'->Q w' s') :
  az ↥6 A (call (.builtin "dict.get") [.ref a,u,r]) Q E s:=by
 rcases g with ⟨kvs,k,e,ey,l⟩ | ⟨kvs,k,b,e,ey,eb,l⟩
 ·subst ey
  obtain ⟨z,hd,vs,rel,dd⟩:=yl I.hok e
  refine mf i6 dd.typeIs mh (lS _ _ _) (meets_dict_get_default (jS X.prog X.w) a (uH ry) hd r) ⟨_,dd.mapOf,h _ _ (I.tok _) ?_⟩
  rw [l]
  exact (rel.val k).getD rd
 ·subst ey
  cases (show u=aS b from ry)
  obtain ⟨z,hd,xs,rel,dd⟩:=wQ I.hok e
  refine mf i6 dd.typeIs mh (lS _ _ _) (meetsH_dict_get_default (lK (jS X.prog X.w)) a b hd r) ⟨eA hu,k,xs,uM I.hok eb,dd,h _ _ (I.tok _) ?_⟩
  rw [l]
  exact (rel.val k).getD rd
end
noncomputable def WU (td ty tx:TE):TE:=λσ H Q=>td σ H λx H1=>∃a,x = .ref a/\IsD H1 a/\ty σ H1 λy H2=>tx σ H2 λz H3=>∃o,qc H3 a y o/\Q (o.getD z) H3
noncomputable def Gr (td ty:TE):TE:=λσ H Q=>td σ H λx H1=>∃a,x = .ref a/\IsD H1 a/\ty σ H1 λy H2=>∃kvs k v,H2 a=some (.dK kvs)/\y=kV k/\qm kvs k=some v/\Q v (upd H2 a (.dK (zk kvs k)))
section
variable {X:Cx}{o e f:Expr}{apos cpos:Pos}{td ty tx:TE}
theorem VQ (hu:X.A.units+1<cLine) (ho:PE X o td) (he:PE X e ty) (hf:PE X f tx) (m:M2 X o "get" apos e f cpos):PE X (.Call (.Attribute o "get" apos) [e,f] [] cpos) (WU td ty tx):=by
 intro pins s σ H Q I h
 refine ph m.base m.few m.line lT i6 PySem.F.type_dict_get (thn (ho pins s σ H _ I h) λu s1 ⟨x,H1,I1,rx,a,ex,d,q1⟩=>?_)
 subst ex
 obtain rfl:u=aS a:=rx
 obtain ⟨t1,t2,_⟩:=U3 I1 d
 refine ⟨t1,t2,?_⟩
 rw [m.trees]
 refine fW rfl (eX (fJ (thn (he pins s1 σ H1 _ I1 q1) λiv s2 ⟨y,H2,I2,ry,q2⟩ =>
  fJ (thn (hf pins s2 σ H2 _ I2 q2) λfv s3 ⟨z,H3,I3,rz,ov,g,q3⟩=>lr ?_))))
 exact Wt hu I3 g ry rz λw' s4 I4 rw'=>⟨_,H3,I4,rw',q3⟩
theorem QB (ho:PE X o td) (he:PE X e ty) (m:M1 X o "pop" apos e cpos):PE X (.Call (.Attribute o "pop" apos) [e] [] cpos) (Gr td ty):=by
 intro pins s σ H Q I h
 refine ph m.base m.few m.line lT mB PySem.F.type_dict_pop (thn (ho pins s σ H _ I h) λu s1 ⟨x,H1,I1,rx,a,ex,d,q1⟩=>?_)
 subst ex
 obtain rfl:u=aS a:=rx
 obtain ⟨t1,t2,_⟩:=U3 I1 d
 refine ⟨t1,t2,?_⟩
 rw [m.trees]
 refine fW rfl (eX (fJ (thn (he pins s1 σ H1 _ I1 q1) λiv s2 ⟨y,H2,I2,ry,kvs,k,v,ea,ey,l,q2⟩=>lr ?_)))
 subst ey
 exact Ei I2 ea ry l (.inl rfl) λw' s3 I3 rw'=>⟨v,_,I3,rw',q2⟩
end
section
variable {X:Cx}{pins:List (Addr×Obj)}{σ:St}{H:Hp}{s:Shared}{a:Addr}{kvs:List (Key×V)}{A:br}{E:ak->Shared->Prop}
end
section
variable {X:Cx}{pins:List (Addr×Obj)}{σ:St}{H:Hp}{s:Shared}{a:Addr}{y:V}{u:ak}{A:br}{E:ak->Shared->Prop}
end
end L2
namespace Att
open PySem PySem.W PySem.Calls PyProof.Rows
section
variable {prog:Program}{w:bp}{A:br}{E:ak->Shared->Prop}{s:Shared}{K:Frag}
end
end Att
namespace L2
end L2
namespace L2
end L2
namespace L2
section
variable {P:Program}{w:bp}{K:ah}{mg:Str->Option ak}{base:Heap}
end
section
variable {X:Cx}
end
section
variable {κ:Type} [DecidableEq κ]
theorem JQ {k:κ}(h:qm kvs k=some v):k∈kvs.map (·.1):=by
 have q:(kvs.any λkv=>decide (kv.1=k))=true:=by
  rw [ym,h]
  all_goals rfl
 obtain ⟨p,hp,e⟩:=List.any_eq_true.mp q
 exact List.mem_map.mpr ⟨p,hp,of_decide_eq_true e⟩
theorem vE:∀{l:List κ}{k:κ},l.Nodup->¬k∈l->(l++[k]).Nodup
 | [],k,_,_=>by simp
 | a::r,k,h,hk=>by
  obtain ⟨h1,h2⟩:=List.nodup_cons.mp h
  show (a::(r++[k])).Nodup
  refine List.nodup_cons.mpr ⟨λm=>?_,vE h2 λm=>hk (List.mem_cons.mpr (ib m))⟩
  rcases List.mem_append.mp m with q | q
  ·exact h1 q
  ·exact hk (List.mem_cons.mpr (bf (List.mem_singleton.mp q).symm))
end
end L2
end
section
namespace L2
open PySem.W
section
variable {prog:Program}{w:bp}{A:br}{E:ak->Shared->Prop}{s:Shared}
theorem wj {its:List ak}{κ:rY}{lt:Nat->Nat->Bool}{G:List Nat->Prop}{Q:ak->Shared->Prop}(h64:its.length<64)
  (hk:2<=its.length->∀h',↥56->∀Q':rY->Shared->Prop,Q' κ { s with heap:=h' }->az (aC prog w) A.in1.in1 (keyKind' its.toArray) Q' (λ_ _=>False) { s with heap:=h' })
  (hc:∀h',↥56->∀i j,i<its.length->j<its.length->∀Q':Bool->Shared->Prop,Q' (lt i j) { s with heap:=h' } ->
   az (aC prog w) A.in1.in1 (keyLt' κ (its.getD i aT) (its.getD j aT)) Q' (λ_ _=>False) { s with heap:=h' })
  (hs:2<=its.length->x3 lt its.length (sY its.length) λp=>qy its.length p/\G p.toList) (h1:its.length<2->G (aW its.length))
  (h:∀(ix:List Nat) (h':Heap) (n:Nat),ix.Perm (aW its.length)->G ix->↥56 ->
   h'.get? (s.heap.objs.size)=some (bu "list" (↥53).toArray n)->Q (.ref (s.heap.objs.size)) { s with heap:=h' }) :
  az (aC prog w) A.in1 (oV its >>= λl=>fe [l] (call (.builtin "list.sort") [l] []) >>= λ_=>ret l) ↥60 E s:=by
 refine aa (fD ?_ (by rw [bH];omega))
 have ho:(s.heap.push ↥36).get? (s.heap.objs.size)=some ↥36:=aA _ rfl
 have keep:∀b o,s.heap.get? b=some o->(s.heap.push ↥36).get? b=some o:=λb o q=>by
  exact aj _ q
 show az _ _ _ _ _ { s with heap:=s.heap.push ↥36 }
 refine aa (bD (cg mK ⟨_,ho,rfl⟩ mr ?body (se _)))
 case body =>
  generalize hh0:s.heap.push ↥36=h0 at ho keep
  generalize ha:s.heap.objs.size=a at ho h
  have aNew:∀b o,s.heap.get? b=some o->b≠a:=λb o q=>by have:=aw q;rw [<- ha];exact aB this
  show az (aC prog w) A.in1.in1 (fH.«list.sort» ⟨[.ref a],[]⟩) _ _ { s with heap:=h0 }
  rw [rj]
  have hal:a<h0.objs.size:=aw ho
  refine aa (md ho rfl ?_)
  refine aa (cX ho rfl ?_ (by rw [ax,bH];omega) (aP _))
  obtain ⟨e1,ho1⟩:∃e1,(h0.update a (aY λ_=>(#[]:Array ak))).get? a=some (bu "list" #[] e1):=⟨_,eE ho (λ_=>#[])⟩
  refine aa (eY ho1 rfl ?_)
  refine aa (iW ?_ (by show its.length<=_;rw [bH];omega))
  refine aa (fD ?_ (aP _))
  refine bD ?_
  have ho6:((↥13).push (bu "list" #[] 0)).get? a=some (bu "list" #[] e1):=by
   rw [cM _ _ _ (by rw [og,dO];exact aB (c3 hal)),cM _ _ _ (by rw [dO];exact aB hal)]
   exact ho1
  have keep6:∀b o,s.heap.get? b=some o->((↥13).push (bu "list" #[] 0)).get? b=some o:=λb o q =>
   aj _ (aj _ ((bX _ _ _ _ (aNew b o q)).trans (keep b o q)))
  show az (aC prog w) A.in1.in1 _ _ _ { s with heap:=(↥13).push (bu "list" #[] 0) }
  generalize (↥13).push (bu "list" #[] 0)=h6 at ho6 keep6
  dsimp only
  have fin:∀(ix:List Nat),ix.Perm (aW its.length)->G ix->∀out:Array ak,out=(↥53).toArray ->
    ∃v,sf (Flow.ret aT) = .done (.ret v)/\az (aC prog w) A.in1 (do let _ <- pure v;ret (aS a)) ↥60 E { s with heap:=h6.update a (aY λ_=>out) }:=λix hp hg out ho'=>by
   refine ⟨_,rfl,aa (wpAny_pure (wpAny_pure ⟨_,rfl,?_⟩))⟩
   subst ho'
   exact h ix _ _ hp hg (λb o q=>(bX _ _ _ _ (aNew b o q)).trans (keep6 b o q)) (eE ho6 λ_=>_)
  by_cases h2:its.toArray.size<2
  ·rw [if_pos h2,if_pos h2]
   refine aa ↥52
   rw [mv]
   refine aa ↥52
   dsimp only
   refine aa (eY ho6 rfl ?_)
   rw [uD]
   refine aa (cX ho6 rfl ?_ (aP _) (by rw [ax,bH];omega))
   simp only [bne_self_eq_false,c9,if_false]
   rw [ax] at h2
   exact wpAny_pure (fin _ (mL _) (h1 h2) _ (by rw [vV]))
  ·rw [if_neg h2,if_neg h2]
   rw [ax] at h2
   refine aa (aX (hk ∅ h6 keep6 (λκ' s'=>κ'=κ/\s'={ s with heap:=h6 }) ⟨rfl,rfl⟩) (λκ' s' q=>?_) λ_ _ x=>x.elim)
   obtain ⟨rfl,rfl⟩:=q
   refine aa (aX (kat_run (ks:=its) (vs:=its) (κ:=κ') (G:=λp s'=>(qy its.length p/\G p.toList)/\s'={ s with heap:=h6 }) (Q:=λst' s'=>∃p:Array Nat,arrOf st'=p.map (sZ (its.toArray.zip its.toArray))/\si st'=none/\(qy its.length p/\G p.toList)/\s'={ s with heap:=h6 })
    rfl ∅ h64 (λp st' s' a1 a2 a3 a4=>⟨p,a2,a3,a4⟩) (x3.wp (I:=λs'=>s'={ s with heap:=h6 }) (λi j C s' hi hj hI hC=>?_) (λp s' hp hI=>⟨hp,hI⟩) (hs ∅) rfl)) ?_ λ_ _ e=>e)
   ·subst hI
    exact hc h6 keep6 i j hi hj C (hC _ rfl)
   ·rintro ⟨⟨⟩,st'⟩ s' ⟨p,har,hf,⟨hP,hG⟩,rfl⟩
    dsimp only
    have hout:=tj (ks:=its) (vs:=its) rfl har
    have hz:(oY (p.toList.map λi=>its.getD i aT)).size=its.length:=by rw [ax,af,bP,hP.size]
    rw [hout]
    refine aa (eY ho6 rfl ?_)
    refine aa (cX ho6 rfl ?_ (aP _) (by rw [hz,bH];omega))
    rw [hf]
    simp only [bne_self_eq_false,c9,if_false]
    exact wpAny_pure (fin p.toList (by have:=Array.perm_iff_toList_perm.mp hP;simpa using this) hG _ rfl)
theorem kH {v:ak}{Q:ak->Shared->Prop}(hcol:az (aC prog w) A.in1 (collect v) (λits s1=>az (aC prog w) A.in1 (oV its >>= λl=>fe [l] (call (.builtin "list.sort") [l] []) >>= λ_=>ret l) ↥60 E s1) E s) :
  az (aC prog w) A (call (.builtin "sorted") [v]) Q E s:=by
 refine lh rf oW oX (args_sorted1 _) ?_
 unfold fH.«sorted»
 refine aa (m:=rZ "sorted" 1 1 _) ↥52
 exact aa hcol
end
section
variable {X:Cx}
theorem Inv.laidN {h':Heap}{a:Addr}{t':Nat}(I:Inv X pins σ H s) (k:∀b u,s.heap.get? b=some u->h'.get? b=some u) (hn:s.heap.get? a=none) (new:H a=none->qv X.prog X.w (upd H a o) h' a o):H a=none/\Inv X pins σ (upd H a o) { s with heap:=h',toks:=t' }:=by
 have hH:H a=none:=by
  cases q:H a with
  | none=>rfl
  | some u =>
   obtain ⟨ob,e⟩:=kg (I.hok a u q)
   rw [hn] at e
   cases e
 have ne:∀{b u},s.heap.get? b=some u->b≠a:=λe z=>by rw [z,hn] at e;cases e
 refine ⟨hH,I.un ⟨λb u q _ _ _=>k b u q,λb u q _ _ _=>⟨u.slots,k b u q⟩,λb u q n _=>by rw [j9 (ne q)];exact n,λb u q _=>⟨u,k b u q⟩,λb xs q=>by rw [j9 (j4 q hH)];exact q,λb u xs q=>by rw [j9 (j4 q hH)];exact q,λb ps q=>⟨#[],by rw [j9 (j4 q hH),q];simp⟩⟩ λb u e=>?_⟩
 by_cases hb:b=a
 ·subst hb;rw [j7] at e;cases e;exact new hH
 ·rw [j9 hb] at e
  exact (I.hok b u e).stay (λc v _ q=>k c v q) (λc q=>by rw [j9 (j4 q hH)];exact q) λc xs q=>by rw [j9 (j4 q hH)];exact q
theorem ui (K:ah) (hca:X.calm=true) (hK:X.K=K:=by rfl):qO X (.builtin "sorted") (λxs H Q=>∃(p:Addr) (kvs:List (Key×V)) (ns:List Int),xs=[.ref p]/\H p=some (.dK kvs)/\kvs.map (·.1)=ns.map dU/\ns.length<64 /\
  ∀(l:Addr) H' (ns':List Int),H l=none->H' l=some (.lst (ns'.map V.int))->jn H H'->ns'.Perm ns->ns'.Pairwise (· <= ·)->Q (.ref l) H'):=by
 subst hK
 intro pins s σ H xs us Q I r h
 obtain ⟨p,kvs,ns,rfl,hp0,hks,h64,k⟩:=h
 obtain ⟨u,rfl,ru⟩:=yk r
 cases ru
 obtain ⟨hz,lo,vs,kv,dd⟩:=Qy I.hok hp0
 obtain ⟨ep,hat⟩:=dd.dictAt
 have hvl:vs.length=ns.length:=by
  have e1:kvs.length=vs.length:=aZ kv
  have e2:=congrArg iq hks
  rw [af,af] at e2
  omega
 refine kH (kdu_collect (kdl_dict (knd:=jS X.prog X.w) (kvs:=vs) (ep:=ep) lo) (I.ok.hd hca) hat (dX (jh ∅)) λh1 tk acc hk1 hacc=>?_)
 have hal:acc.toList.length=ns.length:=by rw [bP,hacc.1,hvl]
 have item:∀i,i<acc.toList.length->∃t,acc.toList.getD i aT = .int (ns.getD i 0) t:=λi hi=>by
  have hi2:i<acc.size:=by rw [bP] at hi;exact hi
  obtain ⟨key,x,hx,his⟩:=hacc.2 i acc[i] (dB hi2)
  have hi3:i<kvs.length:=by
   have e1:kvs.length=vs.length:=aZ kv
   omega
  obtain ⟨q,hq,e1,_⟩:=Paired.get kv (ag hi3)
  rw [hx] at hq
  cases hq
  have e2:(kvs.map (·.1))[i]? = some key:=by rw [aq,ag hi3];exact congrArg some e1
  have hin:i<ns.length:=∅
  rw [hks,aq,ag hin] at e2
  cases e2
  obtain ⟨t,et⟩:=fQ his
  refine ⟨t,?_⟩
  rw [ao,mC,dB hi2,et,ao,ag hin]
  rfl
 generalize acc.toList=its at hal item
 refine wj (s:={ s with heap:=h1,toks:=tk }) (κ:=tm) (lt:=ltK Zz λi=>ns.getD i 0) (G:=λix=>(ix.map λi=>ns.getD i 0).Pairwise Zz.kle) ∅ (λh2 h' hk' Q' q=>?_) (λh' hk' i j hi hj Q' q=>?_) (λh2=>?_) (λh1=>?_) λix h' n hp hg hk' hn=>?_
 ·refine tu (T:=.type "int") h2 (λv hv=>?_) rfl rfl q
  obtain ⟨i,hi,rfl⟩:=List.mem_iff_getElem.mp hv
  obtain ⟨t,e1⟩:=item i hi
  have e3:its[i] = .int (ns.getD i 0) t:=by rw [<- e1];simp [hi]
  rw [e3]
  exact nJ rfl
 ·obtain ⟨t,e1⟩:=item i hi
  obtain ⟨u,e2⟩:=item j hj
  rw [e1,e2]
  exact kat_lt_int q
 ·exact uh ∅ λp' hP hS=>⟨hP,hS.pairwise hP.size⟩
 ·have hcase:its.length=0\/its.length=1:=∅
  rcases hcase with z | z
  ·rw [z];exact eU
  ·rw [z];exact dP _ _
 ·have hn0:s.heap.get? h1.objs.size=none:=by
   cases q:s.heap.get? h1.objs.size with
   | none=>rfl
   | some u=>exact absurd (aw (hk1 _ _ q)) (cw _)
  have hv:jJ ↥50 ↥53:=by
   have hb:∀i∈ix,i<its.length:=λi hi=>by have:=hp.mem_iff.mp hi;simpa using this
   clear hp hg hn
   induction ix with
   | nil=>exact .nil
   | cons i ix ih =>
    obtain ⟨t,e⟩:=item i (hb i aO)
    exact .cons ⟨t,e⟩ (ih λj hj=>hb j (aH _ hj))
  have hns:((aW its.length).map λi=>ns.getD i 0)=ns:=by
   apply ie
   ·simp [hal]
   ·intro i h1 h2
    simp [h2]
  have hsz: (↥50).length<=sizeLine:=by
   rw [af,af,hp.length_eq,c5]
   exact aE (by omega:its.length<=1000) ⋯
  obtain ⟨hf,J⟩:=Inv.laidN (o:=.lst ↥50) (t':=tk) I (λb o e=>hk' b o (hk1 b o e)) hn0 λ_=>⟨hsz,_,n,hv,hn⟩
  refine ⟨.ref _,upd H h1.objs.size (.lst ↥50),J,rfl,k _ _ _ hf j7 (jn.new hf) ?_ ?_⟩
  ·have:=hp.map λi=>ns.getD i 0
   rw [hns] at this
   exact this
  ·exact pj (R:=Zz.kle) (λ{a b} z=>Qz z) hg
end
end L2
end
section
namespace L2
open PySem.W
theorem Inv.freeze {X:Cx}{kvs:List (Key×V)}(I:Inv X pins σ H s) (e:H a=some (.dK kvs)) (ho:s.heap.get? a=some o):Inv X pins σ (upd H a (.frz o (.dK kvs))) s:=by
 refine I.un (t':=s.toks) ⟨λb u q _ _ _=>q,λb u q _ _ _=>⟨u.slots,q⟩,λb u q n _=>?_,λb u q _=>⟨u,q⟩,λb xs q=>?_,λb u xs q=>?_,λb ps q=>⟨#[],?_⟩⟩ λb u q=>?_
 ·rw [j9 (λz=>by rw [z,e] at n;cases n)];exact n
 ·rw [j9 (jg q e ↥47)];exact q
 ·rw [j9 (jg q e ↥47)];exact q
 ·rw [j9 (jg q e ↥47),q];simp
 ·by_cases hb:b=a
  ·subst hb
   rw [j7] at q
   cases q
   exact ⟨ho,I.hok _ _ e⟩
  ·rw [j9 hb] at q
   exact (I.hok b u q).stay (λc v _ q=>q) (λc q=>by rw [j9 (jg q e ↥47)];exact q) λc xs q=>by rw [j9 (jg q e ↥47)];exact q
noncomputable def Itd (a:Addr) (o:Obj) (kvs:List (Key×V)):It :=
 ⟨λi H=>H a=some (.frz o (.dK kvs))/\i<kvs.length,λi H x H'=>H'=H/\∃q,kvs[i]? = some q/\x=kV q.1,λi H=>H a=some (.frz o (.dK kvs))/\kvs.length<=i⟩
theorem relK {k:Key}(h:(jS P w).is k v=true):jK (kV k) v:=by
 cases k with
 | inl i=>exact fQ h
 | inr x=>exact nj h
theorem Jc {K:ah}{a it:Addr}{vs:List (Key×ak)}{ep:Nat}(kv:KV kvs vs) (HD:∀h:Heap,h.get? a=some o->h.DictAt (jS P w) a vs ep):Turn P w K tg (Itd a o kvs) [it] it (λi h=>h.IsKeyIter it a i vs.length ep) where
 mem:=by simp
 obj:=λi h st b hb=>by
  have e:b=it:=by simpa using hb
  subst e
  obtain ⟨o,e,c,d⟩:=st
  exact ⟨o,e,λv z=>by rw [d] at z;cases z⟩
 keep:=λi h h' st k=>st.at λo e=>k it (by simp) o e
 item:=by
  intro X hP hw hK hc i pins s σ H E I hf st hg
  subst hP hw hK
  obtain ⟨hq,hi⟩:=hg
  have hat:=HD s.heap (I.hok _ _ hq).1
  have hl:kvs.length=vs.length:=aZ kv
  obtain ⟨f0,f1,f2,f3,f4,f5⟩:=hf it (by simp)
  obtain ⟨⟨k,x⟩,hx,ek,_⟩:=Paired.get kv (ag hi)
  refine wpAny_pyNext_dict_item st hat hx λkey h' hkey st' sb=>?_
  have I1:Inv X pins σ H { s with heap:=h' }:=I.turned (t':=s.toks) (λb o hb e=>(sb.2 b hb).trans e) f0 f1 f3 f4 f5
  obtain ⟨ob,e,c,d⟩:=id st'
  exact ⟨key,rfl,Xo (s:={ s with heap:=h' }) e c d ⋯ ⟨kV k,H,I1,relK hkey,⟨rfl,_,ag hi,by rw [show (kvs[i]'hi).1=k from ek]⟩,st',λb hb=>(hf b hb).1⟩⟩
 done:=by
  intro X hP hw hK hc i pins s σ H E I hf st hg
  subst hP hw hK
  obtain ⟨hq,hi⟩:=hg
  have hat:=HD s.heap (I.hok _ _ hq).1
  have hl:kvs.length=vs.length:=aZ kv
  obtain ⟨f0,f1,f2,f3,f4,f5⟩:=hf it (by simp)
  exact wpAny_pyNext_dict_end (I.ok.hd hc) st hat (by simp;omega) λh' eb=>⟨rfl,I.turned (t':=s.toks) (λb o hb e=>eb b o hb e) f0 f1 f3 f4 f5⟩
 self:=λ_ _ _ _ _ st h=>wpAny_pyIter_keyiter st h
noncomputable def iDic (td:TE):TI:=λσ H R=>td σ H λx H1=>∃a kvs,x = .ref a/\((H1 a=some (.dK kvs)/\∀o,R (Itd a o kvs) (upd H1 a (.frz o (.dK kvs))))\/∃o,H1 a=some (.frz o (.dK kvs))/\R (Itd a o kvs) H1)
theorem Y8 (hl:PE X l td):PI X tg l (iDic td):=by
 intro pins s σ H R I h
 refine thn (hl pins s σ H _ I h) λv s1 ⟨x,H1,I1,r1,a,kvs,e,q⟩=>?_
 subst e
 cases r1
 have main:∀{H2:Hp} {o:Obj},Inv X pins σ H2 s1->H2 a=some (.frz o (.dK kvs))->R (Itd a o kvs) H2->az ↥6 X.A (lB (.ref a)) (PIE X pins σ tg R) X.xe s1:=λ{H2 o} I2 e2 q2=>by
  have ho:=(I2.hok _ _ e2).1
  obtain ⟨hz,lo,vs,kv,dd⟩:=yl I2.hok (.inr ⟨o,e2⟩)
  obtain ⟨ep,ob,es,h1,hrest⟩:=dd.dictAt
  rw [ho] at h1
  cases h1
  have HD:∀h:Heap,h.get? a=some o->h.DictAt (jS X.prog X.w) a vs ep:=λh e=>⟨o,es,e,hrest⟩
  refine pq lo (HD _ ho) ?_
  refine ⟨s1.heap.objs.size,[s1.heap.objs.size],_,_,H2,rfl,I2.kept (t':=s1.toks) λb o e=>aj _ e,Jc kv HD,⟨_,aA _ rfl,rfl,rfl⟩,λb hb=>?_,q2⟩
  have e:b=s1.heap.objs.size:=by simpa using hb
  subst e
  exact I2.fpOk (av _) (I2.hok.fresh (av _))
 rcases q with ⟨e1,q1⟩ | ⟨o,e1,q1⟩
 ·obtain ⟨hz,lo,vs,kv,dd⟩:=yl I1.hok (.inl e1)
  obtain ⟨ep,ob,es,h1,hrest⟩:=dd.dictAt
  exact main (I1.freeze e1 h1) j7 (q1 ob)
 ·exact main I1 e1 q1
theorem QO {kvs:List (Key×V)}{g:TG}{tb:TS}{D:Ends}{σ:St}{H:Hp}(Pv:Nat->St->Hp->Prop) (h0:Pv 0 σ H) (hl:∀i σ H,i<=kvs.length->Pv i σ H->H a=some (.frz o (.dK kvs)))
  (hs:∀i q σ H,kvs[i]? = some q->Pv i σ H->g (kV q.1) σ H λσ2 H2=>tb { D with nx:=Pv (i+1),ct:=Pv (i+1),bk:=D.nx } σ2 H2) (hd:∀σ H,Pv kvs.length σ H->D.nx σ H) :
  ∃W:Nat->Nat->St->Hp->Prop,↥84/\∀i m σ H,W i m σ H ->
   ((Itd a o kvs).stop i H/\D.nx σ H)\/((Itd a o kvs).go i H/\∃N:St->Hp->Prop,↥23/\∀x H',(Itd a o kvs).yld i H x H'->g x σ H' λσ2 H2=>tb { D with nx:=N,ct:=N,bk:=D.nx } σ2 H2):=by
 refine ⟨λi m σ H=>m=kvs.length-i/\i<=kvs.length/\Pv i σ H,⟨kvs.length,by simp,aP _,h0⟩,?_⟩
 rintro i m σ H ⟨rfl,hi,p⟩
 have q:=hl i σ H hi p
 by_cases hlt:i<kvs.length
 ·refine .inr ⟨⟨q,hlt⟩,Pv (i+1),λσ' H' p'=>⟨kvs.length-(i+1),∅,rfl,hlt,p'⟩,λx H' y=>?_⟩
  obtain ⟨e,z,hz,ex⟩:=y
  subst e ex
  exact hs i z σ _ hz p
 ·obtain rfl:i=kvs.length:=∅
  exact .inl ⟨⟨q,av _⟩,hd σ H p⟩
theorem Jo {kvs:List (Key×V)}{g:TG}{ti:TT}{te:TE}{R:Hp->Prop}{σ:St}{H:Hp}(Pv:Nat->St->Hp->Prop) (h0:Pv 0 σ H) (hl:∀i σ H,i<=kvs.length->Pv i σ H->H a=some (.frz o (.dK kvs)))
  (hs:∀i q σ H,kvs[i]? = some q->Pv i σ H->g (kV q.1) σ H λσ3 H3=>ti σ3 H3 λok H4=>if ok=true then te σ3 H4 λv H5=>∃ys,H5 acc=some (.lst ys)/\ys.length<sizeLine/\Pv (i+1) σ3 ↥31 else Pv (i+1) σ3 H4)
  (hd:∀σ H,Pv kvs.length σ H->R H) :
  ∃W:Nat->Nat->St->Hp->Prop,↥84/\∀i m σ' H',W i m σ' H' ->
   ((Itd a o kvs).stop i H'/\R H')\/((Itd a o kvs).go i H'/\∃NX:St->Hp->Prop,↥17 /\
    ∀x H2,(Itd a o kvs).yld i H' x H2->g x σ' H2 λσ3 H3=>ti σ3 H3 λok H4=>if ok=true then te σ3 H4 λv H5=>∃ys,H5 acc=some (.lst ys)/\ys.length<sizeLine/\NX σ3 ↥31 else NX σ3 H4):=by
 refine ⟨λi m σ H=>m=kvs.length-i/\i<=kvs.length/\Pv i σ H,⟨kvs.length,by simp,aP _,h0⟩,?_⟩
 rintro i m σ H ⟨rfl,hi,p⟩
 have q:=hl i σ H hi p
 by_cases hlt:i<kvs.length
 ·refine .inr ⟨⟨q,hlt⟩,Pv (i+1),λσ' H' p'=>⟨kvs.length-(i+1),∅,rfl,hlt,p'⟩,λx H' y=>?_⟩
  obtain ⟨e,z,hz,ex⟩:=y
  subst e ex
  exact hs i z σ _ hz p
 ·obtain rfl:i=kvs.length:=∅
  exact .inl ⟨⟨q,av _⟩,hd σ H p⟩
end L2
end
section
namespace L2
open PySem.W
section
variable {X:Cx}{tg:Expr}
end
end L2
end
section
namespace L2
open PySem.W
noncomputable def Fz (a:Addr) (kvs:List (Key×V)) (o:Obj) (H H4:Hp):Prop:=H4 a=some (.frz o (.dK kvs))/\(H4=H\/(H a=some (.dK kvs)/\H4=upd H a (.frz o (.dK kvs))))
theorem Fz.at {kvs:List (Key×V)}(f:Fz a kvs o H H4) {c:Addr}(h:H c=some u) (n:c≠a):H4 c=some u:=by
 rcases f.2 with rfl | ⟨_,rfl⟩
 ·exact h
 ·rw [j9 n];exact h
theorem Jx {g:TG}{tb:TS}{D:Ends}{σ:St}{H:Hp}(h:Rd H a (.dK kvs)) (Pv:Obj->Nat->St->Hp->Prop) (h0:∀o H4,Fz a kvs o H H4->Pv o 0 σ H4) (hl:∀o i σ H,i<=kvs.length->Pv o i σ H->H a=some (.frz o (.dK kvs)))
  (hs:∀o i q σ H,kvs[i]? = some q->Pv o i σ H->g (kV q.1) σ H λσ2 H2=>tb { D with nx:=Pv o (i+1),ct:=Pv o (i+1),bk:=D.nx } σ2 H2) (hd:∀o σ H,Pv o kvs.length σ H->D.nx σ H) :
  ∃a' kvs',V.ref a = .ref a'/\((H a'=some (.dK kvs')/\∀o,∃W:Nat->Nat->St->Hp->Prop,(∃m,W 0 m σ (upd H a' (.frz o (.dK kvs'))))/\∀i m σ H,W i m σ H ->
   ((Itd a' o kvs').stop i H/\D.nx σ H)\/((Itd a' o kvs').go i H/\∃N:St->Hp->Prop,↥23/\∀x H',(Itd a' o kvs').yld i H x H'->g x σ H' λσ2 H2=>tb { D with nx:=N,ct:=N,bk:=D.nx } σ2 H2)) \/
   ∃o,H a'=some (.frz o (.dK kvs'))/\∃W:Nat->Nat->St->Hp->Prop,↥84/\∀i m σ H,W i m σ H ->
   ((Itd a' o kvs').stop i H/\D.nx σ H)\/((Itd a' o kvs').go i H/\∃N:St->Hp->Prop,↥23/\∀x H',(Itd a' o kvs').yld i H x H'->g x σ H' λσ2 H2=>tb { D with nx:=N,ct:=N,bk:=D.nx } σ2 H2)):=by
 rcases h with h | ⟨o,h⟩
 ·exact ⟨a,kvs,rfl,.inl ⟨h,λo=>QO (a:=a) (o:=o) (kvs:=kvs) (Pv o) (h0 o _ ⟨j7,.inr ⟨h,rfl⟩⟩) (hl o) (hs o) (hd o)⟩⟩
 ·exact ⟨a,kvs,rfl,.inr ⟨o,h,QO (a:=a) (o:=o) (kvs:=kvs) (Pv o) (h0 o _ ⟨h,.inl rfl⟩) (hl o) (hs o) (hd o)⟩⟩
end L2
end
section
namespace L2
open PySem.W
section
variable {prog:Program}{w:bp}{A:br}{E:ak->Shared->Prop}{s:Shared}
end
section
variable {prog:Program}{w:bp}{A:br}{R:nW->Shared->Prop}{d it l:Addr}{items:Array ak}{qs:List (Key×ak×ak)}
end
section
variable {prog:Program}{w:bp}{A:br}{E:ak->Shared->Prop}{s:Shared}{l:Addr}{ol:Obj}{nl:Nat}{items:Array ak}{qs:List (Key×ak×ak)}
end
end L2
end
section
namespace L2
open PySem.W
section
variable {X:Cx}
end
end L2
end
section
namespace L2
open PySem.W
section
variable {X:Cx}
theorem zH (K:ah) (hca:X.calm=true) (hK:X.K=K:=by rfl):qO X (.type "dict") (λxs H Q=>∃(p:Addr) (kvs:List (Key×V)),xs=[.ref p]/\Rd H p (.dK kvs)/\∀(d:Addr) H',H d=none->H' d=some (.dK kvs)->jn H H'->Q (.ref d) H'):=by
 subst hK
 intro pins s σ H xs us Q I r h
 obtain ⟨p,kvs,rfl,hp0,k⟩:=h
 obtain ⟨u,rfl,ru⟩:=yk r
 cases ru
 obtain ⟨hz,lo,vs,kv,dd⟩:=yl I.hok hp0
 have hvl:kvs.length=vs.length:=aZ kv
 refine kt_call_dict (knd:=jS X.prog X.w) lo dd ∅ λh' hD hS=>?_
 have hf:=I.hok.fresh (av s.heap.objs.size)
 have keep:∀b o,s.heap.get? b=some o->h'.get? b=some o:=λb o e=>(hS.2 b (aB (aw e))).trans (aj _ e)
 exact ⟨.ref _,upd H s.heap.objs.size (.dK kvs),I.laid (t':=s.toks) keep (av _) (kZ hz (beq_eq_false_iff_ne.mpr (cG (aB I.big))) kv hD),rfl,k _ _ hf j7 (jn.new hf)⟩
end
end L2
end
section
namespace L2
open PySem.W
noncomputable def GW (td:TE):TI:=λσ H R=>td σ H λx H1=>∃a kvs,x = .ref a/\Rd H1 a (.dK kvs)/\∀o H4,Fz a kvs o H1 H4->R (Itd a o kvs) H4
theorem QI (hl:PE X l td):PI X tg l (GW td):=by
 intro pins s σ H R I h
 refine thn (hl pins s σ H _ I h) λv s1 ⟨x,H1,I1,r1,a,kvs,e,hRd,q⟩=>?_
 subst e
 cases r1
 have main:∀{H2:Hp} {o:Obj},Inv X pins σ H2 s1->H2 a=some (.frz o (.dK kvs))->R (Itd a o kvs) H2->az ↥6 X.A (lB (.ref a)) (PIE X pins σ tg R) X.xe s1:=λ{H2 o} I2 e2 q2=>by
  have ho:=(I2.hok _ _ e2).1
  obtain ⟨hz,lo,vs,kv,dd⟩:=yl I2.hok (.inr ⟨o,e2⟩)
  obtain ⟨ep,ob,es,h1,hrest⟩:=dd.dictAt
  rw [ho] at h1
  cases h1
  have HD:∀h:Heap,h.get? a=some o->h.DictAt (jS X.prog X.w) a vs ep:=λh e=>⟨o,es,e,hrest⟩
  refine pq lo (HD _ ho) ?_
  refine ⟨s1.heap.objs.size,[s1.heap.objs.size],_,_,H2,rfl,I2.kept (t':=s1.toks) λb o e=>aj _ e,Jc kv HD,⟨_,aA _ rfl,rfl,rfl⟩,λb hb=>?_,q2⟩
  have e:b=s1.heap.objs.size:=by simpa using hb
  subst e
  exact I2.fpOk (av _) (I2.hok.fresh (av _))
 rcases hRd with e1 | ⟨o,e1⟩
 ·obtain ⟨hz,lo,vs,kv,dd⟩:=yl I1.hok (.inl e1)
  obtain ⟨ep,ob,es,h1,hrest⟩:=dd.dictAt
  exact main (I1.freeze e1 h1) j7 (q ob _ ⟨j7,.inr ⟨e1,rfl⟩⟩)
 ·exact main I1 e1 (q o _ ⟨e1,.inl rfl⟩)
end L2
end
section
namespace L2
open PySem.W
section
variable {X:Cx}
theorem uu (K:ah) (hca:X.calm=true) (hK:X.K=K:=by rfl):qO X (.builtin "sorted") (λxs H Q=>∃(p:Addr) (kvs:List (Key×V)) (ns:List Int),xs=[.ref p]/\Rd H p (.dK kvs)/\kvs.map (·.1)=ns.map dU/\ns.length<64 /\
  ∀(l:Addr) H' (ns':List Int),H l=none->H' l=some (.lst (ns'.map V.int))->jn H H'->ns'.Perm ns->ns'.Pairwise (· <= ·)->Q (.ref l) H'):=by
 subst hK
 intro pins s σ H xs us Q I r h
 obtain ⟨p,kvs,ns,rfl,hp0,hks,h64,k⟩:=h
 obtain ⟨u,rfl,ru⟩:=yk r
 cases ru
 obtain ⟨hz,lo,vs,kv,dd⟩:=yl I.hok hp0
 obtain ⟨ep,hat⟩:=dd.dictAt
 have hvl:vs.length=ns.length:=by
  have e1:kvs.length=vs.length:=aZ kv
  have e2:=congrArg iq hks
  rw [af,af] at e2
  omega
 refine kH (kdu_collect (kdl_dict (knd:=jS X.prog X.w) (kvs:=vs) (ep:=ep) lo) (I.ok.hd hca) hat (dX (jh ∅)) λh1 tk acc hk1 hacc=>?_)
 have hal:acc.toList.length=ns.length:=by rw [bP,hacc.1,hvl]
 have item:∀i,i<acc.toList.length->∃t,acc.toList.getD i aT = .int (ns.getD i 0) t:=λi hi=>by
  have hi2:i<acc.size:=by rw [bP] at hi;exact hi
  obtain ⟨key,x,hx,his⟩:=hacc.2 i acc[i] (dB hi2)
  have hi3:i<kvs.length:=by
   have e1:kvs.length=vs.length:=aZ kv
   omega
  obtain ⟨q,hq,e1,_⟩:=Paired.get kv (ag hi3)
  rw [hx] at hq
  cases hq
  have e2:(kvs.map (·.1))[i]? = some key:=by rw [aq,ag hi3];exact congrArg some e1
  have hin:i<ns.length:=∅
  rw [hks,aq,ag hin] at e2
  cases e2
  obtain ⟨t,et⟩:=fQ his
  refine ⟨t,?_⟩
  rw [ao,mC,dB hi2,et,ao,ag hin]
  rfl
 generalize acc.toList=its at hal item
 refine wj (s:={ s with heap:=h1,toks:=tk }) (κ:=tm) (lt:=ltK Zz λi=>ns.getD i 0) (G:=λix=>(ix.map λi=>ns.getD i 0).Pairwise Zz.kle) ∅ (λh2 h' hk' Q' q=>?_) (λh' hk' i j hi hj Q' q=>?_) (λh2=>?_) (λh1=>?_) λix h' n hp hg hk' hn=>?_
 ·refine tu (T:=.type "int") h2 (λv hv=>?_) rfl rfl q
  obtain ⟨i,hi,rfl⟩:=List.mem_iff_getElem.mp hv
  obtain ⟨t,e1⟩:=item i hi
  have e3:its[i] = .int (ns.getD i 0) t:=by rw [<- e1];simp [hi]
  rw [e3]
  exact nJ rfl
 ·obtain ⟨t,e1⟩:=item i hi
  obtain ⟨u,e2⟩:=item j hj
  rw [e1,e2]
  exact kat_lt_int q
 ·exact uh ∅ λp' hP hS=>⟨hP,hS.pairwise hP.size⟩
 ·have hcase:its.length=0\/its.length=1:=∅
  rcases hcase with z | z
  ·rw [z];exact eU
  ·rw [z];exact dP _ _
 ·have hn0:s.heap.get? h1.objs.size=none:=by
   cases q:s.heap.get? h1.objs.size with
   | none=>rfl
   | some u=>exact absurd (aw (hk1 _ _ q)) (cw _)
  have hv:jJ ↥50 ↥53:=by
   have hb:∀i∈ix,i<its.length:=λi hi=>by have:=hp.mem_iff.mp hi;simpa using this
   clear hp hg hn
   induction ix with
   | nil=>exact .nil
   | cons i ix ih =>
    obtain ⟨t,e⟩:=item i (hb i aO)
    exact .cons ⟨t,e⟩ (ih λj hj=>hb j (aH _ hj))
  have hns:((aW its.length).map λi=>ns.getD i 0)=ns:=by
   apply ie
   ·simp [hal]
   ·intro i h1 h2
    simp [h2]
  have hsz: (↥50).length<=sizeLine:=by
   rw [af,af,hp.length_eq,c5]
   exact aE (by omega:its.length<=1000) ⋯
  obtain ⟨hf,J⟩:=Inv.laidN (o:=.lst ↥50) (t':=tk) I (λb o e=>hk' b o (hk1 b o e)) hn0 λ_=>⟨hsz,_,n,hv,hn⟩
  refine ⟨.ref _,upd H h1.objs.size (.lst ↥50),J,rfl,k _ _ _ hf j7 (jn.new hf) ?_ ?_⟩
  ·have:=hp.map λi=>ns.getD i 0
   rw [hns] at this
   exact this
  ·exact pj (R:=Zz.kle) (λ{a b} z=>Qz z) hg
end
end L2
end
section
namespace L2
theorem Q3 {X:Cx}(K:ah) (hK:X.K=K:=by rfl):qO X (.builtin "isinstance") (λxs H Q=>∃x C t b,xs=[x,.ref C]/\TyOf K H x t/\aG K t (.ref C)=some b/\Q (.bl b) H):=by
 subst hK
 intro pins s σ H xs us Q I r h
 obtain ⟨x,C,t,b,rfl,ty,e,q⟩:=h
 obtain ⟨u,w',rfl,r1,r2⟩:=XA r
 cases (show w'=aS C from r2)
 exact Jm I r1 ty e λtk=>⟨.bl b,H,I.tok tk,rfl,q⟩
end L2
end
section
namespace L2
theorem U9 {K:ah}{t0 u0:Bool}{xs ys:List V}{g:TG}{tb:TS}{D:Ends}{σ:St}{H:Hp}(hl2:xs.length=ys.length) (Pv:Nat->St->Hp->Prop) (h0:Pv 0 σ H) (hl:∀i σ H,i<=xs.length->Pv i σ H->SqK t0 K H a xs/\SqK u0 K H b ys)
  (hs:∀i x y σ H t,xs[i]? = some x->ys[i]? = some y->Pv i σ H->H t=none->g (.ref t) σ (upd H t (.tup [x,y])) λσ2 H2=>tb { D with nx:=Pv (i+1),ct:=Pv (i+1),bk:=D.nx } σ2 H2) (hd:∀σ H,Pv xs.length σ H->D.nx σ H) :
  ∃W:Nat->Nat->St->Hp->Prop,↥84/\∀i m σ H,W i m σ H ->
   ((Xh K t0 u0 a b).stop i H/\D.nx σ H)\/((Xh K t0 u0 a b).go i H/\∃N:St->Hp->Prop,↥23/\∀x H',(Xh K t0 u0 a b).yld i H x H'->g x σ H' λσ2 H2=>tb { D with nx:=N,ct:=N,bk:=D.nx } σ2 H2):=by
 refine ⟨λi m σ H=>m=xs.length-i/\i<=xs.length/\Pv i σ H,⟨xs.length,by simp,aP _,h0⟩,?_⟩
 rintro i m σ H ⟨rfl,hi,p⟩
 obtain ⟨q,q2⟩:=hl i σ H hi p
 by_cases hlt:i<xs.length
 ·refine .inr ⟨⟨xs,ys,xs[i],ys[i]'∅,q,q2,by simp [hlt],ag ∅⟩,Pv (i+1),λσ' H' p'=>⟨xs.length-(i+1),∅,rfl,hlt,p'⟩,λv H' y=>?_⟩
  obtain ⟨t,x,y',rfl,hn,rfl,y1,y2⟩:=y
  exact hs i x y' σ H t (y1 xs q) (y2 ys q2) p hn
 ·have e:i=xs.length:=∅
  subst e
  exact .inl ⟨⟨xs,ys,q,q2,.inl (av _)⟩,hd σ H p⟩
end L2
end
section
namespace K10
open L2
local macro_rules | `(tactic| walk_at "hp")=>`(tactic| first | assumption | exact j7 | (rw [j9 (by first | assumption | (apply cG;assumption))];first | assumption | exact j7))
local macro_rules | `(tactic| walk_at "num")=>`(tactic| first | decide | omega)
local macro_rules | `(tactic| walk_at "rd1")=>`(tactic| first | refine ⟨_,rfl,?_⟩ | refine ⟨_,_,rfl,rfl,?_⟩ | refine fP (show Ud _ _ from ib ⟨by walk_at "num",by walk_at "num"⟩) ?_ | refine fP (show Ud _ _ from bf ⟨by walk_at "num",by walk_at "num"⟩) ?_ | refine fP (show Wc _ _ from ⟨by walk_at "num",by walk_at "num"⟩) ?_ | refine fP (show GV _ _ from ⟨by walk_at "num",by walk_at "num",by walk_at "num"⟩) ?_ | refine fP (show (0:Int)<_ by walk_at "num") ?_ | refine ⟨_,_,_,_,rfl,rfl,SqL.of (by walk_at "hp"),(by rfl),?_⟩ | refine ⟨_,_,_,_,rfl,rfl,SqT.of (by walk_at "hp"),(by rfl),?_⟩ | refine ⟨_,_,_,_,rfl,rfl,(by assumption),(by rfl),?_⟩ | refine ⟨_,_,_,_,rfl,rfl,(by walk_at "hp"),(by rfl),?_⟩ | refine ⟨rfl,?_⟩)
local macro_rules | `(tactic| walk_at "r")=>`(tactic| repeat walk_at "rd1")
local macro_rules | `(tactic| walk_at "s")=>`(tactic| exact ⟨rfl,rfl,rfl,by decide +kernel,rfl,by decide +kernel,by decide +kernel⟩)
local macro_rules | `(tactic| walk_at "k")=>`(tactic| decide +kernel)
local macro_rules | `(())=>`(by omega)
local macro_rules | `(∅)=>`(by decide +kernel)
local macro_rules | `(tactic| walk_at "w")=>`(tactic| (intro _ z;cases z))
local macro_rules | `(tactic| walk_at "z")=>`(tactic| (intro z;cases z))
local macro_rules | `(tactic| left)=>`(tactic| walk_at "r")
noncomputable def top (i:Nat):Stmt:=PySem.Challenge.pw_firnfall_k10_whole_glaciers_side_by_side.main.body.getD i (.Pass ⟨0,0,0,0⟩)
noncomputable abbrev zN:Stmt:=top 25
noncomputable abbrev yy:Stmt:=top 26
noncomputable abbrev vY:Stmt:=top 27
noncomputable abbrev Qh:Stmt:=top 28
noncomputable abbrev qY:Stmt:=top 29
noncomputable abbrev ub:Stmt:=top 30
noncomputable abbrev kB:Stmt:=top 31
noncomputable abbrev xC:Stmt:=top 32
noncomputable abbrev vw:Stmt:=top 33
noncomputable abbrev yr:Stmt:=top 38
noncomputable abbrev yE:Stmt:=top 39
noncomputable abbrev yx:Stmt:=top 44
noncomputable abbrev y6:Stmt:=top 45
noncomputable abbrev ya:Stmt:=top 46
noncomputable abbrev qN:Stmt:=(qz (top 47) 0)
noncomputable abbrev zL:Stmt:=(qz (top 47) 1)
noncomputable abbrev ve:Stmt:=(qz (top 47) 2)
noncomputable abbrev vc:Stmt:=(qz (top 47) 3)
noncomputable abbrev xB:Stmt:=(qz (top 47) 4)
noncomputable abbrev xj:Stmt:=(qz (top 47) 5)
noncomputable abbrev y8:Stmt:=(qz (top 47) 6)
noncomputable abbrev y9:Stmt:=(qz (top 47) 7)
noncomputable abbrev yX:Stmt:=(qz (top 47) 8)
noncomputable abbrev yA:Stmt:=(qz (top 47) 9)
noncomputable abbrev yD:Stmt:=(qz (top 47) 10)
noncomputable abbrev vp:Stmt:=(qz (top 47) 11)
noncomputable abbrev vj:Stmt:=(qz (top 47) 12)
noncomputable abbrev zR:Stmt:=(qz (top 47) 13)
noncomputable abbrev xS:Stmt:=(qz (top 47) 14)
noncomputable abbrev zJ:Stmt:=(qz (top 47) 15)
noncomputable abbrev vS:Stmt:=(qz (top 47) 16)
noncomputable abbrev zP:Stmt:=(qz (top 47) 17)
noncomputable abbrev uY:Stmt:=top 49
noncomputable abbrev vg:Stmt:=top 50
noncomputable abbrev vX:Stmt:=top 51
noncomputable abbrev yV:Stmt:=top 52
noncomputable abbrev xZ:Stmt:=top 53
noncomputable abbrev uL:Stmt:=top 54
noncomputable abbrev yb:Stmt:=top 55
noncomputable abbrev zY:Stmt:=top 56
noncomputable abbrev qx:Stmt:=top 57
noncomputable abbrev xf:Stmt:=top 58
noncomputable abbrev xY:Stmt:=top 59
noncomputable abbrev yt:Stmt:=top 60
noncomputable abbrev ua:Stmt:=top 61
noncomputable abbrev zc:Stmt:=top 62
noncomputable abbrev vZ:Stmt:=top 63
noncomputable abbrev uU:Stmt:=top 64
noncomputable abbrev zu:Stmt:=top 65
noncomputable abbrev zC:Stmt:=top 66
noncomputable abbrev xp:Stmt:=top 67
noncomputable abbrev qK:Stmt:=top 68
noncomputable abbrev xU:Stmt:=top 69
noncomputable abbrev qX:Stmt:=top 70
noncomputable abbrev zI:Stmt:=top 71
noncomputable abbrev yu:Stmt:=top 72
noncomputable abbrev qJ:Stmt:=top 73
noncomputable abbrev zB:Stmt:=top 74
noncomputable abbrev vM:Stmt:=top 75
section
variable {P:Program}{w:bp}{K:ah}{mg:Str->Option ak}{base:Heap}
noncomputable abbrev GB:Pos:=⟨66,28,66,49⟩
noncomputable abbrev qw (H:Hp) (Pt:Addr):Prop:=Tab H Pt GB (("lanes" : Str) ++ ".<locals>." ++ "<lambda>")
noncomputable def ZU:Sp:=λvs H Q _=>∃(i:Nat) (t:Int),vs=[.int i,.int t]/\Q (.bl (xN i t)) H
theorem QP:FnScope ["number","to"] ["number","to"] (ja vY):=by walk_at "s"
theorem QH (F:Fun K "leads_on" "leads_on" vY f fd):FnOk P w K mg base CX0 1 f fd ["number","to"] ZU:=by
 refine F.ok QP ↥12 ↥0
 ·obtain ⟨i,t,rfl,_⟩:=h
  rfl
 ·obtain ⟨i,t,rfl,k⟩:=h
  refine ⟨_,(j8 (jF (jr qC (pv 0) j6 (jB _)) (jb (jk (zq qC (pv 1) (Yp Q9 j6) (jB _)))) jo)
   (jb (jk (xx qk wR j6 (pv 1) (pv 0))))),?_⟩
  have fin:∀b:Bool,b=xN i t->Q (.bl b) H:=λb e=>by rw [e];exact k
  left
  refine qH (λh1=>?_) (λh1=>?_)
  ·left
   have h1':i=0:=by have:=V.int.inj h1;omega
   refine fin _ ?_
   unfold xN
   rw [if_pos h1']
   exact decide_eq_decide.mpr ⟨λz=>V.int.inj z,λz=>by rw [z]⟩
  ·have h1':i≠0:=λz=>h1 (by rw [z];rfl)
   left
   refine qH (λh2=>?_) (λh2=>?_)
   ·left
    refine fin _ ?_
    unfold xN
    rw [if_neg h1']
    exact decide_eq_decide.mpr ⟨λz=>⟨h2,z⟩,λz=>z.2⟩
   ·refine fin _ ?_
    unfold xN
    rw [if_neg h1',decide_eq_false (λz=>h2 z.1)]
noncomputable def Y1:Sp:=λvs H Q _=>∃(i:Nat) (v:V) (r:Rch),vs=[.int i,v]/\JV H v r/\r.2.length<=100/\∀H',jn H H'->Q (.bl (okR i r)) H'
theorem vi:FnScope ["number","reach","to","slope"] ["number","reach"] (ja yy):=by walk_at "s"
theorem QQ (nb:Nb2 mg) (g_MOST_HEIGHTS:mg "MOST_HEIGHTS" = some (.int 12 u0)) (g_GREATEST_HEIGHT:mg "GREATEST_HEIGHT" = some (.int 99 u1)) (c_leads_on:Cal P w K mg base 1 "leads_on" ["number","to"] ZU) (F:Fun K "is_reach" "is_reach" yy f fd):FnOk P w K mg base CX0 2 f fd ["number","reach"] Y1:=by
 refine F.ok vi ↥12 ↥0
 ·obtain ⟨i,v,r,rfl,_⟩:=h
  rfl
 ·obtain ⟨i,v,⟨t,hs⟩,rfl,⟨p,g,rfl,hp,hg⟩,h100,k⟩:=h
  have h100':hs.length<=100:=h100
  have fin:∀(b:Bool) (H':Hp),jn H H'->b=okR i (t,hs)->Q (.bl b) H':=λb H' sm e=>by rw [e];exact k H' sm
  refine ⟨_,(j8 (vR (pv 1) (xQ (n:=2) K rfl (jO (jm (i:=2) vi.nd rfl (bf rfl)) (jO (jm (i:=3) vi.nd rfl (bf rfl)) xD))))
   (j8 (jF (PW.pt (ZP (qt (qU (je c_leads_on (hr.mono ⋯) rfl (j2 (pv 0) ↥89)))) (Qp (qt (qS qk qk j6 (jd (ji K) rfl nb.b_len aR (j2 (pv 3) j5)) (jM (v:=V.int 12) rfl g_MOST_HEIGHTS ⟨_,rfl⟩)))))) (jb (jk vO)) jo)
   (jb (jk (jd (zr K rfl) rfl nb.b_all mV (j2 (jX (osc:=(ja yy)) (ON:=["number","reach","to","slope"]) (N:=["height"]) (own:=1) (caps:=[]) ⟨rfl,∅,∅,∅,rfl,∅⟩ rfl rfl rfl (vx K (pv 3)) (λ_ _ _ _ _=>(jm (i:=0) (show b8 (["height"]:List Str) by decide +kernel) rfl (bf rfl))) ↥24 (λ_ _ _ _ _=>(xx qk qk j6 (pv 0) (jM (v:=V.int 99) rfl g_GREATEST_HEIGHT ⟨_,rfl⟩)))) j5)))))),?_⟩
  left
  refine ⟨p,_,rfl,SqT.of hp,rfl,?_⟩
  refine ⟨_,_,rfl,_,_,rfl,rfl,?_⟩
  left
  refine ⟨i,t,rfl,?_⟩
  left
  cases hl:xN i t with
  | false =>
   refine zw ?_
   left
   exact fin _ H (jn.refl H) (by unfold okR;rw [hl];rfl)
  | true =>
   refine wY ?_
   left
   refine ⟨_,_,rfl,.inr (SqT.of hg),?_⟩
   left
   rw [af]
   refine qH (λh1=>?_) (λh1=>?_)
   ·left
    refine xz (λh2=>?_) (λh2=>?_)
    ·left
     exact fin _ H (jn.refl H) (by unfold okR;rw [hl,decide_eq_false (λz=>h2 z.2)];rfl)
    ·left
     refine ⟨⟨_,SqT.of hg⟩,λacc hacc=>?_⟩
     refine QT (K:=K) (a:=g) (xs:=hs.map V.int) (acc:=acc) (λj σ H2=>∃x:Option V,σ=[x]/\H2 acc=some (.lst (((hs.take j).map λx=>decide (0<=x/\x<=99)).map V.bl))/\Ext acc H H2) ?_ ?_ ?_ ?_
     ·exact ⟨none,rfl,j7,Ext.put⟩
     ·rintro j σ H2 hj ⟨x,rfl,h3,e3⟩
      exact SqT.of (e3 _ _ hg (j4 hg hacc))
     ·rintro j v σ H2 hv ⟨x,rfl,h3,e3⟩
      obtain ⟨z,rfl⟩:=yW hv
      have hz:hs[j]? = some z:=by
       rw [aq] at hv
       cases e:hs[j]? with
       | none=>rw [e] at hv;cases hv
       | some y=>rw [e] at hv;cases hv;rfl
      have hj:j<hs.length:=(List.getElem?_eq_some_iff.mp hz).1
      have done:∀b:Bool,b=decide (0<=z/\z<=99)->∃ys,H2 acc=some (.lst ys)/\ys.length<sizeLine/\∃x:Option V,[some (V.int z)]=[x]/\upd H2 acc (.lst (ys++[V.bl b])) acc=some (.lst (((hs.take (j+1)).map λx=>decide (0<=x/\x<=99)).map V.bl))/\Ext acc H (upd H2 acc (.lst (ys++[V.bl b]))):=λb e=>by
       refine ⟨_,h3,by rw [af,af,b0];exact jh (),_,rfl,?_,e3.trans Ext.put⟩
       rw [j7,qA (λx=>decide (0<=x/\x<=99)) hs j z hz,aF,e]
       rfl
      left
      refine qH (λh4=>?_) (λh4=>?_)
      ·left
       exact done _ (decide_eq_decide.mpr ⟨λy=>⟨h4,y⟩,λy=>y.2⟩)
      ·exact done _ (decide_eq_false λy=>h4 y.1).symm
     ·rintro σ H2 ⟨x,rfl,h3,e3⟩
      rw [af,bc] at h3
      refine ⟨acc,_,rfl,SqL.of h3,?_⟩
      refine fin _ H2 (λc o hc=>e3 c o hc (j4 hc hacc)) ?_
      unfold okR
      rw [hl,decide_eq_true (show (1<=(hs.length:Int)/\(hs.length:Int)<=12) from ⟨h1,h2⟩),fi]
      rfl
   ·refine ⟨_,rfl,zw ?_⟩
    left
    exact fin _ H (jn.refl H) (by unfold okR;rw [hl,decide_eq_false (λz=>h1 z.1)];rfl)
noncomputable def J7 (K:ah):Sp:=λvs H Q _=>∃(p:Addr) (xs:List V) (rs:List Rch) (h:Nat),vs=[.ref p,.int h]/\H p=some (.lst xs)/\qf H xs rs/\xr rs/\h<rs.length/\rs.length<=100/\∀t H',H t=none->H' t=some (.tup ((qG rs h).map V.int))->jn H H'->Q (.ref t) H'
theorem zX:FnScope ["reaches","head","way","reach"] ["reaches","head"] (ja ub):=by walk_at "s"
theorem QD (nb:Nb2 mg) (F:Fun K "way_down" "way_down" ub f fd):FnOk P w K mg base CX0 1 f fd ["reaches","head"] (J7 K):=by
 refine F.ok zX ↥12 ↥0
 ·obtain ⟨p,xs,rs,h,rfl,_⟩:=h
  rfl
 ·obtain ⟨p,xs,rs,h,rfl,hp,hrw,L,hh,h100,k⟩:=h
  refine ⟨_,(j8 (jA 2 zX.nd (jD j5))
   (j8 (jA 3 zX.nd (pv 1))
   (j8 (Xr bC (jr Wg (pv 3) j6 (jB _)) (j8 (jU (vm K bR bN bO qL (pv 2) (j2 (pv 3) j5)))
   (jb (jA 3 zX.nd (jj (jt K) (jj (jf K) (pv 0) (pv 3) (λ_ _=>rfl)) j6 (λ_ _=>rfl))))))
   (jb (jk (jL (xy K) rfl nb.b_tuple cF ↥89)))))),?_⟩
  left
  refine ⟨aP _,λwy H1 hwy hwy1 s1=>?_⟩
  left
  have hlen:=hrw.length
  refine QX (λσ H2=>∃(pre:List Int) (r:Int),σ=[some (.ref p),some (.int h),some (.ref wy),some (.int r)]/\H2 wy=some (.lst (pre.map V.int))/\Ext wy H1 H2 /\ -1<=r/\r<rs.length/\pre.length+(r+1).toNat<=100/\pre++(if r<0 then [] else qG rs r.toNat)=qG rs h) (λσ H2=>match σ with | [_,_,_,some (.int r)]=>(r+1).toNat | _=>0) ?_ ?_ ?_
  ·refine ⟨[],h,rfl,hwy1,Ext.refl,(),(),by simp;omega,?_⟩
   rw [if_neg ()]
   rfl
  ·rintro σ H2 ⟨pre,r,rfl,hw2,e2,r0,r1,rl,heq⟩
   left
   refine qH (λhr0=>?_) (λhr0=>?_)
   ·have hp2:H2 p=some (.lst xs):=e2 _ _ (s1 _ _ hp) (j4 hp hwy)
    have hrw2:qf H2 xs rs:=hrw.keep ((jw.same s1).trans (jw.lst e2 hwy1))
    have hi:r.toNat<rs.length:=()
    obtain ⟨v,hv,q,g,rfl,hq,hg⟩:=hrw2.at (ag hi)
    have ht:=L.lt hi
    have ht2:=(kD (L _ hi)).2.1
    have et:=JW (ag hi)
    rw [et] at ht ht2
    generalize (rs[r.toNat]'hi).1=tt at ht ht2 et hq
    left
    refine ⟨.inl ⟨rfl,_,SqL.of hw2⟩,?_⟩
    left
    refine ⟨wy,_,_,rfl,rfl,hw2,by rw [af];exact jh (),?_⟩
    have hne:q≠wy:=jg hq hw2 ↥4
    have hp3:upd H2 wy (.lst (pre.map V.int++[.int r])) p=some (.lst xs):=by rw [j9 (j4 hp hwy)];exact hp2
    have hq3:upd H2 wy (.lst (pre.map V.int++[.int r])) q=some (.tup [.int tt,.ref g]):=by rw [j9 hne];exact hq
    left
    refine ⟨_,_,_,_,rfl,rfl,SqL.of hp3,qV hr0 hv,?_⟩
    refine ⟨_,_,_,_,rfl,rfl,SqT.of hq3,rfl,?_⟩
    refine ⟨⟨pre++[r],tt,rfl,?_,e2.trans Ext.put,(),(),?_,?_⟩,?_⟩
    ·rw [j7,aF];rfl
    ·rw [ay,b7];omega
    ·rw [<- heq,if_neg (show ¬r<0 by omega),zS L hi,et,i0]
     congr 1
     show r::_=_
     congr 1
     omega
    ·show (tt+1).toNat<(r+1).toNat
     omega
   ·rw [if_pos (),bj] at heq
    subst heq
    left
    refine ⟨wy,_,rfl,SqL.of hw2,λt H3 ht ht3 s3=>?_⟩
    exact k t H3 (s1.free (e2.free ht (λz=>by rw [z,hw2] at ht;cases ht))) ht3 (λc o hc=>s3 _ _ (e2 _ _ (s1 _ _ hc) (j4 hc hwy)))
  ·intro σ H2 Q1 Q2 hQ h
   obtain ⟨v,e,r⟩:=h
   obtain ⟨i,j,e1,e2,kk,e3,r⟩:=r
   exact ⟨v,e,i,j,e1,e2,kk,e3,hQ _ _ r⟩
noncomputable def ZY (K:ah):Sp:=λvs H Q _=>∃(p a:Addr) (xs:List V) (rs:List Rch) (way:List Int),vs=[.ref p,.ref a]/\H p=some (.lst xs)/\qf H xs rs/\(∀r∈rs,r.2.length<=100)/\H a=some (.tup (way.map V.int))/\(∀r∈way,0<=r/\r<rs.length)/\way.length<=100/\∀H',jn H H'->Q (.int (jI rs way)) H'
theorem wC:FnScope ["reaches","way"] ["reaches","way"] (ja xC):=by walk_at "s"
theorem wz (nb:Nb2 mg) (F:Fun K "count_places" "count_places" xC f fd):FnOk P w K mg base CX0 1 f fd ["reaches","way"] (ZY K):=by
 refine F.ok wC ↥12 ↥0
 ·obtain ⟨p,a,xs,rs,way,rfl,_⟩:=h
  rfl
 ·obtain ⟨p,a,xs,rs,way,rfl,hp,hrw,h100,ha,hin,hwl,k⟩:=h
  have hlen:=hrw.length
  refine ⟨_,(jb (jk (jd (VC K rfl) rfl nb.b_sum boot_sum (j2 (jX (osc:=(ja xC)) (ON:=["reaches","way"]) (N:=["reach","reaches"]) (own:=1) (caps:=[0]) ⟨rfl,∅,∅,∅,rfl,∅⟩ rfl rfl rfl (vx K (pv 1)) (λ_ _ _ _ _=>(jm (i:=0) (show b8 (["reach","reaches"]:List Str) by decide +kernel) rfl (bf rfl))) ↥24 (λ_ _ _ _ _=>(jd (ji K) rfl nb.b_len aR (j2 (jj (jt K) (jj (jf K) (pv 1) (pv 0) (λ_ _=>rfl)) j6 (λ_ _=>rfl)) j5)))) j5)))),?_⟩
  left
  refine ⟨⟨_,SqT.of ha⟩,λacc hacc=>?_⟩
  refine QT (K:=K) (a:=a) (xs:=way.map V.int) (acc:=acc) (λj σ H2=>∃x:Option V,σ=[x,some (.ref p)]/\H2 acc=some (.lst (((way.take j).map λr=>((y7 rs r.toNat).length:Int)).map V.int))/\Ext acc H H2) ?_ ?_ ?_ ?_
  ·exact ⟨none,rfl,j7,Ext.put⟩
  ·rintro j σ H2 hj ⟨x,rfl,h3,e3⟩
   exact SqT.of (e3 _ _ ha (j4 ha hacc))
  ·rintro j v σ H2 hv ⟨x,rfl,h3,e3⟩
   obtain ⟨r,rfl⟩:=yW hv
   have hz:way[j]? = some r:=by
    rw [aq] at hv
    cases e:way[j]? with
    | none=>rw [e] at hv;cases hv
    | some y=>rw [e] at hv;cases hv;rfl
   have hj:j<way.length:=(List.getElem?_eq_some_iff.mp hz).1
   have hr:=hin r (ar hz)
   have hi:r.toNat<rs.length:=()
   obtain ⟨v,hv',q,g,rfl,hq,hg⟩:=(hrw.keep (jw.new e3 hacc)).at (ag hi)
   left
   refine ⟨_,_,_,_,rfl,rfl,SqL.of (e3 _ _ hp (j4 hp hacc)),qV hr.1 hv',?_⟩
   refine ⟨_,_,_,_,rfl,rfl,SqT.of hq,rfl,?_⟩
   refine ⟨_,_,rfl,.inr (SqT.of hg),?_⟩
   refine ⟨_,h3,by rw [af,af,b0];exact jh (),_,rfl,?_,e3.trans Ext.put⟩
   rw [j7,qA (λr:Int=>((y7 rs r.toNat).length:Int)) way j r hz,aF,Q5 (ag hi),af]
   rfl
  ·rintro σ H2 ⟨x,rfl,h3,e3⟩
   rw [af,bc] at h3
   refine ⟨acc,_,rfl,SqL.of h3,by rw [af];omega,λn hn=>?_,?_⟩
   ·obtain ⟨r,hr,rfl⟩:=List.mem_map.mp hn
    have hb:=hin r hr
    have hi:r.toNat<rs.length:=()
    have:=h100 _ (bW hi)
    rw [Q5 (ag hi)]
    omega
   ·exact k H2 λc o hc=>e3 c o hc (j4 hc hacc)
noncomputable def uB (K:ah) (Pt:Addr):Sp:=λvs H Q _=>∃(p:Addr) (xs:List V) (rs:List Rch),vs=[.ref p]/\H p=some (.lst xs)/\qf H xs rs/\xr rs/\rs.length<=60/\qw H Pt/\∀l H' out ws,H l=none->H' l=some (.lst out)->yj H' out ws->qe rs ws->Ext Pt H H'->qw H' Pt->Q (.ref l) H'
theorem kh:FnScope ["reaches","entered","ways"] ["reaches"] (ja qY):=by walk_at "s"
theorem Xz {α:Type}(l:List α) (d:α):((aW l.length).map λi=>l.getD i d)=l:=by
 apply ie
 ·simp
 ·intro i h1 h2
  simp [h2]
theorem Jk {vs:List V}{ws:List (List Int)}(h:yj H vs ws):∀ix:List Nat,(∀i∈ix,i<vs.length)->yj H (ix.map λi=>vs.getD i V.non) (ix.map λi=>ws.getD i [])
 | [],_=>.nil
 | i::ix,hb=>by
  refine .cons ?_ (Jk h ix λj hj=>hb j (aH _ hj))
  have hi:=hb i aO
  obtain ⟨y,e2,a,e3,e4⟩:=Paired.get h (ag hi)
  refine ⟨a,?_,?_⟩
  ·show vs.getD i V.non=V.ref a
   rw [ao,ag hi];exact e3
  ·show H a=some (.tup ((ws.getD i []).map V.int))
   rw [ao,e2];exact e4
theorem JP {roads:List (List Int)}{vs out:List V}(hr:roads=(ju rs).map (qG rs)) (hv:yj H vs roads) (k:jw H H') (hs:uA wA (λi=>(roads.getD i []).reverse) vs out):∃ws,yj H' out ws/\qe rs ws:=by
 obtain ⟨ix,hp,e,hpw⟩:=hs
 have hb:∀i∈ix,i<vs.length:=λi hi=>by have:=hp.mem_iff.mp hi;simpa using this
 refine ⟨ix.map λi=>roads.getD i [],by rw [e];exact (Jk hv ix hb).keep k,?_,?_⟩
 ·have:=hp.map λi=>roads.getD i []
  rw [hv.length,Xz] at this
  rw [<- hr]
  exact this
 ·rw [bF]
  exact hpw
theorem VU {oc:ak}{od:Option Addr}{osl:Array (Option ak)}{kV pm:ak}(nb:Nb2 mg) (c_way_down:Cal P w K mg base 1 "way_down" ["reaches","head"] (J7 K)) (CH:PySem.W.CodeHd base c Pt) (hBm:Bm mg base)
  (l:K.lookup f=some ⟨oc,od,.func (bE "lanes" "lanes" (qh qY) (jQ qY) (ja qY) .none kV doc pm an (.ref c) ct),osl⟩) (cd:cz K (.ref c) "lanes" = true) :
  FnOk P w K mg base CX0 5 f (bE "lanes" "lanes" (qh qY) (jQ qY) (ja qY) .none kV doc pm an (.ref c) ct) ["reaches"] (uB K Pt):=by
 refine Fun.okC l cd kh ↥12 (λA outer s H vs Q E hr h=>?_)
 ·obtain ⟨p,xs,rs,rfl,_⟩:=h
  rfl
 ·obtain ⟨p,xs,rs,rfl,hp,hrw,L,h60,hT,k⟩:=h
  have hlen:=hrw.length
  refine ⟨_,(j8 (vT (i:=1) kh.nd rfl (ib rfl) (jX (osc:=(ja qY)) (ON:=["reaches","entered","ways"]) (N:=["to","slope"]) (own:=2) (caps:=[]) ⟨rfl,∅,∅,∅,rfl,∅⟩ rfl rfl rfl (qi K (pv 0)) (λ_ _ _ _ _=>(xQ (n:=2) K rfl (jO (jm (i:=0) (show b8 (["to","slope"]:List Str) by decide +kernel) rfl (bf rfl)) (jO (jm (i:=1) (show b8 (["to","slope"]:List Str) by decide +kernel) rfl (bf rfl)) xD)))) ↥24 (λ_ _ _ _ _=>(pv 0))))
   (j8 (ut (j:=2) (osc:=(ja qY)) (ON:=["reaches","entered","ways"]) (N:=["head","reaches","entered"]) (own:=1) (caps:=[0,1]) ⟨rfl,∅,∅,∅,rfl,∅⟩ kh.nd rfl (bf rfl) rfl rfl rfl (qI rfl nb.b_range (j2 (jd (ji K) rfl nb.b_len aR ↥29) j5)) (λ_ _ _ _ _=>(jm (i:=0) (show b8 (["head","reaches","entered"]:List Str) by decide +kernel) rfl (bf rfl))) (λ_ _ _ _ _=>(kX (jr (yc K) (pv 0) (pv 2) ↥35))) (λ_ _ _ _ _=>(je c_way_down (hr.mono ⋯) rfl (j2 (pv 1) ↥29))))
   (jb (jk (Zb (N:=["way"]) (x:="way") (k:=0) rfl nb.b_sorted ↥89 rfl CH hBm (hr.mono ⋯) (by walk_at "s") (λ_ _ _ _=>rfl) (λ_ _ _ _=>(UR K (pv 0)))))))),?_⟩
  left
  refine ⟨⟨_,SqL.of hp⟩,λen hen=>?_⟩
  refine jT (K:=K) (a:=p) (xs:=xs) (acc:=en) (λj σ H2=>∃x y:Option V,σ=[x,y]/\H2 en=some (.lst (((rs.take j).map (·.1)).map V.int))/\Ext en H H2) ?_ ?_ ?_ ?_
  ·exact ⟨none,none,rfl,j7,Ext.put⟩
  ·rintro j σ H2 hj ⟨x,y,rfl,h3,e3⟩
   exact SqL.of (e3 _ _ hp (j4 hp hen))
  ·rintro j v σ H2 hv ⟨x,y,rfl,h3,e3⟩
   obtain ⟨r,hr,q,g,rfl,hq,hg⟩:=(hrw.keep (jw.new e3 hen)).get hv
   have hj:j<rs.length:=(List.getElem?_eq_some_iff.mp hr).1
   left
   refine ⟨q,_,rfl,SqT.of hq,rfl,?_⟩
   refine ⟨_,_,rfl,_,_,rfl,rfl,?_⟩
   left
   refine ⟨_,h3,by rw [af,af,b0];exact jh (),_,_,rfl,?_,e3.trans Ext.put⟩
   rw [j7,qA (λr:Rch=>r.1) rs j r hr,aF]
   rfl
  ·rintro σ H2 ⟨x,y,rfl,h3,e3⟩
   rw [hlen,bc] at h3
   have hp2:=e3 _ _ hp (j4 hp hen)
   have hrw2:qf H2 xs rs:=hrw.keep (jw.new e3 hen)
   have hT2:qw H2 Pt:=hT.extN hen e3
   left
   refine ⟨_,_,rfl,.inl (SqL.of hp2),?_⟩
   refine ⟨_,rfl,(),(),λwy hwy=>?_⟩
   rw [hlen]
   refine xi (lo:=0) (n:=((rs.length:Nat):Int).toNat) (acc:=wy) (λj σ H3=>∃(x:Option V) (vs:List V),σ=[x,some (.ref p),some (.ref en)]/\H3 wy=some (.lst vs)/\yj H3 vs (((aW j).filter (jZ rs)).map (qG rs))/\Ext wy H2 H3/\vs.length<=j) ?_ ?_ ?_
   ·exact ⟨none,[],rfl,j7,.nil,Ext.put,av _⟩
   ·rintro j σ H3 hj ⟨x,vs,rfl,h4,w4,e4,l4⟩
    have hj':j<rs.length:=()
    have hen4:=e4 _ _ h3 (j4 h3 hwy)
    have hp4:=e4 _ _ hp2 (j4 hp2 hwy)
    have hrw4:qf H3 xs rs:=hrw2.keep (jw.new e4 hwy)
    have er:(aW (j+1)).filter (jZ rs)=(aW j).filter (jZ rs)++(if jZ rs j=true then [j] else []):=by
     rw [eF,ee]
     congr 1
     by_cases z:jZ rs j=true
     ·rw [if_pos z];simp [z]
     ·rw [if_neg z];simp [z]
    left
    refine ⟨en,_,rfl,.inl (SqL.of hen4),rfl,vD _,?_⟩
    left
    rw [pw,uj]
    refine xz (λhin=>?_) (λhin=>?_)
    ·have hb:jZ rs j=true:=by unfold jZ;rw [decide_eq_false (show ¬(j:Int)∈tos rs from hin)];rfl
     left
     refine ⟨p,xs,rs,j,rfl,hp4,hrw4,L,hj',(),λt H5 ht ht5 s5=>?_⟩
     have nt:t≠wy:=λz=>by rw [z,h4] at ht;cases ht
     have h5:=s5 _ _ h4
     refine ⟨vs,h5,jh (),_,vs++[.ref t],rfl,j7,?_,λc o hc n=>by rw [j9 n];exact s5 _ _ (e4 c o hc n),by rw [ay,b7];omega⟩
     rw [er,if_pos hb,aF]
     exact yj.keep (jw.lst Ext.put h5) (cE (w4.keep (jw.same s5)) ⟨t,rfl,ht5⟩)
    ·have hb:¬jZ rs j=true:=by unfold jZ;rw [decide_eq_true (show (j:Int)∈tos rs from hin)];exact au
     refine ⟨_,vs,rfl,h4,?_,e4,()⟩
     rw [er,if_neg hb,bj]
     exact w4
   ·rintro σ H3 ⟨x,vs,rfl,h4,w4,e4,l4⟩
    have hT3:qw H3 Pt:=hT2.extN hwy e4
    obtain ⟨ps,hPt⟩:=hT3.ne
    rw [bz] at w4 l4
    have hvl:=w4.length
    left
    refine ⟨hT3,wy,vs,λi=>((((ju rs).map (qG rs)).getD i []).reverse),rfl,SqL.of h4,(),λi hi z=>?_,λH5 X5 i v hv=>?_,λlo H5 out hlo hlo5 X5 T5 hs=>?_⟩
    ·have hi2:i<(ju rs).length:=by
      rw [af] at hvl
      exact Nat.lt_of_lt_of_eq hi hvl
     have z2:((ju rs).map (qG rs)).getD i []=[]:=List.reverse_eq_nil_iff.mp z
     rw [ao,aq,ag hi2] at z2
     exact Ur _ z2
    ·obtain ⟨y,e2,a,rfl,ha⟩:=Paired.get w4 hv
     have ha5:=jw.tbl X5 hPt _ _ ha
     left
     refine ⟨a,_,rfl,SqT.of ha5,λq H6 hq hq6 s6=>⟨s6,q,rfl,?_⟩⟩
     show H6 q=some (.tup (((((ju rs).map (qG rs)).getD i []).reverse).map V.int))
     rw [hq6,ao,show ((ju rs).map (qG rs))[i]? = some y from e2,<- pS]
     rfl
    ·obtain ⟨ws,hw,hrd⟩:=JP (rs:=rs) rfl w4 (jw.tbl X5 hPt) hs
     have wyP:wy≠Pt:=jg h4 hPt ↥4
     have enP:en≠Pt:=jg (e4 _ _ h3 (j4 h3 hwy)) hPt ↥4
     have hlo3:H lo=none:=by
      have a1:H2 lo=none:=e4.free hlo (λz=>by rw [z,h4] at hlo;cases hlo)
      exact e3.free a1 (λz=>by rw [z,h3] at a1;cases a1)
     exact k lo H5 out ws hlo3 hlo5 hw hrd (λc o hc n=>X5 _ _ (e4 _ _ (e3 _ _ hc (j4 hc hen)) (j4 (e3 _ _ hc (j4 hc hen)) hwy)) n) T5
noncomputable def Uo (K:ah):Sp:=λvs H Q _=>∃(p wl:Addr) (xs out:List V) (rs:List Rch) (ws:List (List Int)),vs=[.ref p,.ref wl]/\H p=some (.lst xs)/\qf H xs rs/\(∀r∈rs,r.2.length<=100)/\H wl=some (.lst out)/\yj H out ws/\qe rs ws/\xr rs/\rs.length<=60 /\
 ∀H',jn H H'->Q (.bl (decide (((ju rs).length:Int)<=6) && (ju rs).all λh=>decide (jI rs (qG rs h)<=30))) H'
theorem UU:FnScope ["reaches","ways"] ["reaches","ways"] (ja Qh):=by walk_at "s"
theorem Ux (nb:Nb2 mg) (g_MOST_LANES:mg "MOST_LANES" = some (.int 6 u0)) (g_LONGEST_LANE:mg "LONGEST_LANE" = some (.int 30 u1)) (c_count_places:Cal P w K mg base 1 "count_places" ["reaches","way"] (ZY K)) (F:Fun K "fits" "fits" Qh f fd):FnOk P w K mg base CX0 2 f fd ["reaches","ways"] (Uo K):=by
 refine F.ok UU ↥12 ↥0
 ·obtain ⟨p,wl,xs,out,rs,ws,rfl,_⟩:=h
  rfl
 ·obtain ⟨p,wl,xs,out,rs,ws,rfl,hp,hrw,h100,hw,hws,hrd,L,h60,k⟩:=h
  have hwl:=hws.length
  have hrl:=hrd.length
  have hhl:(ju rs).length<=60:=by
   unfold ju
   exact aE (bI _ _) (by rw [c5];exact h60)
  have fin:∀(b:Bool) (H':Hp),jn H H'->b=(decide (((ju rs).length:Int)<=6) && (ju rs).all λh=>decide (jI rs (qG rs h)<=30))->Q (.bl b) H':=λb H' sm e=>by rw [e];exact k H' sm
  refine ⟨_,(jb (jk (zx (zq qk (jd (ji K) rfl nb.b_len aR ↥71) (jM (v:=V.int 6) rfl g_MOST_LANES ⟨_,rfl⟩) (jB _)) (yI (jd (zr K rfl) rfl nb.b_all mV (j2 (jX (osc:=(ja Qh)) (ON:=["reaches","ways"]) (N:=["way","reaches"]) (own:=1) (caps:=[0]) ⟨rfl,∅,∅,∅,rfl,∅⟩ rfl rfl rfl (qi K (pv 1)) (λ_ _ _ _ _=>(jm (i:=0) (show b8 (["way","reaches"]:List Str) by decide +kernel) rfl (bf rfl))) ↥24 (λ_ _ _ _ _=>(zq qk (je c_count_places (hr.mono ⋯) rfl (j2 (pv 1) ↥29)) (jM (v:=V.int 30) rfl g_LONGEST_LANE ⟨_,rfl⟩) (jB _)))) j5)))))),?_⟩
  left
  refine ⟨_,_,rfl,.inl (SqL.of hw),?_⟩
  left
  refine qH (λh1=>?_) (λh1=>?_)
  ·left
   refine ⟨⟨_,SqL.of hw⟩,λacc hacc=>?_⟩
   refine jT (K:=K) (a:=wl) (xs:=out) (acc:=acc) (λj σ H2=>∃x:Option V,σ=[x,some (.ref p)]/\H2 acc=some (.lst (((ws.take j).map λw=>decide (jI rs w<=30)).map V.bl))/\Ext acc H H2) ?_ ?_ ?_ ?_
   ·exact ⟨none,rfl,j7,Ext.put⟩
   ·rintro j σ H2 hj ⟨x,rfl,h3,e3⟩
    exact SqL.of (e3 _ _ hw (j4 hw hacc))
   ·rintro j v σ H2 hv ⟨x,rfl,h3,e3⟩
    obtain ⟨wy,ew,a,rfl,ha⟩:=Paired.get (hws.keep (jw.new e3 hacc)) hv
    have hj:j<ws.length:=(List.getElem?_eq_some_iff.mp ew).1
    obtain ⟨hd,hhd,ewy⟩:=hrd.mem (ar ew)
    have hdl:=xA hhd
    have hwlen:wy.length<=100:=by rw [ewy];have:=uo L hd hdl;omega
    left
    refine ⟨p,a,xs,rs,wy,rfl,e3 _ _ hp (j4 hp hacc),hrw.keep (jw.new e3 hacc),h100,ha,by rw [ewy];exact ze L hd hdl,hwlen,λH4 s4=>?_⟩
    left
    refine ⟨_,s4 _ _ h3,by rw [af,af,b0];exact jh (),_,rfl,?_,λc o hc n=>by rw [j9 n];exact s4 _ _ (e3 c o hc n)⟩
    rw [j7,qA (λw=>decide (jI rs w<=30)) ws j wy ew,aF]
    rfl
   ·rintro σ H2 ⟨x,rfl,h3,e3⟩
    rw [hwl,bc] at h3
    refine ⟨acc,_,rfl,SqL.of h3,?_⟩
    refine fin _ H2 (λc o hc=>e3 c o hc (j4 hc hacc)) ?_
    rw [decide_eq_true (show ((ju rs).length:Int)<=6 by rw [<- hrl,<- hwl];exact h1),eL,hrd.all]
  ·refine fin _ H (jn.refl H) ?_
   rw [decide_eq_false (show ¬((ju rs).length:Int)<=6 by rw [<- hrl,<- hwl];exact h1)]
   rfl
noncomputable def Xq (K:ah) (Pt:Addr):Sp:=λvs H Q _=>∃(p:Addr) (xs:List V) (rs:List Rch),vs=[.ref p]/\H p=some (.lst xs)/\qf H xs rs/\(∀r∈rs,r.2.length<=100)/\rs.length<=60/\qw H Pt/\∀H',Ext Pt H H'->qw H' Pt->Q (.bl (zm rs)) H'
theorem Qr:FnScope ["reaches"] ["reaches"] (ja zN):=by walk_at "s"
theorem Qf (nb:Nb2 mg) (g_MOST_REACHES:mg "MOST_REACHES" = some (.int 8 u0)) (c_is_reach:Cal P w K mg base 2 "is_reach" ["number","reach"] Y1) (c_lanes:Cal P w K mg base 5 "lanes" ["reaches"] (uB K Pt)) (c_fits:Cal P w K mg base 2 "fits" ["reaches","ways"] (Uo K)) (F:Fun K "is_valley" "is_valley" zN f fd):FnOk P w K mg base CX0 6 f fd ["reaches"] (Xq K Pt):=by
 refine F.ok Qr ↥12 ↥0
 ·obtain ⟨p,xs,rs,rfl,_⟩:=h
  rfl
 ·obtain ⟨p,xs,rs,rfl,hp,hrw,h100,h60,hT,k⟩:=h
  have hlen:=hrw.length
  have fin:∀(b:Bool) (H':Hp),Ext Pt H H'->qw H' Pt->b=zm rs->Q (.bl b) H':=λb H' x t e=>by rw [e];exact k H' x t
  refine ⟨_,(j8 (jF (qt (qS qk qk j6 (jd (ji K) rfl nb.b_len aR ↥29) (jM (v:=V.int 8) rfl g_MOST_REACHES ⟨_,rfl⟩))) (jb (jk vO)) jo)
   (j8 (jF (qt (qU (jd (zr K rfl) rfl nb.b_all mV (j2 (jX (osc:=(ja zN)) (ON:=["reaches"]) (N:=["number","reach"]) (own:=2) (caps:=[]) ⟨rfl,∅,∅,∅,rfl,∅⟩ rfl rfl rfl (wO K rfl nb.b_enumerate ↥29) (λ_ _ _ _ _=>(xQ (n:=2) K rfl (jO (jm (i:=0) (show b8 (["number","reach"]:List Str) by decide +kernel) rfl (bf rfl)) (jO (jm (i:=1) (show b8 (["number","reach"]:List Str) by decide +kernel) rfl (bf rfl)) xD)))) ↥24 (λ_ _ _ _ _=>(je c_is_reach (hr.mono ⋯) rfl (j2 (pv 0) ↥71)))) j5)))) (jb (jk vO)) jo)
   (jb (jk (je c_fits (hr.mono ⋯) rfl (j2 (pv 0) (j2 (je c_lanes (hr.mono ⋯) rfl ↥29) j5))))))),?_⟩
  left
  refine ⟨_,_,rfl,.inl (SqL.of hp),?_⟩
  left
  have no:¬(1<=(xs.length:Int)/\(xs.length:Int)<=8)->Q (.bl false) H:=λz=>fin _ H Ext.refl hT (by unfold zm;rw [decide_eq_false (by rw [<- hlen];exact z)];rfl)
  refine qH (λh1=>?_) (λh1=>?_)
  ·left
   refine xz (λh2=>?_) (λh2=>?_)
   ·left
    exact no λz=>h2 z.2
   ·have h18:decide (1<=(rs.length:Int)/\(rs.length:Int)<=8)=true:=decide_eq_true (by rw [<- hlen];exact ⟨h1,h2⟩)
    left
    refine ⟨⟨_,SqL.of hp⟩,λacc hacc=>?_⟩
    refine YO (K:=K) (a:=p) (xs:=xs) (acc:=acc) (λj σ H2=>∃x y:Option V,σ=[x,y]/\H2 acc=some (.lst ((((aW j)).map λi=>okR i (rs.getD i (-1,[]))).map V.bl))/\Ext acc H H2) ?_ ?_ ?_ ?_
    ·exact ⟨none,none,rfl,j7,Ext.put⟩
    ·rintro j σ H2 hj ⟨x,y,rfl,h3,e3⟩
     exact SqL.of (e3 _ _ hp (j4 hp hacc))
    ·rintro j v σ H2 t hv ⟨x,y,rfl,h3,e3⟩ ht
     have hacct:acc≠t:=λz=>by rw [z] at h3;rw [h3] at ht;cases ht
     obtain ⟨r,hr,hrow⟩:=(hrw.keep (jw.new e3 hacc)).get hv
     have hj:j<rs.length:=(List.getElem?_eq_some_iff.mp hr).1
     left
     refine ⟨t,_,rfl,SqT.of j7,rfl,?_⟩
     refine ⟨_,_,rfl,_,_,rfl,rfl,?_⟩
     left
     refine ⟨j,v,r,rfl,hrow.keep (jw.same (jn.new ht)),h100 r (ar hr),λH4 s4=>?_⟩
     refine ⟨_,s4 _ _ ((jn.new ht) _ _ h3),by rw [af,af,c5];exact jh (),_,_,rfl,?_,λc o hc n=>by rw [j9 n];exact s4 _ _ ((jn.new ht) _ _ (e3 c o hc n))⟩
     rw [j7,eF,aF,aF]
     simp only [aV,fh]
     rw [ao,hr]
     rfl
    ·rintro σ H2 ⟨x,y,rfl,h3,e3⟩
     rw [hlen] at h3
     have sm:jn H H2:=λc o hc=>e3 c o hc (j4 hc hacc)
     refine ⟨acc,_,rfl,SqL.of h3,?_⟩
     left
     have eok:(((aW rs.length).map λi=>okR i (rs.getD i (-1,[]))).all λb=>b)=wb rs:=by rw [fi];rfl
     rw [eok]
     cases hok:wb rs with
     | false =>
      refine zw ?_
      left
      exact fin _ H2 (Ext.of_same sm) (hT.same sm) (by unfold zm;rw [hok,h18];rfl)
     | true =>
      refine wY ?_
      have L:=qp hok
      left
      refine ⟨p,xs,rs,rfl,sm _ _ hp,hrw.keep (jw.same sm),L,h60,hT.same sm,λl H3 out ws hl hl3 w3 r3 X3 T3=>?_⟩
      obtain ⟨ps,hPt⟩:=(hT.same sm).ne
      have hp3:=X3 _ _ (sm _ _ hp) (jg (sm _ _ hp) hPt ↥4)
      refine ⟨p,l,xs,out,rs,ws,rfl,hp3,hrw.keep ((jw.same sm).trans (jw.tbl X3 hPt)),h100,hl3,w3,r3,L,h60,λH4 s4=>?_⟩
      exact fin _ H4 (((Ext.of_same sm).trans X3).trans (Ext.of_same s4)) (T3.same s4) (by unfold zm;rw [hok,h18];rfl)
  ·refine ⟨_,rfl,zw ?_⟩
   left
   exact no λz=>h1 z.1
theorem uJ:FnScope ["_law_number","_law_turn","_law_one"] ["_law_number","_law_turn"] (ja vg):=by walk_at "s"
theorem VI (F:Fun K "_law_mixed" "_law_mixed" vg f fd):FnOk P w K mg base CX0 1 f fd ["_law_number","_law_turn"] Yc:=by
 refine F.ok uJ ↥12 ↥0
 ·obtain ⟨a,b,rfl,_⟩:=h
  rfl
 ·obtain ⟨a,b,rfl,k⟩:=h
  refine ⟨_,(j8 (jA 2 uJ.nd (jv zh (jv qr (jv qr (jv uQ (pv 0) j6) (jv uQ (pv 1) j6)) j6) j6))
   (jb (jk (jv uc (jv zh (jv qr (jv qr (jv uQ (pv 2) (jv qr (jv zh (pv 2) j6) j6)) (jv uQ (pv 1) j6)) (jv zh (jv uc (pv 0) j6) j6)) j6) j6)))),?_⟩
  left
  exact k _
theorem v0:FnScope ["_law_box_here","_law_size","_law_left","_law_cell"] ["_law_box_here","_law_size"] (ja vX):=by walk_at "s"
theorem UB (nb:Nb mg) (c_law_mixed:Cal P w K mg base 1 "_law_mixed" ["_law_number","_law_turn"] Yc) (F:Fun K "_law_take" "_law_take" vX f fd):FnOk P w K mg base CX0 2 f fd ["_law_box_here","_law_size"] xG:=by
 refine F.ok v0 ↥12 ↥0
 ·obtain ⟨L,b,n,rfl,_⟩:=h
  rfl
 ·obtain ⟨L,b,n,rfl,B,⟨hn,hn2⟩,k⟩:=h
  obtain ⟨ns,a,r,c,d,hb,hL,hS,ha⟩:=B
  refine ⟨_,(j8 (vR (jv qr ↥34 j6) (kK (pv 0) j6 vf))
   (j8 (jF (jr QM ↥34 j6 (jB _)) (j8 (jA 2 v0.nd ↥34)
   (j8 (vR (jv uc (pv 2) (pv 1)) (kK (pv 0) j6 vf))
   (jb (jk (jv zh (pv 2) (pv 1)))))) jo)
   (j8 (jF (jr Wg ↥34 (jd (ji K) rfl nb.b_len aR (j2 ↥34 j5)) (jB _)) (jb (jk (jv zh (je c_law_mixed (hr.mono ⋯) rfl (j2 ↥34 (j2 ↥34 j5))) (pv 1)))) jo)
   (j8 (jA 3 v0.nd (jj (jf K) ↥34 ↥34 (λ_ _=>rfl)))
   (j8 (vR (jv qr ↥34 j6) (kK (pv 0) j6 vf))
   (j8 (jF (jr wR (pv 3) (jv Qk j6 j6) (jB _)) (jb (jk (jv zh (je c_law_mixed (hr.mono ⋯) rfl (j2 (pv 3) (j2 ↥34 j5))) (pv 1)))) jo)
   (j8 (vR (jv uc (pv 3) (pv 1)) (kK (pv 0) j6 vf))
   (jb (jk (jv zh (pv 3) (pv 1))))))))))),?_⟩
  left
  refine qH (λh1=>?_) (λh1=>?_)
  ·left
   exact k _ _ (fI _ ()) (eB _ hn) ⟨ns,_,_,_,_,j7,hL,(Ext.put.trans Ext.put) _ _ hS hL,ha⟩ (Ext.put.trans Ext.put)
  ·have hS1:∀o,SqL K (upd H b o) L (ns.map V.int):=λo=>SqL.of (Ext.put _ _ hS hL)
   left
   refine ⟨_,_,rfl,.inl (hS1 _),?_⟩
   left
   refine qH (λh2=>?_) (λh2=>?_)
   ·left
    refine ⟨_,_,rfl,λz=>?_⟩
    left
    exact k _ _ (fI _ ()) (eB _ hn) ⟨ns,_,_,_,_,j7,hL,Ext.put _ _ hS hL,ha⟩ Ext.put
   ·have h3:a<ns.length:=by
     rw [af] at h2
     omega
    obtain ⟨z,hz⟩:=yq ha h3
    left
    refine ⟨_,_,_,_,rfl,rfl,hS1 _,hz,?_⟩
    left
    refine qH (λh4=>?_) (λh4=>?_)
    ·left
     refine ⟨_,_,rfl,λz=>?_⟩
     left
     exact k _ _ (fI _ ()) (eB _ hn) ⟨ns,_,_,_,_,j7,hL,(Ext.put.trans Ext.put) _ _ hS hL,()⟩ (Ext.put.trans Ext.put)
    ·left
     exact k _ _ (fI _ ()) (eB _ hn) ⟨ns,_,_,_,_,j7,hL,((Ext.put.trans Ext.put).trans Ext.put) _ _ hS hL,()⟩ ((Ext.put.trans Ext.put).trans Ext.put)
theorem yH:FnScope ["_law_script","_law_seed","_law_cell"] ["_law_script"] (ja uY):=by walk_at "s"
theorem Wv (nb:Nb mg) (F:Fun K "_law_box" "_law_box" uY f fd):FnOk P w K mg base CX0 1 f fd ["_law_script"] (Vn K):=by
 refine F.ok yH ↥12 ↥0
 ·obtain ⟨a,ns,rfl,_⟩:=h
  rfl
 ·obtain ⟨a,ns,rfl,hS,k⟩:=h
  refine ⟨_,(j8 (jA 1 yH.nd j6)
   (j8 (xk bC rfl (qi K (pv 0)) (jm (i:=2) yH.nd rfl (bf rfl)) (jb (jA 1 yH.nd (jv zh (jv qr (jv qr (jv uQ (pv 1) j6) (jv zh (pv 2) j6)) j6) j6))))
   (jb (jk (jD (j2 (jL (jN K) rfl nb.b_list bo ↥29) (j2 j6 (j2 j6 (j2 j6 ↥71))))))))),?_⟩
  left
  refine ⟨⟨_,hS⟩,Xu (K:=K) (a:=a) (xs:=ns.map V.int) (λi σ H2=>∃(seed:Int) (v:Option V),σ=[some (.ref a),some (.int seed),v]/\H2=H) ⟨_,_,rfl,rfl⟩ (λi σ H2 _ ⟨_,_,_,e⟩=>by rw [e];exact hS) ?_ ?_⟩
  ·rintro i y σ H2 hi ⟨seed,v,rfl,rfl⟩
   obtain ⟨z,rfl⟩:=yW hi
   left
   exact ⟨_,_,rfl,rfl⟩
  ·rintro σ H2 ⟨seed,v,rfl,rfl⟩
   left
   refine ⟨a,_,rfl,.inl hS,λL H3 hL hL3 s3=>?_⟩
   left
   refine ⟨by show 5<=sizeLine;decide,λb H4 hb hb4 s4=>?_⟩
   exact k L b _ (s3.free hb) ⟨ns,_,_,_,_,hb4,j4 hL3 hb,s4 _ _ hL3,Int.le_refl _⟩ (s3.trans s4)
noncomputable def good (t:T3):Bool:=decide (0<=t.1/\t.1<=100/\0<=t.2.1/\t.2.1<=9/\0<=t.2.2/\t.2.2<=9)
noncomputable def gr (ts:List T3):Bool:=decide (1<=(ts.length:Int)/\(ts.length:Int)<=12) && ts.all good
theorem Wb {ts:List T3}(h:¬(1<=(ts.length:Int)/\(ts.length:Int)<=12)):gr ts=false:=by unfold gr;rw [decide_eq_false h];rfl
theorem WM {ts:List T3}(h:1<=(ts.length:Int)/\(ts.length:Int)<=12):gr ts=(ts.map good).all λb=>b:=by
 unfold gr
 rw [decide_eq_true h,eL,fi]
 rfl
noncomputable def ke:Sp:=λvs H Q _=>∃(p:Addr) (t:T3),vs=[.ref p]/\H p=some (zM t)/\Q (.bl (good t)) H
local macro_rules | `(tactic| walk_at "forks")=>`(tactic| (walk_at "r";first | (refine qH (fun _=>?_) (fun _=>?_) <;> walk_at "forks") | skip))
theorem xR:FnScope ["row","line","snow","sun"] ["row"] (ja yr):=by walk_at "s"
theorem gA (g_HIGHEST_LINE:mg "HIGHEST_LINE" = some (.int 100 u0)) (g_MOST_HANDS:mg "MOST_HANDS" = some (.int 9 u1)) (F:Fun K "is_weather" "is_weather" yr f fd):FnOk P w K mg base CX0 1 f fd ["row"] ke:=by
 refine F.ok xR ↥12 ↥0
 ·obtain ⟨p,t,rfl,_⟩:=h
  rfl
 ·obtain ⟨p,⟨l,sn,u⟩,rfl,hp,k⟩:=h
  refine ⟨_,(j8 (vR (pv 0) (xQ (n:=3) K rfl (jO (jm (i:=1) xR.nd rfl (bf rfl)) (jO (jm (i:=2) xR.nd rfl (bf rfl)) (jO (jm (i:=3) xR.nd rfl (bf rfl)) xD)))))
   (jb (jk (zx (xx qk qk j6 (pv 1) (jM (v:=V.int 100) rfl g_HIGHEST_LINE ⟨_,rfl⟩)) (zx (xx qk qk j6 (pv 2) (jM (v:=V.int 9) rfl g_MOST_HANDS ⟨_,rfl⟩)) (yI (xx qk qk j6 (pv 3) (jM (v:=V.int 9) rfl g_MOST_HANDS ⟨_,rfl⟩)))))))),?_⟩
  left
  refine ⟨p,_,rfl,SqT.of hp,rfl,?_⟩
  refine ⟨_,_,rfl,_,_,rfl,_,_,rfl,rfl,?_⟩
  walk_at "forks"
  all_goals
   refine Eq.mp (congrArg (λz=>Q (V.bl z) H) ?_) k
   unfold good
   dsimp only at *
   first | (apply decide_eq_false;omega) | (apply decide_eq_decide.mpr;omega)
theorem Xy:FnScope ["rows"] ["rows"] (ja yE):=by walk_at "s"
noncomputable def Yg (K:ah):Sp:=λvs H Q _=>∃(p:Addr) (xs:List V) (ts:List T3),vs=[.ref p]/\H p=some (.lst xs)/\jH H xs ts/\ts.length<=1000/\∀H',jn H H'->Q (.bl (gr ts)) H'
theorem XR (nb:Nb mg) (g_MOST_ROWS:mg "MOST_ROWS" = some (.int 12 u0)) (c_is_weather:Cal P w K mg base 1 "is_weather" ["row"] ke) (F:Fun K "is_round" "is_round" yE f fd):FnOk P w K mg base CX0 2 f fd ["rows"] (Yg K):=by
 refine F.ok Xy ↥12 ↥0
 ·obtain ⟨p,xs,ts,rfl,_⟩:=h
  rfl
 ·obtain ⟨p,xs,ts,rfl,hp,hr3,h1000,k⟩:=h
  have hlen:=hr3.length
  refine ⟨_,(jb (jk (zx (xx qk qk j6 (jd (ji K) rfl nb.b_len aR ↥29) (jM (v:=V.int 12) rfl g_MOST_ROWS ⟨_,rfl⟩)) (yI (jd (zr K rfl) rfl nb.b_all mV (j2 (jX (osc:=(ja yE)) (ON:=["rows"]) (N:=["row"]) (own:=1) (caps:=[]) ⟨rfl,∅,∅,∅,rfl,∅⟩ rfl rfl rfl (qi K (pv 0)) (λ_ _ _ _ _=>(jm (i:=0) (show b8 (["row"]:List Str) by decide +kernel) rfl (bf rfl))) ↥24 (λ_ _ _ _ _=>(je c_is_weather (hr.mono ⋯) rfl ↥29))) j5)))))),?_⟩
  left
  refine ⟨_,_,rfl,.inl (SqL.of hp),?_⟩
  left
  refine qH (λh1=>?_) (λh1=>?_)
  ·left
   refine qH (λh2=>?_) (λh2=>?_)
   ·left
    refine ⟨⟨_,SqL.of hp⟩,λacc hacc=>?_⟩
    refine jT (K:=K) (a:=p) (xs:=xs) (acc:=acc) (λi σ H2=>∃x:Option V,σ=[x]/\H2 acc=some (.lst (((ts.take i).map good).map V.bl))/\Ext acc H H2) ?_ ?_ ?_ ?_
    ·exact ⟨none,rfl,j7,Ext.put⟩
    ·rintro i σ H2 hi ⟨x,rfl,h3,e3⟩
     exact SqL.of (e3 _ _ hp (j4 hp hacc))
    ·rintro i v σ H2 hv ⟨x,rfl,h3,e3⟩
     obtain ⟨t,ht,q,rfl,hq⟩:=hr3.get hv
     have hi:i<ts.length:=(List.getElem?_eq_some_iff.mp ht).1
     left
     refine ⟨q,t,rfl,e3 _ _ hq (j4 hq hacc),?_⟩
     refine ⟨_,h3,by rw [af,af,b0];exact jh (),_,rfl,?_,e3.trans Ext.put⟩
     rw [j7,qA good ts i t ht,aF]
     rfl
    ·rintro σ H2 ⟨x,rfl,h3,e3⟩
     rw [hlen,bc] at h3
     refine ⟨acc,ts.map good,rfl,SqL.of h3,?_⟩
     have k2:=k H2 λc o hc=>e3 c o hc (j4 hc hacc)
     rw [WM (by rw [hlen] at h1 h2;exact ⟨h1,h2⟩)] at k2
     exact k2
   ·left
    have k2:=k H (jn.refl H)
    rw [Wb (by rw [hlen] at h2;intro z;exact h2 z.2)] at k2
    exact k2
  ·left
   have k2:=k H (jn.refl H)
   rw [Wb (by rw [hlen] at h1;intro z;exact h1 z.1)] at k2
   exact k2
noncomputable def vC:Sp:=λvs H Q _=>∃(L b:Addr),vs=[.ref b]/\jG L H b/\∀(p:Addr) (H':Hp) (t:T3),jG L H' b->Ext b H H'->H' p=some (zM t)->good t=true->Q (.ref p) H'
theorem yU:FnScope ["_law_box_here","_law_line"] ["_law_box_here"] (ja yb):=by walk_at "s"
theorem five {v3 v1 v2:Int}(a:0<=v3) (b:v3<5) (c:0<=v1) (d:v1<20) (e:0<=v2) (g:v2<101):∃ln,atI [V.int (40+v1),V.int v2,V.int 0,V.int 100,V.int 50] v3=some (V.int ln)/\0<=ln/\ln<=100:=by
 have h:v3=0\/v3=1\/v3=2\/v3=3\/v3=4:=()
 rcases h with rfl | rfl | rfl | rfl | rfl
 ·exact ⟨40+v1,rfl,(),()⟩
 ·exact ⟨v2,rfl,(),()⟩
 ·exact ⟨0,rfl,(),()⟩
 ·exact ⟨100,rfl,(),()⟩
 ·exact ⟨50,rfl,(),()⟩
theorem ZF (c_law_take:Cal P w K mg base 2 "_law_take" ["_law_box_here","_law_size"] xG) (F:Fun K "_law_weather" "_law_weather" yb f fd):FnOk P w K mg base CX0 3 f fd ["_law_box_here"] vC:=by
 refine F.ok yU ↥12 ↥0
 ·obtain ⟨L,b,rfl,_⟩:=h
  rfl
 ·obtain ⟨L,b,rfl,B,k⟩:=h
  refine ⟨_,(j8 (jA 1 yU.nd (jj (jf K) (jD (j2 (jv qr j6 ↥2) (j2 ↥2 (j2 j6 (j2 j6 (j2 j6 j5)))))) ↥2 (λ_ _=>rfl)))
   (jb (jk (jx (j2 (pv 1) (j2 ↥2 (j2 ↥2 j5))))))),?_⟩
  left
  refine ⟨L,b,_,rfl,B,⟨⋯,⋯⟩,λv1 H1 p1 q1 B1 X1=>?_⟩
  left
  refine ⟨L,b,_,rfl,B1,⟨⋯,⋯⟩,λv2 H2 p2 q2 B2 X2=>?_⟩
  refine ⟨by show 5<=sizeLine;decide,λq Hq hq hqq sq=>?_⟩
  left
  refine ⟨L,b,_,rfl,B2.same sq,⟨⋯,⋯⟩,λv3 H3 p3 q3 B3 X3=>?_⟩
  have hq3:=X3 _ _ hqq (B2.ne hq)
  obtain ⟨ln,hln,l0,l1⟩:=five p3 q3 p1 q1 p2 q2
  refine ⟨_,_,_,_,rfl,rfl,SqL.of hq3,hln,?_⟩
  left
  refine ⟨L,b,_,rfl,B3,⟨⋯,⋯⟩,λv4 H4 p4 q4 B4 X4=>?_⟩
  left
  refine ⟨L,b,_,rfl,B4,⟨⋯,⋯⟩,λv5 H5 p5 q5 B5 X5=>?_⟩
  refine ⟨by show 3<=sizeLine;decide,λp Hp hp hpp sp=>?_⟩
  exact k p _ (ln,v4,v5) (B5.same sp) ((((((X1.trans X2).trans (Ext.of_same sq)).trans X3).trans X4).trans X5).trans (Ext.of_same sp)) hpp (decide_eq_true ⟨l0,l1,p4,(show v4<=9 by omega),p5,(show v5<=9 by omega)⟩)
noncomputable def vd:Sp:=λvs H Q _=>∃(L b:Addr),vs=[.ref b]/\jG L H b/\∀(p:Addr) (H':Hp) (xs:List V) (ts:List T3),jG L H' b->Ext b H H'->H p=none->H' p=some (.lst xs)->jH H' xs ts->(1<=ts.length/\ts.length<=12)->ts.all good=true->Q (.ref p) H'
theorem Qu:FnScope ["_law_box_here"] ["_law_box_here"] (ja zY):=by walk_at "s"
theorem Ec {v:Int}(a:0<=v) (b:v<3):∃n,atI [V.int 1,V.int 3,V.int 12] v=some (V.int n)/\0<n/\n<=12:=by
 have h:v=0\/v=1\/v=2:=()
 rcases h with rfl | rfl | rfl
 ·exact ⟨1,rfl,(),()⟩
 ·exact ⟨3,rfl,(),()⟩
 ·exact ⟨12,rfl,(),()⟩
theorem U1 (nb:Nb mg) (c_law_take:Cal P w K mg base 2 "_law_take" ["_law_box_here","_law_size"] xG) (c_law_weather:Cal P w K mg base 3 "_law_weather" ["_law_box_here"] vC) (F:Fun K "_law_round" "_law_round" zY f fd):FnOk P w K mg base CX0 4 f fd ["_law_box_here"] vd:=by
 refine F.ok Qu ↥12 ↥0
 ·obtain ⟨L,b,rfl,_⟩:=h
  rfl
 ·obtain ⟨L,b,rfl,B,k⟩:=h
  refine ⟨_,(jb (jk (jX (osc:=(ja zY)) (ON:=["_law_box_here"]) (N:=["_law_turn","_law_box_here"]) (own:=1) (caps:=[0]) ⟨rfl,∅,∅,∅,rfl,∅⟩ rfl rfl rfl (qI rfl nb.b_range (j2 (jv qr j6 ↥26) j5)) (λ_ _ _ _ _=>(jm (i:=0) (show b8 (["_law_turn","_law_box_here"]:List Str) by decide +kernel) rfl (bf rfl))) ↥24 (λ_ _ _ _ _=>(je c_law_weather (hr.mono ⋯) rfl ↥71))))),?_⟩
  left
  refine ⟨by show 3<=sizeLine;decide,λq Hq hq hqq sq=>?_⟩
  left
  refine ⟨L,b,_,rfl,B.same sq,⟨⋯,⋯⟩,λv1 H1 p1 q1 B1 X1=>?_⟩
  obtain ⟨n,hn,n0,n1⟩:=Ec p1 q1
  refine ⟨_,_,_,_,rfl,rfl,SqL.of (X1 _ _ hqq (B.ne hq)),hn,?_⟩
  refine ⟨L,b,_,rfl,B1,⟨n0,()⟩,λv2 H2 p2 q2 B2 X2=>?_⟩
  refine ⟨_,_,rfl,rfl,?_⟩
  refine ⟨1+v2,rfl,(),(),λacc hacc=>?_⟩
  have nb1:=B2.ne hacc
  have nb2:=B2.neL hacc
  have hfree:∀a,H2 a=none->a≠b->H a=none:=λa n nb=>jn.free sq (X1.free (X2.free n nb) nb)
  refine xi (lo:=0) (n:=(1+v2).toNat) (acc:=acc) (λi σ H3=>∃(x:Option V) (xs:List V) (ts:List T3),σ=[x,some (.ref b)]/\jG L H3 b/\(∀c o,H2 c=some o->c≠b->H3 c=some o)/\H3 acc=some (.lst xs)/\jH H3 xs ts/\ts.length=i/\ts.all good=true) ?_ ?_ ?_
  ·exact ⟨none,[],[],rfl,B2.put nb1 nb2,λc o hc n=>Ext.put _ _ hc (j4 hc hacc),j7,.nil,rfl,rfl⟩
  ·rintro i σ H3 hi ⟨x,xs,ts,rfl,B3,ks,h3,r3,hl,hg⟩
   left
   refine ⟨L,b,rfl,B3,λp H4 t B4 X4 hp ht=>?_⟩
   have h4:=X4 _ _ h3 nb1
   have r4:jH H4 xs ts:=r3.imp λp t e=>X4 _ _ e (B3.ne_tup e)
   have hlen:=r4.length
   refine ⟨xs,h4,jh (),_,xs++[.ref p],ts++[t],rfl,B4.put nb1 nb2,λc o hc n=>Ext.put _ _ (X4 _ _ (ks c o hc n) n) (j4 hc hacc),j7,?_,by rw [ay,hl];rfl,by rw [List.all_append,hg];simp [ht]⟩
   exact jH.imp (r4.snoc ⟨p,rfl,hp⟩) λq t e=>Ext.put _ _ e (jg e h4 ↥4)
  ·rintro σ H3 ⟨x,xs,ts,rfl,B3,ks,h3,r3,hl,hg⟩
   exact k acc H3 xs ts B3 (λc o hc n=>ks c o (X2 _ _ (X1 _ _ (sq _ _ hc) n) n) n) (hfree acc hacc nb1) h3 r3 () hg
theorem JL:FnScope ["_law_found"] ["_law_found"] (ja yV):=by walk_at "s"
theorem Vo (nb:Nb2 mg) (F:Fun K "_law_whole" "_law_whole" yV f fd):FnOk P w K mg base CX0 1 f fd ["_law_found"] Yk:=by
 refine F.ok JL ↥12 ↥0
 ·obtain ⟨i,rfl,_⟩:=h
  rfl
 ·obtain ⟨i,rfl,k⟩:=h
  refine ⟨_,(jb (jk (zx (jd (qg K) rfl nb.b_isinstance aQ (j2 (pv 0) (j2 (xJ (v:=V.ty "int") rfl nb.b_int eR rfl) j5))) (yI (WT (jd (qg K) rfl nb.b_isinstance aQ (j2 (pv 0) (j2 (xJ (v:=V.ty "bool") rfl nb.b_bool i4 rfl) j5)))))))),?_⟩
  left
  refine ⟨_,_,_,_,rfl,.int _,kF K,_,rfl,zw ?_⟩
  left
  refine ⟨_,_,_,_,rfl,.int _,wu K,_,rfl,?_⟩
  exact k
theorem ue:FnScope ["_law_found","_law_due"] ["_law_found","_law_due"] (ja xZ):=by walk_at "s"
theorem YE (F:Fun K "_law_alike" "_law_alike" xZ f fd):FnOk P w K mg base CX0 1 f fd ["_law_found","_law_due"] (YG 0):=by
 refine F.ok ue ↥12 ↥0
 ·obtain ⟨x,y,d,rfl,_⟩:=h
  rfl
 ·obtain ⟨x,y,d,rfl,_,_,z,_⟩:=h
  cases z
theorem yi (n:Nat) (nb:Nb2 mg) (c_law_whole:Cal P w K mg base 1 "_law_whole" ["_law_found"] Yk) (c_law_alike:Cal P w K mg base (n+1) "_law_alike" ["_law_found","_law_due"] (YG n)) (F:Fun K "_law_alike" "_law_alike" xZ f fd):FnOk P w K mg base CX0 (n+2) f fd ["_law_found","_law_due"] (YG (n+1)):=by
 refine F.ok ue ↥12 ↥0
 ·obtain ⟨x,y,d,rfl,_⟩:=h
  rfl
 ·obtain ⟨x,y,d,rfl,hx,hy,hs,k⟩:=h
  refine ⟨_,(j8 (jF (jr JO (pv 1) vn (jB _)) (jb (jk (zq JO (pv 0) vn (jB _)))) jo)
   (j8 (jF (qU (jd (qg K) rfl nb.b_isinstance aQ (j2 (pv 1) (j2 (xJ (v:=V.ty "bool") rfl nb.b_bool i4 rfl) j5)))) (jb (jk (zx (jd (qg K) rfl nb.b_isinstance aQ (j2 (pv 0) (j2 (xJ (v:=V.ty "bool") rfl nb.b_bool i4 rfl) j5))) (yI (zq qC (pv 0) (pv 1) (jB _)))))) jo)
   (j8 (jF (qU (jd (qg K) rfl nb.b_isinstance aQ (j2 (pv 1) (j2 (xJ (v:=V.ty "int") rfl nb.b_int eR rfl) j5)))) (jb (jk (zx (je c_law_whole (hr.mono ()) rfl ↥29) (yI (zq qC (pv 0) (pv 1) (jB _)))))) jo)
   (j8 (jF (qU (jd (qg K) rfl nb.b_isinstance aQ (j2 (pv 1) (j2 (xJ (v:=V.ty "str") rfl nb.b_str mD rfl) j5)))) (jb (jk (zx (jd (qg K) rfl nb.b_isinstance aQ (j2 (pv 0) (j2 (xJ (v:=V.ty "str") rfl nb.b_str mD rfl) j5))) (yI (zq qC (pv 0) (pv 1) (jB _)))))) jo)
   (j8 (jF (PW.pt (ZP (jr VM (jd (qg K) rfl nb.b_isinstance aQ (j2 (pv 1) (j2 (xJ (v:=V.ty "list") rfl nb.b_list bo rfl) j5))) (jd (qg K) rfl nb.b_isinstance aQ (j2 (pv 0) (j2 (xJ (v:=V.ty "list") rfl nb.b_list bo rfl) j5))) (jB _)) (Qp (jr VM (jd (qg K) rfl nb.b_isinstance aQ (j2 (pv 1) (j2 (xJ (v:=V.ty "tuple") rfl nb.b_tuple cF rfl) j5))) (jd (qg K) rfl nb.b_isinstance aQ (j2 (pv 0) (j2 (xJ (v:=V.ty "tuple") rfl nb.b_tuple cF rfl) j5))) (jB _))))) (jb (jk vO)) jo)
   (jb (jk (zx (zq qC (jd (ji K) rfl nb.b_len aR ↥29) (jd (ji K) rfl nb.b_len aR ↥71) (jB _)) (yI (jd (zr K rfl) rfl nb.b_all mV (j2 (jX (osc:=(ja xZ)) (ON:=["_law_found","_law_due"]) (N:=["_law_one","_law_other"]) (own:=2) (caps:=[]) ⟨rfl,∅,∅,∅,rfl,∅⟩ rfl rfl rfl (Yo K rfl nb.b_zip (j2 (pv 0) ↥71)) (λ_ _ _ _ _=>(xQ (n:=2) K rfl (jO (jm (i:=0) (show b8 (["_law_one","_law_other"]:List Str) by decide +kernel) rfl (bf rfl)) (jO (jm (i:=1) (show b8 (["_law_one","_law_other"]:List Str) by decide +kernel) rfl (bf rfl)) xD)))) ↥24 (λ_ _ _ _ _=>(je c_law_alike (hr.mono ()) rfl (j2 (pv 0) ↥71)))) j5))))))))))),?_⟩
  cases d with
  | none =>
   cases hx;cases hy
   left
   exact k H (jn.refl _)
  | bool b =>
   cases hx;cases hy
   left
   refine ⟨_,_,_,_,rfl,.bl _,ul K,_,rfl,zw ?_⟩
   left
   refine ⟨_,_,_,_,rfl,.bl _,ul K,_,rfl,zw ?_⟩
   left
   have k':=k H (jn.refl _)
   rw [decide_eq_true rfl]
   exact k'
  | int i =>
   cases hx;cases hy
   left
   refine ⟨_,_,_,_,rfl,.int _,wu K,_,rfl,wY ?_⟩
   left
   refine ⟨_,_,_,_,rfl,.int _,kF K,_,rfl,zw ?_⟩
   left
   have k':=k H (jn.refl _)
   rw [decide_eq_true rfl]
   exact k'
  | str i =>
   cases hx;cases hy
   left
   refine ⟨_,_,_,_,rfl,.str _,XO K,_,rfl,wY ?_⟩
   left
   refine ⟨_,_,_,_,rfl,.str _,Zw K,_,rfl,wY ?_⟩
   left
   refine ⟨_,_,_,_,rfl,.str _,gq K,_,rfl,zw ?_⟩
   left
   refine ⟨_,_,_,_,rfl,.str _,gq K,_,rfl,zw ?_⟩
   left
   have k':=k H (jn.refl _)
   rw [decide_eq_true rfl]
   exact k'
  | list ds =>
   cases hx with
   | @lst a va _ ha da =>
   cases hy with
   | @lst b vb _ hb db =>
   have el:=da.length
   have el2:=db.length
   have hsm:ds.length<=1000/\ds.all (qM n)=true:=by
    have z:(decide (ds.length<=1000) && ds.all (qM n))=true:=hs
    rw [b9] at z
    exact ⟨of_decide_eq_true z.1,z.2⟩
   left
   refine ⟨_,_,_,_,rfl,.lst hb,JS K,_,rfl,wY ?_⟩
   left
   refine ⟨_,_,_,_,rfl,.lst hb,X0 K,_,rfl,wY ?_⟩
   left
   refine ⟨_,_,_,_,rfl,.lst hb,QE K,_,rfl,wY ?_⟩
   left
   refine ⟨_,_,_,_,rfl,.lst hb,um K,?_⟩
   left
   refine ⟨_,_,_,_,rfl,.lst ha,um K,?_⟩
   left
   refine ⟨_,_,_,_,rfl,.lst hb,vP K,?_⟩
   left
   refine ⟨_,_,_,_,rfl,.lst ha,vP K,?_⟩
   left
   refine ⟨_,_,rfl,.inl (SqL.of ha),?_⟩
   left
   refine ⟨_,_,rfl,.inl (SqL.of hb),?_⟩
   left
   rw [el,el2]
   refine qH (λ_=>?_) (λz=>absurd rfl z)
   left
   refine ⟨false,false,_,_,rfl,⟨_,SqL.of ha⟩,⟨_,SqL.of hb⟩,λacc hacc=>?_⟩
   refine JC (K:=K) (t0:=false) (u0:=false) (a:=a) (b:=b) (xs:=va) (ys:=vb) (acc:=acc) (el.trans el2.symm) (λj σ H2=>∃x y:Option V,σ=[x,y]/\H2 acc=some (.lst ((dq j true).map V.bl))/\Ext acc H H2) ?_ ?_ ?_ ?_
   ·exact ⟨none,none,rfl,j7,Ext.put⟩
   ·rintro j σ H2 hj ⟨x,y,rfl,h3,e3⟩
    exact ⟨SqL.of (e3 _ _ ha (j4 ha hacc)),SqL.of (e3 _ _ hb (j4 hb hacc))⟩
   ·rintro j x y σ H2 p hx hy ⟨v1,v2,rfl,h3,e3⟩ hp
    obtain ⟨d1,hd1,q1⟩:=da.get hx
    obtain ⟨d2,hd2,q2⟩:=db.get hy
    rw [hd1] at hd2
    cases hd2
    have hj:j<ds.length:=(List.getElem?_eq_some_iff.mp hd1).1
    have s2:jn H (upd H2 p (.tup [x,y])):=λc o hc=>(jn.new hp) _ _ (e3 _ _ hc (j4 hc hacc))
    have q1':=q1.same s2
    have q2':=q2.same s2
    have h3':upd H2 p (.tup [x,y]) acc=_:=(jn.new hp) _ _ h3
    have e3':Ext acc H (upd H2 p (.tup [x,y])):=λc o hc n=>(jn.new hp) _ _ (e3 _ _ hc n)
    have hp':upd H2 p (.tup [x,y]) p=some (.tup [x,y]):=j7
    generalize upd H2 p (.tup [x,y])=H4 at s2 q1' q2' h3' e3' hp'
    left
    refine ⟨p,_,rfl,SqT.of hp',rfl,?_⟩
    refine ⟨_,_,rfl,_,_,rfl,rfl,?_⟩
    left
    refine ⟨x,y,d1,rfl,q1',q2',List.all_eq_true.mp hsm.2 _ (ar hd1),λH5 s5=>?_⟩
    refine ⟨_,s5 _ _ h3',by rw [af,eP];exact jh (),_,_,rfl,?_,λc o hc n=>by rw [j9 n];exact s5 _ _ (e3' c o hc n)⟩
    rw [j7,mX,aF]
    rfl
   ·rintro σ H2 ⟨v1,v2,rfl,h3,e3⟩
    refine ⟨acc,_,rfl,SqL.of h3,?_⟩
    have e:((dq va.length true).all λb=>b)=true:=by
     rw [bB]
     intro x hx
     exact (List.mem_replicate.mp hx).2
    rw [e]
    exact k H2 λc o hc=>e3 c o hc (j4 hc hacc)
  | tuple ds =>
   cases hx with
   | @tup a va _ ha da =>
   cases hy with
   | @tup b vb _ hb db =>
   have el:=da.length
   have el2:=db.length
   have hsm:ds.length<=1000/\ds.all (qM n)=true:=by
    have z:(decide (ds.length<=1000) && ds.all (qM n))=true:=hs
    rw [b9] at z
    exact ⟨of_decide_eq_true z.1,z.2⟩
   left
   refine ⟨_,_,_,_,rfl,.tup hb,gS K,_,rfl,wY ?_⟩
   left
   refine ⟨_,_,_,_,rfl,.tup hb,Qs K,_,rfl,wY ?_⟩
   left
   refine ⟨_,_,_,_,rfl,.tup hb,JR K,_,rfl,wY ?_⟩
   left
   refine ⟨_,_,_,_,rfl,.tup hb,vN K,?_⟩
   left
   refine ⟨_,_,_,_,rfl,.tup ha,vN K,?_⟩
   left
   refine ⟨_,_,_,_,rfl,.tup hb,vq K,?_⟩
   left
   refine ⟨_,_,_,_,rfl,.tup ha,vq K,?_⟩
   left
   refine ⟨_,_,rfl,.inr (SqT.of ha),?_⟩
   left
   refine ⟨_,_,rfl,.inr (SqT.of hb),?_⟩
   left
   rw [el,el2]
   refine qH (λ_=>?_) (λz=>absurd rfl z)
   left
   refine ⟨true,true,_,_,rfl,⟨_,SqT.of ha⟩,⟨_,SqT.of hb⟩,λacc hacc=>?_⟩
   refine JC (K:=K) (t0:=true) (u0:=true) (a:=a) (b:=b) (xs:=va) (ys:=vb) (acc:=acc) (el.trans el2.symm) (λj σ H2=>∃x y:Option V,σ=[x,y]/\H2 acc=some (.lst ((dq j true).map V.bl))/\Ext acc H H2) ?_ ?_ ?_ ?_
   ·exact ⟨none,none,rfl,j7,Ext.put⟩
   ·rintro j σ H2 hj ⟨x,y,rfl,h3,e3⟩
    exact ⟨SqT.of (e3 _ _ ha (j4 ha hacc)),SqT.of (e3 _ _ hb (j4 hb hacc))⟩
   ·rintro j x y σ H2 p hx hy ⟨v1,v2,rfl,h3,e3⟩ hp
    obtain ⟨d1,hd1,q1⟩:=da.get hx
    obtain ⟨d2,hd2,q2⟩:=db.get hy
    rw [hd1] at hd2
    cases hd2
    have hj:j<ds.length:=(List.getElem?_eq_some_iff.mp hd1).1
    have s2:jn H (upd H2 p (.tup [x,y])):=λc o hc=>(jn.new hp) _ _ (e3 _ _ hc (j4 hc hacc))
    have q1':=q1.same s2
    have q2':=q2.same s2
    have h3':upd H2 p (.tup [x,y]) acc=_:=(jn.new hp) _ _ h3
    have e3':Ext acc H (upd H2 p (.tup [x,y])):=λc o hc n=>(jn.new hp) _ _ (e3 _ _ hc n)
    have hp':upd H2 p (.tup [x,y]) p=some (.tup [x,y]):=j7
    generalize upd H2 p (.tup [x,y])=H4 at s2 q1' q2' h3' e3' hp'
    left
    refine ⟨p,_,rfl,SqT.of hp',rfl,?_⟩
    refine ⟨_,_,rfl,_,_,rfl,rfl,?_⟩
    left
    refine ⟨x,y,d1,rfl,q1',q2',List.all_eq_true.mp hsm.2 _ (ar hd1),λH5 s5=>?_⟩
    refine ⟨_,s5 _ _ h3',by rw [af,eP];exact jh (),_,_,rfl,?_,λc o hc n=>by rw [j9 n];exact s5 _ _ (e3' c o hc n)⟩
    rw [j7,mX,aF]
    rfl
   ·rintro σ H2 ⟨v1,v2,rfl,h3,e3⟩
    refine ⟨acc,_,rfl,SqL.of h3,?_⟩
    have e:((dq va.length true).all λb=>b)=true:=by
     rw [bB]
     intro x hx
     exact (List.mem_replicate.mp hx).2
    rw [e]
    exact k H2 λc o hc=>e3 c o hc (j4 hc hacc)
  | _=>cases hx
noncomputable def Vl:Sp:=λvs H Q _=>∃(L b:Addr),vs=[.ref b]/\jG L H b/\∀(z:Int) (H':Hp),jG L H' b->Ext b H H'->Q (.int z) H'
theorem kT:FnScope ["_law_box_here","_law_some"] ["_law_box_here"] (ja uL):=by walk_at "s"
theorem WB (c_law_take:Cal P w K mg base 2 "_law_take" ["_law_box_here","_law_size"] xG) (F:Fun K "_law_odd" "_law_odd" uL f fd):FnOk P w K mg base CX0 3 f fd ["_law_box_here"] Vl:=by
 refine F.ok kT ↥12 ↥0
 ·obtain ⟨L,b,rfl,_⟩:=h
  rfl
 ·obtain ⟨L,b,rfl,B,k⟩:=h
  refine ⟨_,(j8 (jA 1 kT.nd (jD (j2 (jv yw j6 j6) (j2 j6 (j2 j6 (j2 j6 (j2 (jv yw (jv yw j6 j6) (je c_law_take (hr.mono ⋯) rfl (j2 (pv 0) (j2 (jv Qk j6 j6) j5)))) (j2 j6 (j2 j6 (j2 j6 (j2 j6 (j2 (jv Qk j6 j6) (j2 (jv qr (jv Qk j6 j6) j6) (j2 j6 j5))))))))))))))
   (jb (jk (jj (jf K) (pv 1) ↥2 (λ_ _=>rfl))))),?_⟩
  left
  refine ⟨L,b,_,rfl,B,⟨⋯,⋯⟩,λv1 H1 p1 q1 B1 X1=>?_⟩
  left
  refine ⟨by show 12<=sizeLine;decide,λq Hq hq hqq sq=>?_⟩
  left
  refine ⟨L,b,_,rfl,B1.same sq,⟨⋯,⋯⟩,λv2 H2 p2 q2 B2 X2=>?_⟩
  have hq2:=X2 _ _ hqq (B1.ne hq)
  obtain ⟨z,hz⟩:=yq (ns:=[0-1,1,100,101,0-1-v1,9,10,13,31,10 ^ (40:Int).toNat,10 ^ (40:Int).toNat+1,99]) p2 q2
  refine ⟨_,_,_,_,rfl,rfl,SqL.of hq2,hz,?_⟩
  exact k z _ B2 ((X1.trans (Ext.of_same sq)).trans X2)
noncomputable def vK:Sp:=λvs H Q _=>∃(L b:Addr) (tp sz:Int),vs=[.ref b,.int tp,.int sz]/\jG L H b/\tp<=99/\0<=sz/\sz<=100/\∀p H' (hs:List Int),jG L H' b->Ext b H H'->H p=none->H' p=some (.lst (hs.map V.int))->(hs.length:Int)=sz->(∀x∈hs,0<=x/\x<=99)->Q (.ref p) H'
theorem xb:FnScope ["_law_box_here","_law_top","_law_size","_law_pick","_law_step"] ["_law_box_here","_law_top","_law_size"] (ja qx):=by walk_at "s"
theorem wH (nb:Nb2 mg) (c_law_take:Cal P w K mg base 2 "_law_take" ["_law_box_here","_law_size"] xG) (F:Fun K "_law_ground_drawn" "_law_ground_drawn" qx f fd):FnOk P w K mg base CX0 3 f fd ["_law_box_here","_law_top","_law_size"] vK:=by
 refine F.ok xb ↥12 ↥0
 ·obtain ⟨L,b,tp,sz,rfl,_⟩:=h
  rfl
 ·obtain ⟨L,b,tp,sz,rfl,B,htp,h0,h1,k⟩:=h
  refine ⟨_,(j8 (jA 3 xb.nd ↥2)
   (j8 (jF (jr qC (pv 3) j6 (jB _)) (jb (jk (jX (osc:=(ja qx)) (ON:=["_law_box_here","_law_top","_law_size","_law_pick","_law_step"]) (N:=["_law_turn","_law_box_here"]) (own:=1) (caps:=[0]) ⟨rfl,∅,∅,∅,rfl,∅⟩ rfl rfl rfl (qI rfl nb.b_range ↥89) (λ_ _ _ _ _=>(jm (i:=0) (show b8 (["_law_turn","_law_box_here"]:List Str) by decide +kernel) rfl (bf rfl))) ↥24 (λ_ _ _ _ _=>(je c_law_take (hr.mono ⋯) rfl (j2 (pv 1) (j2 j6 j5))))))) jo)
   (j8 (vT (i:=4) xb.nd rfl (ib rfl) (jv qr j6 ↥2))
   (jb (jk (jX (osc:=(ja qx)) (ON:=["_law_box_here","_law_top","_law_size","_law_pick","_law_step"]) (N:=["_law_place","_law_top","_law_step"]) (own:=1) (caps:=[1,4]) ⟨rfl,∅,∅,∅,rfl,∅⟩ rfl rfl rfl (qI rfl nb.b_range ↥89) (λ_ _ _ _ _=>(jm (i:=0) (show b8 (["_law_place","_law_top","_law_step"]:List Str) by decide +kernel) rfl (bf rfl))) ↥24 (λ_ _ _ _ _=>(jd (YX rfl) rfl nb.b_max boot_max (j2 j6 (j2 (jv yw (pv 1) (jv uQ (pv 2) (pv 0))) j5)))))))))),?_⟩
  left
  refine ⟨L,b,_,rfl,B,⟨⋯,⋯⟩,λv1 H1 p1 q1 B1 X1=>?_⟩
  left
  refine qH (λ_=>?_) (λ_=>?_)
  ·left
   refine ⟨(),(),λacc hacc=>?_⟩
   have na1:=B1.ne hacc
   have na2:=B1.neL hacc
   refine xi (lo:=0) (n:=sz.toNat) (acc:=acc) (λi σ H2=>∃(x:Option V) (hs:List Int),σ=[x,some (.ref b)]/\jG L H2 b/\H2 acc=some (.lst (hs.map V.int))/\hs.length=i/\(∀x∈hs,0<=x/\x<=99)/\Ext b H1 H2) ?_ ?_ ?_
   ·exact ⟨none,[],rfl,B1.put na1 na2,j7,rfl,(by intro x hx;cases hx),Ext.new hacc⟩
   ·rintro i σ H2 hi ⟨x,hs,rfl,B2,h2,hl,hb,e2⟩
    left
    refine ⟨L,b,_,rfl,B2,⟨⋯,⋯⟩,λv H3 p3 q3 B3 X3=>?_⟩
    have h3:=X3 _ _ h2 na1
    refine ⟨_,h3,by rw [af];exact jh (),_,hs++[v],rfl,B3.put na1 na2,by rw [j7,aF];rfl,by rw [ay,hl];rfl,λx hx=>?_,λc o hc n=>?_⟩
    ·rcases List.mem_append.mp hx with hx | hx
     ·exact hb x hx
     ·have:x=v:=by simpa using hx
      omega
    ·rw [j9 (j4 hc hacc)]
     exact X3 _ _ (e2 c o hc n) n
   ·rintro σ H2 ⟨x,hs,rfl,B2,h2,hl,hb,e2⟩
    exact k acc H2 hs B2 (X1.trans e2) (X1.free hacc na1) h2 () hb
  ·left
   refine ⟨L,b,_,rfl,B1,⟨⋯,⋯⟩,λv2 H2 p2 q2 B2 X2=>?_⟩
   left
   refine ⟨(),(),λacc hacc=>?_⟩
   have na1:=B2.ne hacc
   have na2:=B2.neL hacc
   refine xi (lo:=0) (n:=sz.toNat) (acc:=acc) (λi σ H3=>∃(x:Option V) (hs:List Int),σ=[x,some (.int tp),some (.int (1+v2))]/\jG L H3 b/\H3 acc=some (.lst (hs.map V.int))/\hs.length=i/\(∀x∈hs,0<=x/\x<=99)/\Ext b H2 H3) ?_ ?_ ?_
   ·exact ⟨none,[],rfl,B2.put na1 na2,j7,rfl,(by intro x hx;cases hx),Ext.new hacc⟩
   ·rintro i σ H3 hi ⟨x,hs,rfl,B3,h3,hl,hb,e3⟩
    left
    have hm:(0:Int)<=(1+v2)*(0+(i:Int)):=Int.mul_nonneg () ()
    refine ⟨_,_,rfl,?_⟩
    refine ⟨_,h3,by rw [af];exact jh (),_,hs++[if tp-(1+v2)*(0+(i:Int)) > 0 then tp-(1+v2)*(0+(i:Int)) else 0],rfl,B3.put na1 na2,by rw [j7,aF];rfl,by rw [ay,hl];rfl,λx hx=>?_,λc o hc n=>?_⟩
    ·rcases List.mem_append.mp hx with hx | hx
     ·exact hb x hx
     ·have:x=if tp-(1+v2)*(0+(i:Int)) > 0 then tp-(1+v2)*(0+(i:Int)) else 0:=by simpa using hx
      rw [this]
      split <;> omega
    ·rw [j9 (j4 hc hacc)]
     exact e3 c o hc n
   ·rintro σ H3 ⟨x,hs,rfl,B3,h3,hl,hb,e3⟩
    have hacc1:=X2.free hacc na1
    exact k acc H3 hs B3 ((X1.trans X2).trans e3) (X1.free hacc1 na1) h3 () hb
structure RD (L b tp rw dp:Addr) (H0:Hp):Prop where
 tb:tp≠b
 rb:rw≠b
 db:dp≠b
 tL:tp≠L
 rL:rw≠L
 dL:dp≠L
 tr:tp≠rw
 td:tp≠dp
 rd:rw≠dp
 nt:H0 tp=none
 nr:H0 rw=none
 nd:H0 dp=none
structure RG (L b tp rw dp:Addr) (H0 H:Hp) (ts:List Int) (xs:List V) (rs:List Rch) (ds:List Int):Prop where
 box:jG L H b
 htp:H tp=some (.lst (ts.map V.int))
 hrw:H rw=some (.lst xs)
 hdp:H dp=some (.lst (ds.map V.int))
 rows:qf H xs rs
 ext:Ext b H0 H
section
variable {L b tp rw dp:Addr}{H0 H H':Hp}{ts ds:List Int}{xs:List V}{rs:List Rch}
theorem RG.take (D:RD L b tp rw dp H0) (G:RG L b tp rw dp H0 H ts xs rs ds) (B:jG L H' b) (X:Ext b H H'):RG L b tp rw dp H0 H' ts xs rs ds :=
 ⟨B,X _ _ G.htp D.tb,X _ _ G.hrw D.rb,X _ _ G.hdp D.db,G.rows.keep (by obtain ⟨ns,a,r,c,d,h1,_⟩:=G.box;exact jw.lst X h1),G.ext.trans X⟩
theorem RG.same (G:RG L b tp rw dp H0 H ts xs rs ds) (s:jn H H'):RG L b tp rw dp H0 H' ts xs rs ds :=
 ⟨G.box.same s,s _ _ G.htp,s _ _ G.hrw,s _ _ G.hdp,G.rows.keep (jw.same s),G.ext.trans (Ext.of_same s)⟩
theorem RG.extN (G:RG L b tp rw dp H0 H ts xs rs ds) (hn:H a=none) (e:Ext a H H'):RG L b tp rw dp H0 H' ts xs rs ds:=G.same λc o h=>e c o h (j4 h hn)
theorem RG.putT (D:RD L b tp rw dp H0) (G:RG L b tp rw dp H0 H ts xs rs ds) (ts':List Int):RG L b tp rw dp H0 (upd H tp (.lst (ts'.map V.int))) ts' xs rs ds :=
 ⟨G.box.put D.tb D.tL,j7,by rw [j9 D.tr.symm];exact G.hrw,by rw [j9 D.td.symm];exact G.hdp,G.rows.keep (jw.lst Ext.put G.htp),λc o h n=>by rw [j9 (j4 h D.nt)];exact G.ext c o h n⟩
theorem RG.putR (D:RD L b tp rw dp H0) (G:RG L b tp rw dp H0 H ts xs rs ds) (q:JV H v r):RG L b tp rw dp H0 (upd H rw (.lst (xs++[v]))) ts (xs++[v]) (rs++[r]) ds :=
 ⟨G.box.put D.rb D.rL,by rw [j9 D.tr];exact G.htp,j7,by rw [j9 D.rd.symm];exact G.hdp,(G.rows.snoc q).keep (jw.lst Ext.put G.hrw),λc o h n=>by rw [j9 (j4 h D.nr)];exact G.ext c o h n⟩
theorem RG.putD (D:RD L b tp rw dp H0) (G:RG L b tp rw dp H0 H ts xs rs ds) (ds':List Int):RG L b tp rw dp H0 (upd H dp (.lst (ds'.map V.int))) ts xs rs ds' :=
 ⟨G.box.put D.db D.dL,by rw [j9 D.td];exact G.htp,by rw [j9 D.rd];exact G.hrw,j7,G.rows.keep (jw.lst Ext.put G.hdp),λc o h n=>by rw [j9 (j4 h D.nd)];exact G.ext c o h n⟩
end
noncomputable def xO (rs:List Rch):List Int:=(aW rs.length).map λi=>jI rs (qG rs i)
theorem QS {t:Int}{hs:List Int}(G:Grown rs) (h0:0<=t) (h1:t<rs.length) (hx:okR rs.length (t,hs)=true):xO (rs++[(t,hs)])=xO rs++[jI rs (qG rs t.toNat)+hs.length]:=by
 have Ld:=qp G.ok
 unfold xO
 rw [ay,b7,eF,aF]
 congr 1
 ·apply dN
  intro i hi
  have hi':=List.mem_range.mp hi
  rw [vz Ld hi',za _ (ze Ld i hi')]
 ·show [jI (rs++[(t,hs)]) (qG (rs++[(t,hs)]) rs.length)]=[_]
  rw [G.deep_snoc h0 h1 hx]
theorem YC {rs:List Rch}{t:Int}(h0:0<=t) (h1:t<rs.length):atI ((xO rs).map V.int) t=some (.int (jI rs (qG rs t.toNat))):=by
 refine qV h0 ?_
 unfold xO
 rw [aq,aq,List.getElem?_range ()]
 rfl
theorem W0 {i:Nat}{t sz:Int}{hs:List Int}(hi:0<i) (h0:0<=t) (h1:t<i) (hl:(hs.length:Int)=sz) (hz0:1<=sz) (hz1:sz<=12) (hb:∀x∈hs,0<=x/\x<=99):okR i (t,hs)=true:=by
 unfold okR xN
 rw [if_neg (),decide_eq_true (show 0<=t/\t<(i:Int) from ⟨h0,h1⟩),decide_eq_true (show 1<=(hs.length:Int)/\(hs.length:Int)<=12 by omega),eL,eL,bB]
 intro x hx
 exact decide_eq_true (hb x hx)
noncomputable def kE:Sp:=λvs H Q _=>∃(L b:Addr),vs=[.ref b]/\jG L H b/\∀p H' xs rs,jG L H' b->Ext b H H'->H p=none->H' p=some (.lst xs)->qf H' xs rs->Grown rs->1<=rs.length->rs.length<=8->Q (.ref p) H'
theorem jP:FnScope ["_law_box_here","_law_tops","_law_sizes","_law_rows","_law_deep","_law_number","_law_to","_law_led","_law_heads","_law_size"] ["_law_box_here"] (ja xf):=by walk_at "s"
theorem Wy {v:Int}(a:0<=v) (b:v<3):∃n,atI [V.int 1,V.int 3,V.int 8] v=some (V.int n)/\0<n/\n<=8:=by
 have h:v=0\/v=1\/v=2:=()
 rcases h with rfl | rfl | rfl
 ·exact ⟨1,rfl,(),()⟩
 ·exact ⟨3,rfl,(),()⟩
 ·exact ⟨8,rfl,(),()⟩
theorem XX (nb:Nb2 mg) (c_law_take:Cal P w K mg base 2 "_law_take" ["_law_box_here","_law_size"] xG) (c_law_ground_drawn:Cal P w K mg base 3 "_law_ground_drawn" ["_law_box_here","_law_top","_law_size"] vK) (F:Fun K "_law_reaches" "_law_reaches" xf f fd):FnOk P w K mg base CX0 4 f fd ["_law_box_here"] kE:=by
 refine F.ok jP ↥12 ↥0
 ·obtain ⟨L,b,rfl,_⟩:=h
  rfl
 ·obtain ⟨L,b,rfl,B,k⟩:=h
  refine ⟨_,(j8 (jA 1 jP.nd (jD (j2 (jv qr j6 ↥2) j5)))
   (j8 (jA 2 jP.nd (jD (j2 (jv qr j6 ↥2) j5)))
   (j8 (jA 3 jP.nd (jD (j2 (jx (j2 (jv yw j6 j6) (j2 (jL (xy K) rfl nb.b_tuple cF (j2 (je c_law_ground_drawn (hr.mono ⋯) rfl (j2 (pv 0) (j2 (jj (jf K) (pv 1) j6 (λ_ _=>rfl)) (j2 (jj (jf K) (pv 2) j6 (λ_ _=>rfl)) j5)))) j5)) j5))) j5)))
   (j8 (jA 4 jP.nd (jD (j2 (jj (jf K) (pv 2) j6 (λ_ _=>rfl)) j5)))
   (j8 (xk bC rfl (Yy rfl nb.b_range (j2 j6 (j2 (jv qr j6 ↥26) j5))) (jm (i:=5) jP.nd rfl (bf rfl)) (j8 (jA 6 jP.nd (je c_law_take (hr.mono ⋯) rfl (j2 (pv 0) (j2 (pv 5) j5))))
   (j8 (vT (i:=7) jP.nd rfl (ib rfl) (jX (osc:=(ja xf)) (ON:=["_law_box_here","_law_tops","_law_sizes","_law_rows","_law_deep","_law_number","_law_to","_law_led","_law_heads","_law_size"]) (N:=["_law_row_here"]) (own:=1) (caps:=[]) ⟨rfl,∅,∅,∅,rfl,∅⟩ rfl rfl rfl (qi K (pv 3)) (λ_ _ _ _ _=>(jm (i:=0) (show b8 (["_law_row_here"]:List Str) by decide +kernel) rfl (bf rfl))) ↥24 (λ_ _ _ _ _=>(jj (jt K) (pv 0) j6 (λ_ _=>rfl)))))
   (j8 (jA 8 jP.nd (jd (ji K) rfl nb.b_len aR (j2 (jX (osc:=(ja xf)) (ON:=["_law_box_here","_law_tops","_law_sizes","_law_rows","_law_deep","_law_number","_law_to","_law_led","_law_heads","_law_size"]) (N:=["_law_one","_law_led"]) (own:=1) (caps:=[7]) ⟨rfl,∅,∅,∅,rfl,∅⟩ rfl rfl rfl (qI rfl nb.b_range (j2 (pv 5) j5)) (λ_ _ _ _ _=>(jm (i:=0) (show b8 (["_law_one","_law_led"]:List Str) by decide +kernel) rfl (bf rfl))) (λ_ _ _ _ _=>(kX (jr (yc K) (pv 0) (pv 1) ↥35))) (λ_ _ _ _ _=>(pv 0))) j5)))
   (zQ (jF (PW.pt (yf (jr qC (pv 8) j6 (jB _)) (zZ (jr (vQ K) (pv 6) (pv 7) ↥35)))) (jb (jA 6 jP.nd (jv yw (pv 5) j6))) jo)
   (jb (jF (jr wR (jj (jf K) (pv 4) (pv 6) (λ_ _=>rfl)) j6 (jB _)) (j8 (jA 9 jP.nd (jv qr j6 (je c_law_take (hr.mono ⋯) rfl (j2 (pv 0) (j2 (jd (Jq rfl) rfl nb.b_min boot_min (j2 j6 (j2 (jv yw j6 (jj (jf K) (pv 4) (pv 6) (λ_ _=>rfl))) j5))) j5)))))
   (j8 (jU (vm K bR bN bO qL (pv 1) (j2 (jd (Jq rfl) rfl nb.b_min boot_min (j2 j6 (j2 (jv qr (jj (jf K) (pv 1) (pv 6) (λ_ _=>rfl)) ↥2) j5))) j5)))
   (j8 (jU (vm K bR bN bO qL (pv 3) (j2 (jx (j2 (pv 6) (j2 (jL (xy K) rfl nb.b_tuple cF (j2 (je c_law_ground_drawn (hr.mono ⋯) rfl (j2 (pv 0) (j2 (jj (jf K) (pv 1) (Yp Q9 j6) (λ_ _=>rfl)) (j2 (pv 9) j5)))) j5)) j5))) j5)))
   (jb (jU (vm K bR bN bO qL (pv 4) (j2 (jv qr (jj (jf K) (pv 4) (pv 6) (λ_ _=>rfl)) (pv 9)) j5))))))) (jb (jk (pv 3))))))))))
   (jb (jk (pv 3)))))))),?_⟩
  left
  refine ⟨L,b,_,rfl,B,⟨⋯,⋯⟩,λv1 H1 p1 q1 B1 X1=>?_⟩
  left
  refine ⟨by show 1<=sizeLine;decide,λtp H2 htp htp2 s2=>?_⟩
  have B2:=B1.same s2
  left
  refine ⟨L,b,_,rfl,B2,⟨⋯,⋯⟩,λv2 H3 p3 q3 B3 X3=>?_⟩
  have tb:=B1.ne htp
  have tL:=B1.neL htp
  left
  refine ⟨by show 1<=sizeLine;decide,λsz H4 hsz hsz4 s4=>?_⟩
  have B4:=B3.same s4
  have htp4:=s4 _ _ (X3 _ _ htp2 tb)
  left
  refine ⟨L,b,20+v1,1+v2,rfl,B4,(),(),(),λgl H5 hs B5 X5 hgl hgl5 hl hb=>?_⟩
  have szb:=B3.ne hsz
  have htp5:=X5 _ _ htp4 tb
  have hsz5:=X5 _ _ hsz4 szb
  refine ⟨gl,_,rfl,SqL.of hgl5,λgt H6 hgt hgt6 s6=>?_⟩
  refine ⟨by show 2<=sizeLine;decide,λrt H7 hrt hrt7 s7=>?_⟩
  refine ⟨by show 1<=sizeLine;decide,λrw H8 hrw hrw8 s8=>?_⟩
  have B8:=((B5.same s6).same s7).same s8
  have sm58:jn H5 H8:=(s6.trans s7).trans s8
  have hsz8:=sm58 _ _ hsz5
  have htp8:=sm58 _ _ htp5
  have hrw5:H5 rw=none:=(s6.trans s7).free hrw
  have B7:=(B5.same s6).same s7
  have rb:=B7.ne hrw
  have rL:=B7.neL hrw
  have tr:tp≠rw:=j4 ((s6.trans s7) _ _ htp5) hrw
  left
  refine ⟨by show 1<=sizeLine;decide,λdp H9 hdp hdp9 s9=>?_⟩
  have db:=B8.ne hdp
  have dL:=B8.neL hdp
  have td:tp≠dp:=j4 htp8 hdp
  have rd:rw≠dp:=j4 hrw8 hdp
  have nz:∀a,H8 a=none->a≠b->a≠L->H a=none:=λa ha ab aL=>by
   have a5:=sm58.free ha
   have a4:=X5.free a5 ab
   exact X1.free (s2.free (X3.free (s4.free a4) ab)) ab
  have nt:H tp=none:=X1.free htp tb
  have nr:H rw=none:=X1.free (s2.free (X3.free (s4.free (X5.free hrw5 rb)) rb)) rb
  have nd:H dp=none:=nz dp hdp db dL
  have D:RD L b tp rw dp H:=⟨tb,rb,db,tL,rL,dL,tr,td,rd,nt,nr,nd⟩
  have ok0:wb [((0-1:Int),hs)]=true:=by
   unfold wb okR xN
   simp only [b7,List.range_one,di,List.all_nil,Bool.and_true]
   show (decide ((0-1:Int) = -1) && decide (1<=(hs.length:Int)/\(hs.length:Int)<=12) && hs.all λx=>decide (0<=x/\x<=99))=true
   rw [decide_eq_true (show 1<=(hs.length:Int)/\(hs.length:Int)<=12 by omega),b9,bB]
   exact ⟨rfl,λx hx=>decide_eq_true (hb x hx)⟩
  have rd0:qG [((0-1:Int),hs)] 0=[0]:=rfl
  have pl0:jI [((0-1:Int),hs)] [0]=hs.length:=by unfold jI;simp [y7]
  have G0:Grown [((0-1:Int),hs)]:=by
   refine ⟨ok0,aE (bI _ _) (by simp),λi hi=>?_⟩
   have:i=0:=by simp at hi;exact hi
   subst this
   rw [rd0,pl0]
   omega
  have ext8:Ext b H H8:=((((X1.trans (Ext.of_same s2)).trans X3).trans (Ext.of_same s4)).trans X5).trans (Ext.of_same sm58)
  have RG0:RG L b tp rw dp H H9 [20+v1] [.ref rt] [((0-1:Int),hs)] (xO [((0-1:Int),hs)]):=by
   refine ⟨B8.same s9,s9 _ _ htp8,s9 _ _ hrw8,?_,.cons ⟨rt,gt,rfl,s9 _ _ (s8 _ _ hrt7),s9 _ _ (s8 _ _ (s7 _ _ hgt6))⟩ .nil,ext8.trans (Ext.of_same s9)⟩
   rw [hdp9]
   show some (HO.lst [V.int (1+v2)])=some (.lst [V.int (jI [((0-1:Int),hs)] (qG [((0-1:Int),hs)] 0))])
   rw [rd0,pl0,hl]
  left
  refine ⟨by show 3<=sizeLine;decide,λq3' H10 hq hq10 s10=>?_⟩
  have RG1:=RG0.same s10
  left
  refine ⟨L,b,_,rfl,RG1.box,⟨⋯,⋯⟩,λv3 H11 p11 q11 B11 X11=>?_⟩
  have RG2:=RG1.take D B11 X11
  have hq11:=X11 _ _ hq10 (RG0.box.ne hq)
  obtain ⟨n,hn,n0,n8⟩:=Wy p11 q11
  refine ⟨_,_,_,_,rfl,rfl,SqL.of hq11,hn,?_⟩
  refine ⟨L,b,_,rfl,B11,⟨n0,()⟩,λv4 H12 p12 q12 B12 X12=>?_⟩
  have RG3:=RG2.take D B12 X12
  left
  refine ⟨1,1+v4,rfl,⟨(),(),(),()⟩,?_⟩
  have ht99:∀t∈[20+v1],t<=99:=λt ht=>by
   have:t=20+v1:=by simpa using ht
   omega
  have done:∀(H':Hp) ts xs rs ds,RG L b tp rw dp H H' ts xs rs ds->Grown rs->1<=rs.length->rs.length<=8->Q (.ref rw) H':=λH' ts xs rs ds G gr h1 h8=>k rw H' xs rs G.box G.ext nr G.hrw G.rows gr h1 h8
  refine yn (lo:=1) (n:=(1+v4-1).toNat) (λi σ H'=>∃(v5 v6 v7 v8 v9:Option V) (ts:List Int) (xs:List V) (rs:List Rch),σ=[some (.ref b),some (.ref tp),some (.ref sz),some (.ref rw),some (.ref dp),v5,v6,v7,v8,v9]/\RG L b tp rw dp H H' ts xs rs (xO rs)/\Grown rs/\rs.length=i+1/\ts.length=i+1/\∀t∈ts,t<=99) ⟨_,_,_,_,_,_,_,_,rfl,RG3,G0,rfl,rfl,ht99⟩ ?_ ?_
  ·rintro i σ H' hi ⟨v5,v6,v7,v8,v9,ts,xs,rs,rfl,G,gr,hrl,htl,htb⟩
   have Ld:=qp gr.ok
   have hxl:=G.rows.length
   left
   refine ⟨L,b,_,rfl,G.box,⟨(),()⟩,λt Ha ha0 ha1 Ba Xa=>?_⟩
   have Ga:=G.take D Ba Xa
   left
   refine ⟨⟨_,SqL.of Ga.hrw⟩,λld hld=>?_⟩
   refine jT (K:=K) (a:=rw) (xs:=xs) (acc:=ld) (λj σ H2=>∃x:Option V,σ=[x]/\H2 ld=some (.lst (((rs.take j).map (·.1)).map V.int))/\Ext ld Ha H2) ?_ ?_ ?_ ?_
   ·exact ⟨none,rfl,j7,Ext.put⟩
   ·rintro j σ H2 hj ⟨x,rfl,h3,e3⟩
    exact SqL.of (e3 _ _ Ga.hrw (j4 Ga.hrw hld))
   ·rintro j v σ H2 hv ⟨x,rfl,h3,e3⟩
    obtain ⟨r,hr,q,g,rfl,hq,hg⟩:=(Ga.rows.keep (jw.new e3 hld)).get hv
    have hj:j<rs.length:=(List.getElem?_eq_some_iff.mp hr).1
    left
    refine ⟨_,h3,by rw [af,af,b0];exact jh (),_,rfl,?_,e3.trans Ext.put⟩
    rw [j7,qA (λr:Rch=>r.1) rs j r hr,aF]
    rfl
   ·rintro σ H2 ⟨x,rfl,h3,e3⟩
    rw [hxl,bc] at h3
    have Gb:=Ga.extN hld e3
    left
    refine ⟨(),(),λhd hhd=>?_⟩
    have en:(1+(i:Int)).toNat=rs.length:=()
    refine xi (lo:=0) (n:=(1+(i:Int)).toNat) (acc:=hd) (λj σ H3=>∃(x:Option V) (vs:List V),σ=[x,some (.ref ld)]/\H3 hd=some (.lst vs)/\vs.length=((aW j).filter (jZ rs)).length/\Ext hd H2 H3) ?_ ?_ ?_
    ·exact ⟨none,[],rfl,j7,rfl,Ext.put⟩
    ·rintro j σ H3 hj ⟨x,vs,rfl,h4,l4,e4⟩
     have er:((aW (j+1)).filter (jZ rs)).length=((aW j).filter (jZ rs)).length+(if jZ rs j=true then 1 else 0):=by
      rw [eF,ee,ay]
      congr 1
      by_cases z:jZ rs j=true
      ·rw [if_pos z];simp [z]
      ·rw [if_neg z];simp [z]
     have hfl:((aW j).filter (jZ rs)).length<=j:=aE (bI _ _) (by rw [c5];exact av _)
     left
     refine ⟨ld,_,rfl,.inl (SqL.of (e4 _ _ h3 (j4 h3 hhd))),rfl,vD _,?_⟩
     left
     rw [pw,uj]
     refine xz (λhin=>?_) (λhin=>?_)
     ·have hb:jZ rs j=true:=by unfold jZ;rw [decide_eq_false (show ¬(j:Int)∈tos rs from hin)];rfl
      left
      refine ⟨vs,h4,jh (),_,_,rfl,j7,?_,e4.trans Ext.put⟩
      rw [ay,b7,er,if_pos hb,l4]
     ·have hb:¬jZ rs j=true:=by unfold jZ;rw [decide_eq_true (show (j:Int)∈tos rs from hin)];exact au
      exact ⟨_,vs,rfl,h4,by rw [er,if_neg hb,l4,Nat.add_zero],e4⟩
    ·rintro σ H3 ⟨x,vs,rfl,h4,l4,e4⟩
     have Gc:=Gb.extN hhd e4
     have hld4:=e4 _ _ h3 (j4 h3 hhd)
     rw [en] at l4
     have l4':vs.length=(ju rs).length:=l4
     refine ⟨_,_,rfl,.inl (SqL.of h4),?_⟩
     refine ⟨λσ H5=>∃t':Int,σ=[some (.ref b),some (.ref tp),some (.ref sz),some (.ref rw),some (.ref dp),some (.int (1+(i:Int))),some (.int t'),some (.ref ld),some (.int vs.length),v9]/\H5=H3/\0<=t'/\t'<rs.length/\(t'∈tos rs->(ju rs).length<6),?_,?_⟩
     ·have hh:=gr.heads
      left
      refine qH (λh6=>?_) (λh6=>?_)
      ·left
       refine ⟨ld,_,rfl,.inl (SqL.of hld4),rfl,vD _,?_⟩
       left
       rw [uj]
       refine qH (λhin=>?_) (λhin=>?_)
       ·left
        refine ⟨(),(),λz=>?_⟩
        have:=Ze Ld z
        omega
       ·exact ⟨t,rfl,rfl,ha0,(),λz=>absurd z hin⟩
      ·have:(ju rs).length<6:=by
        have:(vs.length:Int)≠6:=λz=>h6 (by rw [z])
        omega
       exact ⟨t,rfl,rfl,ha0,(),λ_=>this⟩
     ·rintro σ H5 ⟨t',rfl,rfl,t0,t1,th⟩
      have hde:=YC t0 t1
      left
      refine ⟨_,_,_,_,rfl,rfl,SqL.of Gc.hdp,hde,?_⟩
      left
      refine qH (λh30=>?_) (λh30=>?_)
      ·have hdp0:=gr.deep t'.toNat ()
       generalize hdt:jI rs (qG rs t'.toNat)=dt at hde h30 hdp0
       left
       refine ⟨_,_,_,_,rfl,rfl,SqL.of Gc.hdp,hde,?_⟩
       left
       refine ⟨_,_,rfl,?_⟩
       refine ⟨L,b,_,rfl,Gc.box,⟨by split <;> omega,by split <;> omega⟩,λv5' H6 p6 q6 B6 X6=>?_⟩
       have Gd:=Gc.take D B6 X6
       have hz12:1+v5'<=12/\dt+(1+v5')<=30:=by
        have q6':=q6
        split at q6' <;> omega
       left
       refine ⟨.inl ⟨rfl,_,SqL.of Gd.htp⟩,?_⟩
       left
       have hti:t'.toNat<ts.length:=()
       refine ⟨_,_,_,_,rfl,rfl,SqL.of Gd.htp,qV t0 (by rw [aq,ag hti];rfl),?_⟩
       left
       refine ⟨L,b,_,rfl,Gd.box,⟨⋯,⋯⟩,λv6' H7 p7 q7 B7 X7=>?_⟩
       have Ge:=Gd.take D B7 X7
       left
       refine ⟨_,_,rfl,?_⟩
       generalize hnew:(if ts[t'.toNat]'hti+v6'<99 then ts[t'.toNat]'hti+v6' else 99)=new
       have hnew99:new<=99:=by rw [<- hnew];split <;> omega
       left
       refine ⟨tp,_,_,rfl,rfl,Ge.htp,by rw [af];exact jh (),?_⟩
       have Gf:RG L b tp rw dp H (upd H7 tp (.lst (ts.map V.int++[V.int new]))) (ts++[new]) xs rs (xO rs):=by
        have:=Ge.putT D (ts++[new])
        rw [aF] at this
        exact this
       left
       refine ⟨.inl ⟨rfl,_,SqL.of Gf.hrw⟩,?_⟩
       left
       refine ⟨_,_,_,_,rfl,rfl,SqL.of j7,Vw _ _,?_⟩
       left
       refine ⟨L,b,new,1+v5',rfl,Gf.box,hnew99,(),(),λgl' H8 hs' B8' X8 hgl' hgl8 hl' hb'=>?_⟩
       have Gg:=Gf.take D B8' X8
       refine ⟨gl',_,rfl,SqL.of hgl8,λgt' H9' hgt' hgt9 s9'=>?_⟩
       refine ⟨by show 2<=sizeLine;decide,λrt' H10' hrt' hrt10 s10'=>?_⟩
       have Gh:=(Gg.same s9').same s10'
       left
       refine ⟨rw,_,_,rfl,rfl,Gh.hrw,jh (),?_⟩
       have okn:okR rs.length (t',hs')=true:=W0 () t0 t1 hl' () () hb'
       have Gi:=Gh.putR D (v:=.ref rt') (r:=(t',hs')) ⟨rt',gt',rfl,hrt10,s10' _ _ hgt9⟩
       left
       refine ⟨.inl ⟨rfl,_,SqL.of Gi.hdp⟩,?_⟩
       left
       refine ⟨_,_,_,_,rfl,rfl,SqL.of Gi.hdp,hde,?_⟩
       left
       have hdl:(xO rs).length=rs.length:=by unfold xO;simp
       refine ⟨dp,_,_,rfl,rfl,Gi.hdp,by rw [af];exact jh (),?_⟩
       have Gj:RG L b tp rw dp H (upd (upd H10' rw (.lst (xs++[.ref rt']))) dp (.lst ((xO rs).map V.int++[V.int (dt+(1+v5'))]))) (ts++[new]) (xs++[.ref rt']) (rs++[(t',hs')]) (xO (rs++[(t',hs')])):=by
        have:=Gi.putD D (xO rs++[dt+(1+v5')])
        rw [aF] at this
        rw [QS gr t0 t1 okn,hdt,hl']
        exact this
       refine ⟨_,_,_,_,_,_,_,_,rfl,Gj,gr.snoc t0 t1 okn th (by rw [hdt];omega),by rw [ay,hrl];rfl,by rw [ay,htl];rfl,λt ht=>?_⟩
       rcases List.mem_append.mp ht with ht | ht
       ·exact htb t ht
       ·have:t=new:=by simpa using ht
        omega
      ·left
       exact done _ _ _ _ _ Gc gr () ()
  ·rintro σ H' ⟨v5,v6,v7,v8,v9,ts,xs,rs,rfl,G,gr,hrl,htl,htb⟩
   left
   exact done _ _ _ _ _ G gr () ()
noncomputable def Va (t:TE):Prop:=∀σ H Q Q',(∀v H,Q v H->Q' v H)->t σ H Q->t σ H Q'
noncomputable def Uh (r:R2):Prop:=∀x y H Q Q',(∀v H,Q v H->Q' v H)->r x y H Q->r x y H Q'
theorem ZQ (i:Nat):Va (uq i):=λ_ _ _ _ h ⟨v,e,q⟩=>⟨v,e,h _ _ q⟩
theorem Ye (v:V):Va (tC v):=λ_ _ _ _ h q=>h _ _ q
theorem kQ (hr:Uh r) (ha:Va ta) (hb:Va tb):Va (tOp r ta tb):=λσ H Q Q' h q=>ha σ H _ _ (λx H1 q1=>hb σ H1 _ _ (λy H2 q2=>hr x y H2 _ _ h q2) q1) q
theorem Yb (K:ah):Uh (WA K):=λ_ _ _ _ _ h ⟨a,xs,i,v,e1,e2,e3,e4,q⟩=>⟨a,xs,i,v,e1,e2,e3,e4,h _ _ q⟩
theorem UP (K:ah):Uh (WW K):=λ_ _ _ _ _ h ⟨a,xs,i,v,e1,e2,e3,e4,q⟩=>⟨a,xs,i,v,e1,e2,e3,e4,h _ _ q⟩
theorem Wx (g:Int->Int->V):Uh (rI0 g):=λ_ _ _ _ _ h ⟨i,j,e1,e2,q⟩=>⟨i,j,e1,e2,h _ _ q⟩
theorem WL:Uh rNe:=λ_ _ _ _ _ h ⟨e,q⟩=>⟨e,h _ _ q⟩
theorem Uj (ht:Va t):∀σ H Q Q',(∀b H1,Q b H1->Q' b H1)->Yh t σ H Q->Yh t σ H Q':=λσ H Q Q' h q=>ht σ H _ _ (λ_ _ ⟨k,e,q⟩=>⟨k,e,h _ _ q⟩) q
theorem Xk {α:Type}{x:α}{l:List α}:atI (x::l) 0=some x:=zW (j:=0) rfl
noncomputable def uI (fd:Addr) (H:Hp) (vs:List V) (rows:List (List Int)):Prop:=d8 (λv (r:List Int)=>∃a,v=V.ref a/\a≠fd/\H a=some (.lst (r.map V.int))) vs rows
theorem uI.ext {rows:List (List Int)}(h:uI fd H vs rows) (e:Ext fd H H'):uI fd H' vs rows:=Paired.mapP h λ_ _ ⟨a,e1,n,q⟩=>⟨a,e1,n,e _ _ q n⟩
theorem uI.rowsI {rows:List (List Int)}(h:uI fd H vs rows):yg H vs rows:=Paired.mapP h λ_ _ ⟨a,e1,n,q⟩=>⟨a,e1,q⟩
theorem gu {vs:List V}{ws:List (List Int)}(h:yg H vs ws):∀ix:List Nat,(∀i∈ix,i<vs.length)->yg H (ix.map λi=>vs.getD i V.non) (ix.map λi=>ws.getD i [])
 | [],_=>.nil
 | i::ix,hb=>by
  refine .cons ?_ (gu h ix λj hj=>hb j (aH _ hj))
  have hi:=hb i aO
  obtain ⟨y,e2,a,e3,e4⟩:=Paired.get h (ag hi)
  refine ⟨a,?_,?_⟩
  ·show vs.getD i V.non=V.ref a
   rw [ao,ag hi];exact e3
  ·show H a=some (.lst ((ws.getD i []).map V.int))
   rw [ao,e2];exact e4
noncomputable def Xj (K:ah):Sp:=λvs H Q _=>∃(p:Addr) (xs:List V) (rs:List Rch),vs=[.ref p]/\H p=some (.lst xs)/\qf H xs rs/\xr rs/\rs.length<=60/\∀l H' out ws,H l=none->H' l=some (.lst out)->yg H' out ws->qe rs ws->jn H H'->Q (.ref l) H'
theorem x4:FnScope ["_law_reaches_here","_law_led","_law_found","_law_head","_law_road"] ["_law_reaches_here"] (ja xY):=by walk_at "s"
theorem Ua (nb:Nb2 mg) (F:Fun K "_law_roads" "_law_roads" xY f fd):FnOk P w K mg base CX0 1 f fd ["_law_reaches_here"] (Xj K):=by
 refine F.ok x4 ↥12 ↥0
 ·obtain ⟨p,xs,rs,rfl,_⟩:=h
  rfl
 ·obtain ⟨p,xs,rs,rfl,hp,hrw,L,h60,k⟩:=h
  have hlen:=hrw.length
  refine ⟨_,(j8 (ut (j:=1) (osc:=(ja xY)) (ON:=["_law_reaches_here","_law_led","_law_found","_law_head","_law_road"]) (N:=["_law_to","_law_ground_here"]) (own:=2) (caps:=[]) ⟨rfl,∅,∅,∅,rfl,∅⟩ x4.nd rfl (bf rfl) rfl rfl rfl (qi K (pv 0)) (λ_ _ _ _ _=>(xQ (n:=2) K rfl (jO (jm (i:=0) (show b8 (["_law_to","_law_ground_here"]:List Str) by decide +kernel) rfl (bf rfl)) (jO (jm (i:=1) (show b8 (["_law_to","_law_ground_here"]:List Str) by decide +kernel) rfl (bf rfl)) xD)))) ↥24 (λ_ _ _ _ _=>(pv 0)))
   (j8 (jA 2 x4.nd (jD j5))
   (j8 (xk bC rfl (qI rfl nb.b_range (j2 (jd (ji K) rfl nb.b_len aR ↥29) j5)) (jm (i:=3) x4.nd rfl (bf rfl)) (jb (jF (jr (yc K) (pv 3) (pv 1) ↥35) (j8 (jA 4 x4.nd (jD (j2 (pv 3) j5)))
   (j8 (Xr bC (jr VM (jj (jt K) (jj (jf K) (pv 0) (jj (jf K) (pv 4) j6 (λ_ _=>rfl)) (λ_ _=>rfl)) j6 (λ_ _=>rfl)) (jv yw j6 j6) (jB _)) (jb (jA 4 x4.nd (jv zo (jD (j2 (jj (jt K) (jj (jf K) (pv 0) (jj (jf K) (pv 4) j6 (λ_ _=>rfl)) (λ_ _=>rfl)) j6 (λ_ _=>rfl)) j5)) (pv 4)))))
   (jb (jU (vm K bR bN bO qL (pv 2) (j2 (pv 4) j5)))))) jo)))
   (jb (jk (jX (osc:=(ja xY)) (ON:=["_law_reaches_here","_law_led","_law_found","_law_head","_law_road"]) (N:=["_law_road"]) (own:=1) (caps:=[]) ⟨rfl,∅,∅,∅,rfl,∅⟩ rfl rfl rfl (qi K (jd (gy K hr.units) rfl nb.b_sorted iu ↥89)) (λ_ _ _ _ _=>(jm (i:=0) (show b8 (["_law_road"]:List Str) by decide +kernel) rfl (bf rfl))) ↥24 (λ_ _ _ _ _=>(UX K (pv 0))))))))),?_⟩
  left
  refine ⟨⟨_,SqL.of hp⟩,λen hen=>?_⟩
  refine jT (K:=K) (a:=p) (xs:=xs) (acc:=en) (λj σ H2=>∃x y:Option V,σ=[x,y]/\H2 en=some (.lst (((rs.take j).map (·.1)).map V.int))/\Ext en H H2) ?_ ?_ ?_ ?_
  ·exact ⟨none,none,rfl,j7,Ext.put⟩
  ·rintro j σ H2 hj ⟨x,y,rfl,h3,e3⟩
   exact SqL.of (e3 _ _ hp (j4 hp hen))
  ·rintro j v σ H2 hv ⟨x,y,rfl,h3,e3⟩
   obtain ⟨r,hr,q,g,rfl,hq,hg⟩:=(hrw.keep (jw.new e3 hen)).get hv
   have hj:j<rs.length:=(List.getElem?_eq_some_iff.mp hr).1
   left
   refine ⟨q,_,rfl,SqT.of hq,rfl,?_⟩
   refine ⟨_,_,rfl,_,_,rfl,rfl,?_⟩
   left
   refine ⟨_,h3,by rw [af,af,b0];exact jh (),_,_,rfl,?_,e3.trans Ext.put⟩
   rw [j7,qA (λr:Rch=>r.1) rs j r hr,aF]
   rfl
  ·rintro σ H2 ⟨x,y,rfl,h3,e3⟩
   rw [hlen,bc] at h3
   have sm2:jn H H2:=λc o hc=>e3 c o hc (j4 hc hen)
   left
   refine ⟨aP _,λfo H3 hfo hfo3 s3=>?_⟩
   have hp3:=s3 _ _ (sm2 _ _ hp)
   have hrw3:qf H3 xs rs:=hrw.keep (jw.same (sm2.trans s3))
   have hen3:=s3 _ _ h3
   have hfoH:H fo=none:=sm2.free hfo
   left
   refine ⟨_,_,rfl,.inl (SqL.of hp3),?_⟩
   refine ⟨_,rfl,(),(),?_⟩
   rw [hlen]
   refine yn (lo:=0) (n:=((rs.length:Nat):Int).toNat) (λj σ H4=>∃(v3 v4:Option V) (vs:List V),σ=[some (.ref p),some (.ref en),some (.ref fo),v3,v4]/\H4 fo=some (.lst vs)/\uI fo H4 vs (((aW j).filter (jZ rs)).map λh=>(qG rs h).reverse)/\Ext fo H3 H4/\vs.length<=j) ?_ ?_ ?_
   ·exact ⟨_,_,[],rfl,hfo3,.nil,Ext.refl,av _⟩
   ·rintro j σ H4 hj ⟨v3,v4,vs,rfl,h4,w4,e4,l4⟩
    have hj':j<rs.length:=()
    have kt4:jw H3 H4:=jw.lst e4 hfo3
    have hen4:=e4 _ _ hen3 (j4 h3 hfo)
    have hp4:=e4 _ _ hp3 (j4 (sm2 _ _ hp) hfo)
    have hrw4:qf H4 xs rs:=hrw3.keep kt4
    have er:(aW (j+1)).filter (jZ rs)=(aW j).filter (jZ rs)++(if jZ rs j=true then [j] else []):=by
     rw [eF,ee]
     congr 1
     by_cases z:jZ rs j=true
     ·rw [if_pos z];simp [z]
     ·rw [if_neg z];simp [z]
    left
    refine ⟨en,_,rfl,.inl (SqL.of hen4),rfl,vD _,?_⟩
    left
    rw [pw,uj]
    refine xz (λhin=>?_) (λhin=>?_)
    ·have hb:jZ rs j=true:=by unfold jZ;rw [decide_eq_false (show ¬(j:Int)∈tos rs from hin)];rfl
     left
     refine ⟨by show 1<=sizeLine;decide,λr0 H5 hr0 hr05 s5=>?_⟩
     left
     refine QX (λσ H6=>∃(a:Addr) (r:Nat) (l:List Int),σ=[some (.ref p),some (.ref en),some (.ref fo),some (.int (j:Int)),some (.ref a)]/\jn H4 H6/\H4 a=none/\H6 a=some (.lst (((r:Int)::l).map V.int))/\r<rs.length/\l.length+r<=100/\l.reverse++qG rs r=qG rs j) (λσ H6=>match σ with | [_,_,_,_,some (.ref a)]=>(match H6 a with | some (.lst (.int r::_))=>r.toNat | _=>0) | _=>0) ?_ ?_ ?_
     ·exact ⟨r0,j,[],rfl,s5,hr0,hr05,hj',by simp;omega,rfl⟩
     ·rintro σ H6 ⟨a,r,l,rfl,s6,ha4,ha6,hrl,hll,heq⟩
      have hp6:=s6 _ _ hp4
      obtain ⟨v,hv,q,g,rfl,hq,hg⟩:=(hrw4.keep (jw.same s6)).at (ag hrl)
      have ht:=L.lt hrl
      have hl3:=kD (L _ hrl)
      have et:=JW (ag hrl)
      rw [et] at ht hl3
      generalize (rs[r]'hrl).1=tt at ht hl3 et hq
      left
      refine ⟨_,_,_,_,rfl,rfl,SqL.of ha6,Xk,?_⟩
      refine ⟨_,_,_,_,rfl,rfl,SqL.of hp6,zW hv,?_⟩
      refine ⟨_,_,_,_,rfl,rfl,SqT.of hq,rfl,?_⟩
      left
      refine xz (λhne=>?_) (λhne=>?_)
      ·have htt:0<=tt:=by
        have:tt ≠ -1:=λz=>hne (by rw [z];rfl)
        omega
       left
       refine ⟨_,_,_,_,rfl,rfl,SqL.of ha6,Xk,?_⟩
       refine ⟨_,_,_,_,rfl,rfl,SqL.of hp6,zW hv,?_⟩
       refine ⟨_,_,_,_,rfl,rfl,SqT.of hq,rfl,?_⟩
       refine ⟨by show 1<=sizeLine;decide,λc1 H7 hc1 hc17 s7=>?_⟩
       left
       refine ⟨c1,a,_,_,rfl,rfl,hc17,s7 _ _ ha6,?_,λc2 H8 hc2 hc28 s8=>?_⟩
       ·show 1+(((r:Int)::l).map V.int).length<=sizeLine
        rw [af,bb]
        exact dX (jh ())
       ·have ett:tt=((tt.toNat:Nat):Int):=()
        refine ⟨⟨c2,tt.toNat,(r:Int)::l,rfl,(s6.trans s7).trans s8,(s6.trans s7).free hc2,?_,(),?_,?_⟩,?_⟩
        ·rw [hc28,ett]
         simp only [bz]
         rfl
        ·rw [bb];omega
        ·rw [lu,i0,<- heq,zS L hrl,et,if_neg ()]
         rfl
        ·show (match H8 c2 with | some (.lst (.int r::_))=>r.toNat | _=>0)<(match H6 a with | some (.lst (.int r::_))=>r.toNat | _=>0)
         rw [hc28,ha6]
         show tt.toNat<((r:Int)).toNat
         omega
      ·have htm:tt = -1:=V.int.inj hne
       have hfo6:=s6 _ _ h4
       left
       refine ⟨.inl ⟨rfl,_,SqL.of hfo6⟩,?_⟩
       left
       refine ⟨fo,_,_,rfl,rfl,hfo6,jh (),?_⟩
       have naf:a≠fo:=λz=>by rw [z,h4] at ha4;cases ha4
       refine ⟨_,_,vs++[.ref a],rfl,j7,?_,λc o hc n=>by rw [j9 n];exact s6 _ _ (e4 c o hc n),by rw [ay,b7];omega⟩
       rw [er,if_pos hb,aF]
       refine uI.ext (cE (w4.ext (Ext.of_same s6)) ⟨a,rfl,naf,?_⟩) Ext.put
       show H6 a=some (.lst (((qG rs j).reverse).map V.int))
       rw [ha6,<- heq,zS L hrl,et,if_pos (),List.reverse_append,eZ]
       rfl
     ·exact Uj (kQ WL (kQ (UP K) (kQ (Yb K) (ZQ 0) (kQ (Yb K) (ZQ 4) (Ye _))) (Ye _)) (kQ (Wx _) (Ye _) (Ye _)))
    ·have hb:¬jZ rs j=true:=by unfold jZ;rw [decide_eq_true (show (j:Int)∈tos rs from hin)];exact au
     refine ⟨_,_,vs,rfl,h4,?_,e4,()⟩
     rw [er,if_neg hb,bj]
     exact w4
   ·rintro σ H4 ⟨v3,v4,vs,rfl,h4,w4,e4,l4⟩
    rw [bz] at w4 l4
    have sm4:jn H H4:=λc o hc=>e4 _ _ (s3 _ _ (sm2 _ _ hc)) (j4 hc hfoH)
    left
    refine ⟨fo,vs,_,rfl,SqL.of h4,(),w4.rowsI,λso H5 out hso hso5 s5 hs=>?_⟩
    obtain ⟨ix,hpx,eo,hpw⟩:=hs
    have hvl:vs.length=(ju rs).length:=by rw [aZ w4,af];rfl
    have hb:∀i∈ix,i<vs.length:=λi hi=>by have:=hpx.mem_iff.mp hi;simpa using this
    have hri:=gu (w4.rowsI) ix hb
    have hw5:yg H5 out (ix.map λi=>(((ju rs).map λh=>(qG rs h).reverse).getD i [])):=by
     rw [eo]
     exact Paired.mapP hri λ_ _ ⟨a,e1,q⟩=>⟨a,e1,s5 _ _ q⟩
    have hol:out.length<=60:=by rw [eo,af,hpx.length_eq,c5];omega
    generalize hrv:(ix.map λi=>(((ju rs).map λh=>(qG rs h).reverse).getD i []))=rv at hw5
    have hrvl:=aZ hw5
    have isr:qe rs (rv.map cO):=by
     refine ⟨?_,?_⟩
     ·have h1:=hpx.map λi=>(((ju rs).map λh=>(qG rs h).reverse).getD i [])
      rw [hvl,show (ju rs).length=((ju rs).map λh=>(qG rs h).reverse).length by rw [af],Xz,hrv] at h1
      have h2:=h1.map cO
      rw [bF] at h2
      refine h2.trans (List.Perm.of_eq (dN λx _=>?_))
      exact eZ _
     ·rw [bF,show (cO ∘ cO:List Int->List Int)=id from funext λx=>eZ x,lx,<- hrv]
      exact hpw
    refine ⟨so,rfl,⟨_,SqL.of hso5⟩,λacc hacc=>?_⟩
    refine jT (K:=K) (a:=so) (xs:=out) (acc:=acc) (λj σ H6=>∃(x:Option V) (us:List V),σ=[x]/\H6 acc=some (.lst us)/\uI acc H6 us ((rv.take j).map cO)/\Ext acc H5 H6/\us.length=j) ?_ ?_ ?_ ?_
    ·exact ⟨none,[],rfl,j7,.nil,Ext.put,rfl⟩
    ·rintro j σ H6 hj ⟨x,us,rfl,h6,w6,e6,l6⟩
     exact SqL.of (e6 _ _ hso5 (j4 hso5 hacc))
    ·rintro j v σ H6 hv ⟨x,us,rfl,h6,w6,e6,l6⟩
     obtain ⟨y,e2,a,rfl,ha⟩:=Paired.get hw5 hv
     have hj:j<rv.length:=(List.getElem?_eq_some_iff.mp e2).1
     left
     refine ⟨a,_,rfl,SqL.of (e6 _ _ ha (j4 ha hacc)),λq H7 hq hq7 s7=>?_⟩
     have h7:=s7 _ _ h6
     have nq:q≠acc:=λz=>by rw [z,h6] at hq;cases hq
     refine ⟨us,h7,jh (),_,us++[.ref q],rfl,j7,?_,λc o hc n=>by rw [j9 n];exact s7 _ _ (e6 c o hc n),by rw [ay,l6];rfl⟩
     rw [qA cO rv j y e2]
     refine uI.ext (cE (w6.ext (Ext.of_same s7)) ⟨q,rfl,nq,?_⟩) Ext.put
     rw [hq7,pS]
    ·rintro σ H6 ⟨x,us,rfl,h6,w6,e6,l6⟩
     rw [hrvl,bc] at w6
     exact k acc H6 us _ (sm4.free (s5.free hacc)) h6 w6.rowsI isr λc o hc=>e6 _ _ (s5 _ _ (sm4 _ _ hc)) (j4 (s5 _ _ (sm4 _ _ hc)) hacc)
noncomputable def jp (rs:List Rch) (way:List Int):List Int:=(way.map λr=>y7 rs r.toNat).flatten
theorem kq (rs:List Rch):∀way:List Int,((jp rs way).length:Int)=jI rs way
 | []=>rfl
 | r::way=>by
  rw [xg,<- kq rs way]
  unfold jp
  rw [aV,lA,ay]
  push_cast
  rfl
theorem Gu {n:Nat}(h:n<=100000):n<sizeLine:=c8 h ⋯
theorem wt (rs:List Rch) (way:List Int) (j:Nat) (r:Int) (h:way[j]? = some r):jp rs (way.take (j+1))=jp rs (way.take j)++y7 rs r.toNat:=by
 unfold jp
 rw [bL,h,aF,List.flatten_append]
 congr 1
 show [y7 rs r.toNat].flatten=_
 simp
theorem uX {rs:List Rch}(h100:∀r∈rs,r.2.length<=100):∀way:List Int,(jp rs way).length<=100*way.length
 | []=>by unfold jp;simp
 | r::way=>by
  have ih:=uX h100 way
  have h1:(y7 rs r.toNat).length<=100:=by
   unfold y7
   rw [ao]
   cases e:rs[r.toNat]? with
   | none=>simp
   | some q=>exact h100 q (ar e)
  unfold jp at ih ⊢
  rw [aV,lA,ay,bb]
  omega
noncomputable def QG (K:ah):Sp:=λvs H Q _=>∃(p a:Addr) (xs:List V) (rs:List Rch) (way:List Int),vs=[.ref p,.ref a]/\H p=some (.lst xs)/\qf H xs rs/\(∀r∈rs,r.2.length<=100)/\H a=some (.lst (way.map V.int))/\(∀r∈way,0<=r/\r<rs.length)/\way.length<=100/\∀l H',H l=none->H' l=some (.lst ((jp rs way).map V.int))->jn H H'->Q (.ref l) H'
theorem xT:FnScope ["_law_reaches_here","_law_road","_law_found","_law_reach","_law_height"] ["_law_reaches_here","_law_road"] (ja yt):=by walk_at "s"
theorem YT (F:Fun K "_law_ground" "_law_ground" yt f fd):FnOk P w K mg base CX0 1 f fd ["_law_reaches_here","_law_road"] (QG K):=by
 refine F.ok xT ↥12 ↥0
 ·obtain ⟨p,a,xs,rs,way,rfl,_⟩:=h
  rfl
 ·obtain ⟨p,a,xs,rs,way,rfl,hp,hrw,h100,ha,hin,hwl,k⟩:=h
  have hlen:=hrw.length
  refine ⟨_,(j8 (jA 2 xT.nd (jD j5))
   (j8 (xk bC rfl (qi K (pv 1)) (jm (i:=3) xT.nd rfl (bf rfl)) (jb (xk bC rfl (vx K (jj (jt K) (jj (jf K) (pv 0) (pv 3) (λ_ _=>rfl)) j6 (λ_ _=>rfl))) (jm (i:=4) xT.nd rfl (bf rfl)) (jb (jU (vm K bR bN bO qL (pv 2) (j2 (pv 4) j5)))))))
   (jb (jk (pv 2))))),?_⟩
  left
  refine ⟨aP _,λfo H1 hfo hfo1 s1=>?_⟩
  have ha1:=s1 _ _ ha
  left
  refine ⟨⟨_,SqL.of ha1⟩,Xu (K:=K) (a:=a) (xs:=way.map V.int) (λj σ H2=>∃x y:Option V,σ=[some (.ref p),some (.ref a),some (.ref fo),x,y]/\H2 fo=some (.lst ((jp rs (way.take j)).map V.int))/\Ext fo H1 H2) ⟨_,_,rfl,hfo1,Ext.refl⟩ ?_ ?_ ?_⟩
  ·rintro j σ H2 hj ⟨x,y,rfl,h2,e2⟩
   exact SqL.of (e2 _ _ ha1 (j4 ha hfo))
  ·rintro j v σ H2 hv ⟨x,y,rfl,h2,e2⟩
   obtain ⟨r,rfl⟩:=yW hv
   have hz:way[j]? = some r:=by
    rw [aq] at hv
    cases e:way[j]? with
    | none=>rw [e] at hv;cases hv
    | some y=>rw [e] at hv;cases hv;rfl
   have hj:j<way.length:=(List.getElem?_eq_some_iff.mp hz).1
   have hr:=hin r (ar hz)
   have hi:r.toNat<rs.length:=()
   obtain ⟨v,hv',q,g,rfl,hq,hg⟩:=(hrw.keep ((jw.same s1).trans (jw.lst e2 hfo1))).at (ag hi)
   have hsl:=h100 _ (bW hi)
   have hgl:=uX h100 (way.take j)
   have htl:(way.take j).length<=100:=by rw [b0];omega
   left
   refine ⟨_,_,_,_,rfl,rfl,SqL.of (e2 _ _ (s1 _ _ hp) (j4 hp hfo)),qV hr.1 hv',?_⟩
   refine ⟨_,_,_,_,rfl,rfl,SqT.of hq,rfl,?_⟩
   refine ⟨g,rfl,⟨_,SqT.of hg⟩,Yl (K:=K) (a:=g) (xs:=(rs[r.toNat]'hi).2.map V.int) (λi σ H3=>∃y:Option V,σ=[some (.ref p),some (.ref a),some (.ref fo),some (.int r),y]/\H3 fo=some (.lst ((jp rs (way.take j)++(rs[r.toNat]'hi).2.take i).map V.int))/\Ext fo H2 H3) ⟨_,rfl,?_,Ext.refl⟩ ?_ ?_ ?_⟩
   ·rw [sv,bj];exact h2
   ·rintro i σ H3 hi3 ⟨y,rfl,h3,e3⟩
    exact SqT.of (jw.lst e3 h2 _ _ hg)
   ·rintro i v σ H3 hv3 ⟨y,rfl,h3,e3⟩
    obtain ⟨z,rfl⟩:=yW hv3
    have hz3:(rs[r.toNat]'hi).2[i]? = some z:=by
     rw [aq] at hv3
     cases e:(rs[r.toNat]'hi).2[i]? with
     | none=>rw [e] at hv3;cases hv3
     | some y=>rw [e] at hv3;cases hv3;rfl
    left
    refine ⟨.inl ⟨rfl,_,SqL.of h3⟩,?_⟩
    left
    refine ⟨fo,_,_,rfl,rfl,h3,?_,?_⟩
    ·rw [af,ay,b0]
     exact Gu ()
    ·refine ⟨_,rfl,?_,e3.trans Ext.put⟩
     rw [j7,bL,hz3,<- i0,aF,aF,aF]
     rfl
   ·rintro σ H3 ⟨y,rfl,h3,e3⟩
    refine ⟨_,_,rfl,?_,e2.trans e3⟩
    rw [h3,af,bc,wt rs way j r hz,Q5 (ag hi)]
  ·rintro σ H2 ⟨x,y,rfl,h2,e2⟩
   rw [af,bc] at h2
   left
   exact k fo H2 hfo h2 λc o hc=>e2 _ _ (s1 _ _ hc) (j4 hc hfo)
noncomputable def ZG (Pt C:Addr):Sp:=λvs H Q E=>∃(p:Addr) (xs:List V) (rs:List Rch) (l:Int),vs=[.ref p,.int l]/\H p=some (.lst xs)/\qf H xs rs/\xr rs/\rs.length<=60/\qw H Pt /\
 (∀t H' ws (i:Nat),l=i->i<ws.length->qe rs ws->H' t=some (.tup ((ws.getD i []).map V.int))->Ext Pt H H'->qw H' Pt->Q (.ref t) H')/\∀H',(l<0\/((ju rs).length:Int)<=l)->Ext Pt H H'->qw H' Pt->E (.ref C) none H'
theorem JD:FnScope ["reaches","lane","ways"] ["reaches","lane"] (ja kB):=by walk_at "s"
theorem YB (nb:Nb2 mg) (e_NoLane:mg "NoLane" = some (.ref C)) (x_NoLane:cI K C [.type "ValueError",.type "Exception",.type "BaseException",.type "object"] "ValueError.__new__" = true) (c_lanes:Cal P w K mg base 5 "lanes" ["reaches"] (uB K Pt)) (F:Fun K "way_of" "way_of" kB f fd):FnOk P w K mg base (CX1 P w) 6 f fd ["reaches","lane"] (ZG Pt C):=by
 refine Fun.okX F JD ↥12 ↥0
 ·obtain ⟨p,xs,rs,l,rfl,_⟩:=h
  rfl
 ·obtain ⟨p,xs,rs,l,rfl,hp,hrw,L,h60,hT,k,kx⟩:=h
  refine ⟨_,(j8 (jA 2 JD.nd (je c_lanes (hr.mono ⋯) rfl ↥29))
   (j8 (jF (qt (qS qk wR j6 (pv 1) (jd (ji K) rfl nb.b_len aR ↥89))) (jb (qT bh x_NoLane e_NoLane rfl xI rfl (j2 jc j5))) jo)
   (jb (jk (jj (jf K) (pv 2) (pv 1) (λ_ _=>rfl)))))),?_⟩
  left
  refine ⟨p,xs,rs,rfl,hp,hrw,L,h60,hT,λo H1 out ws ho ho1 hw hR X1 T1=>?_⟩
  have hlen:out.length=ws.length:=hw.length
  have hws:(ws.length:Int)=((ju rs).length:Int):=by rw [hR.length]
  left
  refine qH (λh0=>?_) (λh0=>?_)
  ·left
   refine ⟨_,_,rfl,.inl (SqL.of ho1),?_⟩
   left
   refine xz (λh1=>?_) (λh1=>?_)
   ·left
    exact ⟨by show 1<=sizeLine;decide,kx H1 (.inr ()) X1 T1⟩
   ·have hi:l.toNat<out.length:=()
    obtain ⟨wy,hwy,a,hov,ha⟩:=Paired.get hw (ag hi)
    have el:l=(l.toNat:Int):=()
    left
    refine ⟨_,_,_,_,rfl,rfl,SqL.of ho1,(by rw [el];exact zW (ag hi)),?_⟩
    rw [hov]
    refine k a H1 ws l.toNat el () hR ?_ X1 T1
    rw [ha,ao,hwy]
    rfl
  ·left
   refine zw ?_
   left
   exact ⟨by show 1<=sizeLine;decide,kx H1 (.inl ()) X1 T1⟩
noncomputable def JB (Pt C:Addr):Sp:=λvs H Q E=>∃(p:Addr) (xs:List V) (rs:List Rch) (l:Int),vs=[.ref p,.int l]/\H p=some (.lst xs)/\qf H xs rs/\xr rs/\rs.length<=60/\(∀r∈rs,r.2.length<=100)/\qw H Pt /\
 (∀t H' ws (i:Nat),l=i->i<ws.length->qe rs ws->H t=none->H' t=some (.lst ((jp rs (ws.getD i [])).map V.int))->Ext Pt H H'->qw H' Pt->Q (.ref t) H')/\∀H',(l<0\/((ju rs).length:Int)<=l)->Ext Pt H H'->qw H' Pt->E (.ref C) none H'
theorem XW:FnScope ["reaches","lane"] ["reaches","lane"] (ja vw):=by walk_at "s"
theorem Wm {ws:List (List Int)}(L:xr rs) (h:qe rs ws) {a:Nat}(ha:a<ws.length):(∀r∈ws.getD a [],0<=r/\r<rs.length)/\(ws.getD a []).length<=rs.length:=by
 rw [ao,ag ha]
 obtain ⟨x,hx,e⟩:=h.mem (bW ha)
 show (∀r∈ws[a],_)/\ws[a].length<=_
 rw [e]
 exact ⟨ze L x (xA hx),by have:=uo L x (xA hx);have:=xA hx;omega⟩
theorem yq {l:List Int}{j:Nat}(h:(l.map V.int)[j]? = some v):∃x,v = .int x/\l[j]? = some x:=by
 rw [aq] at h
 cases e:l[j]? with
 | none=>rw [e] at h;cases h
 | some y=>rw [e] at h;cases h;exact ⟨y,rfl,rfl⟩
theorem QY (T:qw H Pt) (e:Ext Pt H H') (T':qw H' Pt) (n:H' a=none):H a=none:=by
 cases q:H a with
 | none=>rfl
 | some o =>
  by_cases z:a=Pt
  ·obtain ⟨ps,h⟩:=T'.ne
   rw [z,h] at n
   cases n
  ·have:=e _ _ q z
   rw [n] at this
   cases this
theorem Zl (nb:Nb2 mg) (c_way_of:CalX P w K mg base 6 "way_of" ["reaches","lane"] (ZG Pt C)) (F:Fun K "heights" "heights" vw f fd):FnOk P w K mg base (CX1 P w) 7 f fd ["reaches","lane"] (JB Pt C):=by
 refine Fun.okX F XW ↥12 ↥0
 ·obtain ⟨p,xs,rs,l,rfl,_⟩:=h
  rfl
 ·obtain ⟨p,xs,rs,l,rfl,hp,hrw,L,h60,h100,hT,k,kx⟩:=h
  refine ⟨_,(jb (jk (Uc (osc:=(ja vw)) (ON:=["reaches","lane"]) (N:=["reach","height","reaches"]) (own:=2) (caps:=[0]) ⟨rfl,∅,∅,∅,rfl,∅⟩ rfl rfl rfl (vx K (zO c_way_of (hr.mono ⋯) xE rfl (j2 (pv 0) ↥71))) (λ_ _ _ _ _=>(jm (i:=0) (show b8 (["reach","height","reaches"]:List Str) by decide +kernel) rfl (bf rfl))) ↥24 (λ_ _ _ _ _=>(vx K (jj (jt K) (jj (jf K) (pv 2) (pv 0) (λ_ _=>rfl)) j6 (λ_ _=>rfl)))) (λ_ _ _ _ _=>(jm (i:=1) (show b8 (["reach","height","reaches"]:List Str) by decide +kernel) rfl (bf rfl))) ↥24 (λ_ _ _ _ _=>(pv 1))))),?_⟩
  obtain ⟨ps,hPt⟩:=hT.ne
  left
  refine ⟨p,xs,rs,l,rfl,hp,hrw,L,h60,hT,λt H1 ws i ei hi hR ht1 X1 T1=>?_,λH1 hbad X1 T1=>kx H1 hbad X1 T1⟩
  have hp1:=X1 _ _ hp (jg hp hPt ↥4)
  have hrw1:qf H1 xs rs:=hrw.keep (jw.tbl X1 hPt)
  obtain ⟨inw,lenw⟩:=Wm L hR hi
  have kk:=λt H'=>k t H' ws i ei hi hR
  generalize ws.getD i []=way at *
  left
  refine ⟨⟨_,SqT.of ht1⟩,λacc hacc=>?_⟩
  refine YZ (K:=K) (a:=t) (xs:=way.map V.int) (acc:=acc) (λj σ H2=>∃x y:Option V,σ=[x,y,some (.ref p)]/\H2 acc=some (.lst ((jp rs (way.take j)).map V.int))/\Ext acc H1 H2) ?_ ?_ ?_ ?_
  ·exact ⟨none,none,rfl,j7,Ext.put⟩
  ·rintro j σ H2 hj ⟨x,y,rfl,h3,e3⟩
   exact SqT.of (e3 _ _ ht1 (j4 ht1 hacc))
  ·rintro j v σ H2 hv ⟨x,y,rfl,h3,e3⟩
   obtain ⟨r,rfl,hr'⟩:=yq hv
   have hin:=inw r (ar hr')
   have hri:r.toNat<rs.length:=()
   obtain ⟨v,hv2,q,g,rfl,hq1,hg1⟩:=hrw1.at (ag hri)
   have hp2:=e3 _ _ hp1 (j4 hp1 hacc)
   have hq:=e3 _ _ hq1 (j4 hq1 hacc)
   have gl:=uX h100 (way.take j)
   have jl:(way.take j).length<=60:=by rw [b0];omega
   have hsn:=wt rs way j r hr'
   have ehs:y7 rs r.toNat=(rs[r.toNat]'hri).2:=by
    unfold y7
    rw [ao,ag hri]
    rfl
   have hl100:=h100 _ (bW hri)
   rw [ehs] at hsn
   generalize (rs[r.toNat]'hri).2=hs at hg1 hsn hl100
   left
   refine ⟨_,_,_,_,rfl,rfl,SqL.of hp2,(by rw [show r=((r.toNat:Nat):Int) by omega];exact zW hv2),?_⟩
   refine ⟨_,_,_,_,rfl,rfl,SqT.of hq,rfl,?_⟩
   refine ⟨g,rfl,⟨_,SqT.of (e3 _ _ hg1 (j4 hg1 hacc))⟩,?_⟩
   refine Go (K:=K) (a:=g) (acc:=acc) (xs:=hs.map V.int) (λn σ H4=>∃y:Option V,σ=[some (.int r),y,some (.ref p)]/\H4 acc=some (.lst ((jp rs (way.take j)++hs.take n).map V.int))/\Ext acc H1 H4) ?_ ?_ ?_ ?_
   ·exact ⟨y,rfl,by rw [sv,bj];exact h3,e3⟩
   ·rintro n σ H4 hn ⟨y,rfl,h4,e4⟩
    exact SqT.of (e4 _ _ hg1 (j4 hg1 hacc))
   ·rintro n v σ H4 hv4 ⟨y,rfl,h4,e4⟩
    obtain ⟨h,rfl,hh⟩:=yq hv4
    have hnl:=(List.getElem?_eq_some_iff.mp hh).1
    left
    refine ⟨_,h4,by rw [af,ay,b0];exact aK (show _<10000 by omega) ⋯,some (.int h),rfl,?_,e4.trans Ext.put⟩
    rw [j7,bL,hh,oq,<- i0,aF (l₁:=jp rs (way.take j)++hs.take n)]
    rfl
   ·rintro σ H4 ⟨y,rfl,h4,e4⟩
    rw [af,bc,<- hsn] at h4
    exact ⟨_,_,rfl,h4,e4⟩
  ·rintro σ H2 ⟨x,y,rfl,h3,e3⟩
   rw [af,bc] at h3
   exact kk acc H2 (QY hT X1 T1 hacc) h3 (λc o hc n=>e3 _ _ (X1 _ _ hc n) (λz=>by rw [z,QY hT X1 T1 hacc] at hc;cases hc)) (T1.extN hacc e3)
noncomputable def xM (va cy sl ye le:Addr):List (Str×V):=jq "leaps" (.ref le) (jq "years" (.ref ye) (jq "slopes" (.ref sl) (jq "cycle" (.ref cy) (jq "valley" (.ref va) []))))
theorem wv (va cy sl ye le:Addr):(xM va cy sl ye le).lookup ("valley" : Str)=some (.ref va):=by
 unfold xM
 rw [js,if_neg ∅,js,if_neg ∅,js,if_neg ∅,js,if_neg ∅,js,if_pos rfl]
theorem yF (va cy sl ye le:Addr):(xM va cy sl ye le).lookup ("cycle" : Str)=some (.ref cy):=by
 unfold xM
 rw [js,if_neg ∅,js,if_neg ∅,js,if_neg ∅,js,if_pos rfl]
theorem xX (va cy sl ye le:Addr):(xM va cy sl ye le).lookup ("slopes" : Str)=some (.ref sl):=by
 unfold xM
 rw [js,if_neg ∅,js,if_neg ∅,js,if_pos rfl]
theorem xm (va cy sl ye le:Addr):(xM va cy sl ye le).lookup ("years" : Str)=some (.ref ye):=by
 unfold xM
 rw [js,if_neg ∅,js,if_pos rfl]
theorem xK (va cy sl ye le:Addr):(xM va cy sl ye le).lookup ("leaps" : Str)=some (.ref le):=by
 unfold xM
 rw [js,if_pos rfl]
theorem Up (va cy sl ye le:Addr) {m:Str}(h1:¬m = "leaps") (h2:¬m = "years") (h3:¬m = "slopes") (h4:¬m = "cycle") (h5:¬m = "valley"):(xM va cy sl ye le).lookup m=none:=by
 unfold xM
 rw [js,if_neg h1,js,if_neg h2,js,if_neg h3,js,if_neg h4,js,if_neg h5]
 rfl
theorem qa {m:Str}(h:(¬m="leaps")/\(¬m="years")/\(¬m="slopes")/\(¬m="cycle")/\¬m="valley"):(xM va cy sl ye le).lookup m=none:=Up _ _ _ _ _ h.1 h.2.1 h.2.2.1 h.2.2.2.1 h.2.2.2.2
structure IceC (K:ah) (C:Addr):Prop where
 cl:Cls K C
 nV:zK K C "valley"
 nC:zK K C "cycle"
 nS:zK K C "slopes"
 nY:zK K C "years"
 nL:zK K C "leaps"
structure IceG where
 dx:Addr
 va:Addr
 cy:Addr
 sl:Addr
 ye:Addr
 le:Addr
 xs:List V
 ys:List V
 zs:List V
 lds:List ↥44
 kvs:List (Key×V)
 rs:List Rch
 rows:List T3
 slopes:List (List Int)
structure IceAt (C:Addr) (H:Hp) (p:Addr) (g:IceG):Prop where
 ob:H p=some (.ins C g.dx (xM g.va g.cy g.sl g.ye g.le))
 va:H g.va=some (.lst g.xs)
 rs:qf H g.xs g.rs
 cy:H g.cy=some (.lst g.ys)
 rows:jH H g.ys g.rows
 sl:H g.sl=some (.lst g.zs)
 slopes:yg H g.zs g.slopes
 ye:H g.ye=some (.dK g.kvs)
 le:H g.le=some (.lst (g.lds.map λx=>V.ref x.1))
 lds:∀x∈g.lds,H x.1=some (.dK x.2)
theorem IceAt.same {p:Addr}{g:IceG}(I:IceAt C H p g) (s:jn H H'):IceAt C H' p g :=
 ⟨s _ _ I.ob,s _ _ I.va,I.rs.keep (jw.same s),s _ _ I.cy,I.rows.imp λ_ _ q=>s _ _ q,s _ _ I.sl,Paired.mapP I.slopes λ_ _ ⟨a,e,q⟩=>⟨a,e,s _ _ q⟩,s _ _ I.ye,s _ _ I.le,λx hx=>s _ _ (I.lds x hx)⟩
theorem Ql (I:IceAt C H p g) {l:Int}(h0:0<=l) (h1:l< ↥18):∃a,atI g.zs l=some (.ref a)/\H a=some (.lst ((g.slopes.getD l.toNat []).map V.int)):=by
 have hz:g.zs.length=g.slopes.length:=aZ I.slopes
 have hi:l.toNat<g.zs.length:=()
 obtain ⟨w,hw,a,e,ha⟩:=Paired.get I.slopes (ag hi)
 refine ⟨a,?_,?_⟩
 ·rw [show l=((l.toNat:Nat):Int) by omega]
  refine zW ?_
  rw [ag hi,e]
 ·rw [ha,ao,hw]
  rfl
theorem Wo {l:List Int}{n:Nat}(h:n<l.length):(l.map V.int)[n]? = some (V.int (l.getD n 0)):=by
 rw [aq,ao,ag h]
 rfl
noncomputable def wW (C:Addr):Sp:=λvs H Q _=>∃(p:Addr) (g:IceG),vs=[.ref p]/\IceAt C H p g/\∀l H',H l=none->H' l=some (.lst g.xs)->jn H H'->Q (.ref l) H'
theorem wD:FnScope ["self"] ["self"] (ja zL):=by walk_at "s"
theorem wI (nb:Nb2 mg) (T:IceC K C) (F:Fun K "reaches" "Ice.reaches" zL f fd):FnOk P w K mg base CX0 1 f fd ["self"] (wW C):=by
 refine F.ok wD ↥12 ↥0
 ·obtain ⟨p,g,rfl,_⟩:=h
  rfl
 ·obtain ⟨p,g,rfl,I,k⟩:=h
  refine ⟨_,(jb (jk (jL (jN K) rfl nb.b_list bo (j2 (jV K (pv 0)) j5)))),?_⟩
  left
  refine ⟨p,C,g.dx,_,_,rfl,I.ob,T.cl,T.nV,wv _ _ _ _ _,?_⟩
  left
  exact ⟨_,_,rfl,.inl (SqL.of I.va),λl H1 hl hl1 s1=>k l H1 hl hl1 s1⟩
noncomputable def Yn (C:Addr):Sp:=λvs H Q _=>∃(p:Addr) (g:IceG),vs=[.ref p]/\IceAt C H p g/\∀l H',H l=none->H' l=some (.lst g.ys)->jn H H'->Q (.ref l) H'
theorem Qg:FnScope ["self"] ["self"] (ja ve):=by walk_at "s"
theorem JZ (nb:Nb2 mg) (T:IceC K C) (F:Fun K "rows" "Ice.rows" ve f fd):FnOk P w K mg base CX0 1 f fd ["self"] (Yn C):=by
 refine F.ok Qg ↥12 ↥0
 ·obtain ⟨p,g,rfl,_⟩:=h
  rfl
 ·obtain ⟨p,g,rfl,I,k⟩:=h
  refine ⟨_,(jb (jk (jL (jN K) rfl nb.b_list bo (j2 (jV K (pv 0)) j5)))),?_⟩
  left
  refine ⟨p,C,g.dx,_,_,rfl,I.ob,T.cl,T.nC,yF _ _ _ _ _,?_⟩
  left
  exact ⟨_,_,rfl,.inl (SqL.of I.cy),λl H1 hl hl1 s1=>k l H1 hl hl1 s1⟩
noncomputable def Y2 (C:Addr):Sp:=λvs H Q _=>∃(p:Addr) (g:IceG),vs=[.ref p]/\IceAt C H p g/\Q (.int g.slopes.length) H
theorem Qe:FnScope ["self"] ["self"] (ja vc):=by walk_at "s"
theorem Q0 (nb:Nb2 mg) (T:IceC K C) (F:Fun K "many" "Ice.many" vc f fd):FnOk P w K mg base CX0 1 f fd ["self"] (Y2 C):=by
 refine F.ok Qe ↥12 ↥0
 ·obtain ⟨p,g,rfl,_⟩:=h
  rfl
 ·obtain ⟨p,g,rfl,I,k⟩:=h
  have hz:g.zs.length=g.slopes.length:=aZ I.slopes
  refine ⟨_,(jb (jk (jd (ji K) rfl nb.b_len aR (j2 (jV K (pv 0)) j5)))),?_⟩
  left
  refine ⟨p,C,g.dx,_,_,rfl,I.ob,T.cl,T.nS,xX _ _ _ _ _,?_⟩
  left
  refine ⟨_,_,rfl,.inl (SqL.of I.sl),?_⟩
  rw [hz]
  exact k
noncomputable def xo (C CN:Addr):Sp:=λvs H Q E=>∃(p:Addr) (g:IceG) (l:Int),vs=[.ref p,.int l]/\IceAt C H p g/\(0<=l->l< ↥18->Q .non H)/\(l<0\/ ↥18<=l->E (.ref CN) none H)
theorem vU:FnScope ["self","lane"] ["self","lane"] (ja xB):=by walk_at "s"
theorem vW (nb:Nb2 mg) (T:IceC K C) (e_NoLane:mg "NoLane" = some (.ref CN)) (x_NoLane:cI K CN [.type "ValueError",.type "Exception",.type "BaseException",.type "object"] "ValueError.__new__" = true) (F:Fun K "check_lane" "Ice.check_lane" xB f fd):FnOk P w K mg base (CX1 P w) 1 f fd ["self","lane"] (xo C CN):=by
 refine Fun.okX F vU ↥12 ↥0
 ·obtain ⟨p,g,l,rfl,_⟩:=h
  rfl
 ·obtain ⟨p,g,l,rfl,I,k,kx⟩:=h
  have hz:g.zs.length=g.slopes.length:=aZ I.slopes
  refine ⟨_,(jb (jF (qt (qS qk wR j6 (pv 1) (jd (ji K) rfl nb.b_len aR (j2 (jV K (pv 0)) j5)))) (jb (qT bh x_NoLane e_NoLane rfl xI rfl (j2 jc j5))) jo)),?_⟩
  left
  refine qH (λh0=>?_) (λh0=>?_)
  ·left
   refine ⟨p,C,g.dx,_,_,rfl,I.ob,T.cl,T.nS,xX _ _ _ _ _,?_⟩
   left
   refine ⟨_,_,rfl,.inl (SqL.of I.sl),?_⟩
   rw [hz]
   left
   refine xz (λh1=>?_) (λh1=>?_)
   ·left
    exact ⟨by show 1<=sizeLine;decide,kx (.inr ())⟩
   ·left
    exact k h0 h1
  ·left
   refine zw ?_
   left
   exact ⟨by show 1<=sizeLine;decide,kx (.inl ())⟩
noncomputable def uC (C CN CP:Addr):Sp:=λvs H Q E=>∃(p:Addr) (g:IceG) (l n:Int),vs=[.ref p,.int l,.int n]/\IceAt C H p g/\(0<=l->l< ↥18->0<=n->n<((g.slopes.getD l.toNat []).length:Int)->Q .non H) /\
 (l<0\/ ↥18<=l->E (.ref CN) none H)/\(0<=l->l< ↥18->(n<0\/((g.slopes.getD l.toNat []).length:Int)<=n)->E (.ref CP) none H)
theorem vJ:FnScope ["self","lane","place"] ["self","lane","place"] (ja xj):=by walk_at "s"
theorem vH (nb:Nb2 mg) (T:IceC K C) (e_NoPlace:mg "NoPlace" = some (.ref CP)) (x_NoPlace:cI K CP [.type "ValueError",.type "Exception",.type "BaseException",.type "object"] "ValueError.__new__" = true) (cl_Ice:Cls K C) (c_Ice__check_lane:CalMX P w K mg base 1 C "check_lane" ["self","lane"] (xo C CN)) (F:Fun K "check_place" "Ice.check_place" xj f fd):FnOk P w K mg base (CX1 P w) 2 f fd ["self","lane","place"] (uC C CN CP):=by
 refine Fun.okX F vJ ↥12 ↥0
 ·obtain ⟨p,g,l,n,rfl,_⟩:=h
  rfl
 ·obtain ⟨p,g,l,n,rfl,I,k,kx,ky⟩:=h
  refine ⟨_,(j8 ↥39
   (jb (jF (qt (qS qk wR j6 (pv 2) (jd (ji K) rfl nb.b_len aR (j2 ↥46 j5)))) (jb (qT bh x_NoPlace e_NoPlace rfl xI rfl (j2 jc j5))) jo))),?_⟩
  left
  refine ⟨p,g.dx,_,rfl,I.ob,qa ∅,?_⟩
  left
  refine ⟨p,g,l,rfl,I,λl0 l1=>?_,λhb=>kx hb⟩
  obtain ⟨a,ha,hla⟩:=Ql I l0 l1
  left
  refine qH (λh0=>?_) (λh0=>?_)
  ·left
   refine ⟨p,C,g.dx,_,_,rfl,I.ob,T.cl,T.nS,xX _ _ _ _ _,?_⟩
   left
   refine ⟨_,_,_,_,rfl,rfl,SqL.of I.sl,ha,?_⟩
   left
   refine ⟨_,_,rfl,.inl (SqL.of hla),?_⟩
   rw [af]
   left
   refine xz (λh1=>?_) (λh1=>?_)
   ·left
    exact ⟨by show 1<=sizeLine;decide,ky l0 l1 (.inr ())⟩
   ·left
    exact k l0 l1 h0 h1
  ·left
   refine zw ?_
   left
   exact ⟨by show 1<=sizeLine;decide,ky l0 l1 (.inl ())⟩
noncomputable def Jb (C CN:Addr):Sp:=λvs H Q E=>∃(p:Addr) (g:IceG) (l:Int),vs=[.ref p,.int l]/\IceAt C H p g/\(0<=l->l< ↥18->Q (.int ((g.slopes.getD l.toNat []).length:Int)) H)/\(l<0\/ ↥18<=l->E (.ref CN) none H)
theorem ki:FnScope ["self","lane"] ["self","lane"] (ja y8):=by walk_at "s"
theorem hV (nb:Nb2 mg) (T:IceC K C) (cl_Ice:Cls K C) (c_Ice__check_lane:CalMX P w K mg base 1 C "check_lane" ["self","lane"] (xo C CN)) (F:Fun K "length" "Ice.length" y8 f fd):FnOk P w K mg base (CX1 P w) 2 f fd ["self","lane"] (Jb C CN):=by
 refine Fun.okX F ki ↥12 ↥0
 ·obtain ⟨p,g,l,rfl,_⟩:=h
  rfl
 ·obtain ⟨p,g,l,rfl,I,k,kx⟩:=h
  refine ⟨_,(j8 ↥39
   (jb (jk (jd (ji K) rfl nb.b_len aR (j2 ↥46 j5))))),?_⟩
  left
  refine ⟨p,g.dx,_,rfl,I.ob,qa ∅,?_⟩
  left
  refine ⟨p,g,l,rfl,I,λl0 l1=>?_,λhb=>kx hb⟩
  obtain ⟨a,ha,hla⟩:=Ql I l0 l1
  left
  refine ⟨p,C,g.dx,_,_,rfl,I.ob,T.cl,T.nS,xX _ _ _ _ _,?_⟩
  left
  refine ⟨_,_,_,_,rfl,rfl,SqL.of I.sl,ha,?_⟩
  left
  refine ⟨_,_,rfl,.inl (SqL.of hla),?_⟩
  rw [af]
  exact k l0 l1
noncomputable def Jj (C CN CP:Addr):Sp:=λvs H Q E=>∃(p:Addr) (g:IceG) (l n:Int),vs=[.ref p,.int l,.int n]/\IceAt C H p g/\(0<=l->l< ↥18->0<=n->n<((g.slopes.getD l.toNat []).length:Int)->Q (.int ((g.slopes.getD l.toNat []).getD n.toNat 0)) H) /\
 (l<0\/ ↥18<=l->E (.ref CN) none H)/\(0<=l->l< ↥18->(n<0\/((g.slopes.getD l.toNat []).length:Int)<=n)->E (.ref CP) none H)
theorem kM:FnScope ["self","lane","place"] ["self","lane","place"] (ja y9):=by walk_at "s"
theorem kC (nb:Nb2 mg) (T:IceC K C) (cl_Ice:Cls K C) (c_Ice__check_place:CalMX P w K mg base 2 C "check_place" ["self","lane","place"] (uC C CN CP)) (F:Fun K "height" "Ice.height" y9 f fd):FnOk P w K mg base (CX1 P w) 3 f fd ["self","lane","place"] (Jj C CN CP):=by
 refine Fun.okX F kM ↥12 ↥0
 ·obtain ⟨p,g,l,n,rfl,_⟩:=h
  rfl
 ·obtain ⟨p,g,l,n,rfl,I,k,kx,ky⟩:=h
  refine ⟨_,(j8 (jU (zf (pv 0) cl_Ice c_Ice__check_place (hr.mono ⋯) xE (j2 (pv 1) ↥89)))
   (jb (jk (jj (jf K) ↥46 (pv 2) (λ_ _=>rfl))))),?_⟩
  left
  refine ⟨p,g.dx,_,rfl,I.ob,qa ∅,?_⟩
  left
  refine ⟨p,g,l,n,rfl,I,λl0 l1 n0 n1=>?_,λhb=>kx hb,λl0 l1 hb=>ky l0 l1 hb⟩
  obtain ⟨a,ha,hla⟩:=Ql I l0 l1
  left
  refine ⟨p,C,g.dx,_,_,rfl,I.ob,T.cl,T.nS,xX _ _ _ _ _,?_⟩
  left
  refine ⟨_,_,_,_,rfl,rfl,SqL.of I.sl,ha,?_⟩
  left
  refine ⟨_,_,_,_,rfl,rfl,SqL.of hla,(by rw [show n=((n.toNat:Nat):Int) by omega];exact zW (Wo ())),?_⟩
  exact k l0 l1 n0 n1
noncomputable def yo (CR:Addr):Sp:=λvs H Q E=>∃(p:Addr) (xs:List V) (ts:List T3),vs=[.ref p]/\H p=some (.lst xs)/\jH H xs ts/\ts.length<=1000/\(∀H',gr ts=true->jn H H'->Q .non H')/\∀H',gr ts=false->jn H H'->E (.ref CR) none H'
theorem wT:FnScope ["rows"] ["rows"] (ja ya):=by walk_at "s"
theorem hX {CR:Addr}(nb:Nb2 mg) (e_BadRound:mg "BadRound" = some (.ref CR)) (x_BadRound:cI K CR [.type "ValueError",.type "Exception",.type "BaseException",.type "object"] "ValueError.__new__" = true) (c_is_round:Cal P w K mg base 2 "is_round" ["rows"] (Yg K)) (F:Fun K "check_round" "check_round" ya f fd):FnOk P w K mg base (CX1 P w) 3 f fd ["rows"] (yo CR):=by
 refine Fun.okX F wT ↥12 ↥0
 ·obtain ⟨p,xs,ts,rfl,_⟩:=h
  rfl
 ·obtain ⟨p,xs,ts,rfl,hp,hr3,h1000,k,kx⟩:=h
  refine ⟨_,(jb (jF (qt (qU (je c_is_round (hr.mono ⋯) rfl ↥29))) (jb (qT bh x_BadRound e_BadRound rfl xI rfl (j2 jc j5))) jo)),?_⟩
  left
  refine ⟨p,xs,ts,rfl,hp,hr3,h1000,λH1 s1=>?_⟩
  cases e:gr ts with
  | true =>
   left
   exact k H1 e s1
  | false =>
   left
   exact ⟨by show 1<=sizeLine;decide,kx H1 e s1⟩
noncomputable def Kp (p Pt:Addr) (H H':Hp):Prop:=∀c o,H c=some o->c≠p->c≠Pt->H' c=some o
theorem Kp.trans {p:Addr}(a:Kp p Pt H H1) (b:Kp p Pt H1 H2):Kp p Pt H H2:=λc o h n m=>b c o (a c o h n m) n m
theorem Kp.of_same {p:Addr}(s:jn H H'):Kp p Pt H H':=λc o h _ _=>s c o h
theorem Kp.of_ext {p:Addr}(s:Ext Pt H H'):Kp p Pt H H':=λc o h _ m=>s c o h m
theorem Kp.put {p:Addr}:Kp p Pt H (upd H p o):=λc _ h n _=>by rw [j9 n];exact h
theorem Kp.at {p:Addr}(k:Kp p Pt H H') (h:H a=some o) (hp:H p=some u) (hPt:H Pt=some (.tbl ps)) (n:o≠u) (m:o≠.tbl ps):H' a=some o:=k _ _ h (jg h hp n) (jg h hPt m)
theorem Kp.free {p:Addr}(k:Kp p Pt H H') (h:H' a=none) (hp:H' p=some u) (hPt:H' Pt=some u'):H a=none:=by
 cases e:H a with
 | none=>rfl
 | some o =>
  have:=k a o e (λz=>by rw [z,hp] at h;cases h) (λz=>by rw [z,hPt] at h;cases h)
  rw [h] at this
  cases this
theorem yL {fs:List (Str×V)}(T:qw H Pt) (hp:H p=some (.ins C dx fs)):qw (upd H p o) Pt:=by
 rcases T with h | ⟨c,h,h'⟩
 ·exact .inl (by rw [j9 (jg h hp ↥4)];exact h)
 ·exact .inr ⟨c,by rw [j9 (jg h hp ↥4)];exact h,by rw [j9 (jg h' hp ↥4)];exact h'⟩
theorem jw.kp {p dx:Addr}{fs:List (Str×V)}(k:Kp p Pt H H') (hp:H p=some (.ins C dx fs)) (hPt:H Pt=some (.tbl ps)):jw H H':=λ_ _ h=>k.at h hp hPt ↥4 ↥4
theorem pm {α β:Type}{F:α->β->Prop}:∀{l₁:List α}{l₂:List β},d8 F l₁ l₂->∀v∈l₁,∃w,F v w
 | _,_,.nil,v,h=>by cases h
 | _,_,.cons q r,v,h=>by
  rcases List.mem_cons.mp h with rfl | z
  ·exact ⟨_,q⟩
  ·exact pm r v z
theorem pmE {H H0:Hp}{a0:Addr}(r:d8 (λv (w:List Int)=>∃a,v=V.ref a/\H a=some (.lst (w.map V.int))/\H0 a=none/\a≠a0) zs rows):∀a,V.ref a∈zs->H0 a=none/\a≠a0:=λa h=>by
 obtain ⟨w,b,e,_,z⟩:=pm r _ h
 cases e
 exact z
structure IceNew (C Pt:Addr) (H H':Hp) (p:Addr) (g:IceG):Prop where
 at_:IceAt C H' p g
 keep:∀c o,H c=some o->c≠p->c≠Pt->H' c=some o
 va:H g.va=none
 cy:H g.cy=none
 sl:H g.sl=none
 ye:H g.ye=none
 le:H g.le=none
 zs:∀a,V.ref a∈g.zs->H a=none
 kvs:g.kvs=[]
 lds:∀x∈g.lds,H x.1=none/\x.2=[]
 ll:g.lds.length=g.slopes.length
 nd:(g.lds.map (·.1)).Nodup
 ny:∀x∈g.lds,x.1≠g.ye
 sl2:∃ws,qe g.rs ws/\g.slopes=ws.map (jp g.rs)
noncomputable def Z9 (C CV CR Pt:Addr):Sp:=λvs H Q E=>∃(p dx r q:Addr) (xs ys:List V) (rs:List Rch) (ts:List T3),vs=[.ref p,.ref r,.ref q]/\H p=some (.ins C dx [])/\H r=some (.lst xs)/\qf H xs rs/\H q=some (.lst ys)/\jH H ys ts/\(∀r∈rs,r.2.length<=100)/\rs.length<=60/\ts.length<=1000/\qw H Pt /\
 (∀H' g,zm rs=true->gr ts=true->IceNew C Pt H H' p g->g.rs=rs->g.rows=ts->g.xs=xs->g.ys=ys->qw H' Pt->Q .non H') /\
 (∀H',zm rs=false->Ext Pt H H'->qw H' Pt->E (.ref CV) none H')/\(∀H',zm rs=true->gr ts=false->Ext Pt H H'->qw H' Pt->E (.ref CR) none H')
theorem uO:FnScope ["self","reaches","rows"] ["self","reaches","rows"] (ja qN):=by walk_at "s"
theorem uZ {f CR CN Pt:Addr}{fd:FuncData}(nb:Nb2 mg) (T:IceC K C) (e_BadValley:mg "BadValley" = some (.ref CV)) (x_BadValley:cI K CV [.type "ValueError",.type "Exception",.type "BaseException",.type "object"] "ValueError.__new__" = true)
  (c_is_valley:Cal P w K mg base 6 "is_valley" ["reaches"] (Xq K Pt)) (c_check_round:CalX P w K mg base 3 "check_round" ["rows"] (yo CR)) (c_lanes:Cal P w K mg base 5 "lanes" ["reaches"] (uB K Pt)) (c_heights:Cal P w K mg base 7 "heights" ["reaches","lane"] (λvs H Q _=>JB Pt CN vs H Q E0))
  (F:Fun K "__init__" "Ice.__init__" qN f fd):FnOk P w K mg base (CX1 P w) 8 f fd ["self","reaches","rows"] (Z9 C CV CR Pt):=by
 refine Fun.okX F uO ↥12 ↥0
 ·obtain ⟨p,dx,r,q,xs,ys,rs,ts,rfl,_⟩:=h
  rfl
 ·obtain ⟨p,dx,r,q,xs,ys,rs,ts,rfl,hp,hr',hrw,hq,hr3,h100,h60,h1000,hT,k,kv,kr⟩:=h
  obtain ⟨ps,hPt⟩:=hT.ne
  refine ⟨_,(j8 (jF (qt (qU (je c_is_valley (hr.mono ⋯) rfl ↥71))) (jb (qT bh x_BadValley e_BadValley rfl xI rfl (j2 jc j5))) jo)
   (j8 (jU (zO c_check_round (hr.mono ⋯) xE rfl ↥89))
   (j8 (zU K (pv 0) (jL (jN K) rfl nb.b_list bo ↥71))
   (j8 (zU K (pv 0) (jL (jN K) rfl nb.b_list bo ↥89))
   (j8 (zU K (pv 0) (jX (osc:=(ja qN)) (ON:=["self","reaches","rows"]) (N:=["lane","reaches"]) (own:=1) (caps:=[1]) ⟨rfl,∅,∅,∅,rfl,∅⟩ rfl rfl rfl (qI rfl nb.b_range (j2 (jd (ji K) rfl nb.b_len aR (j2 (je c_lanes (hr.mono ⋯) rfl ↥71) j5)) j5)) (λ_ _ _ _ _=>(jm (i:=0) (show b8 (["lane","reaches"]:List Str) by decide +kernel) rfl (bf rfl))) ↥24 (λ_ _ _ _ _=>(je c_heights (hr.mono ⋯) rfl (j2 (pv 1) ↥29)))))
   (j8 (zU K (pv 0) ur)
   (jb (zU K (pv 0) (jX (osc:=(ja qN)) (ON:=["self","reaches","rows"]) (N:=["slope"]) (own:=1) (caps:=[]) ⟨rfl,∅,∅,∅,rfl,∅⟩ rfl rfl rfl (qi K (jV K (pv 0))) (λ_ _ _ _ _=>(jm (i:=0) (show b8 (["slope"]:List Str) by decide +kernel) rfl (bf rfl))) ↥24 (λ_ _ _ _ _=>ur)))))))))),?_⟩
  left
  refine ⟨r,xs,rs,rfl,hr',hrw,h100,h60,hT,λH1 X1 T1=>?_⟩
  cases eg:zm rs with
  | false =>
   left
   exact ⟨by show 1<=sizeLine;decide,kv H1 eg X1 T1⟩
  | true =>
   have X1':∀{a:Addr} {o:HO},H a=some o->(∀ps,o≠.tbl ps)->H1 a=some o:=λ{a o} h n=>X1 _ _ h (jg h hPt (n _))
   have hp1:=X1' hp ↥1
   have hr1:=X1' hr' ↥1
   have hq1:=X1' hq ↥1
   have hrw1:qf H1 xs rs:=hrw.keep (jw.tbl X1 hPt)
   have hr31:jH H1 ys ts:=hr3.imp λa t e=>X1' e ↥1
   left
   refine ⟨q,ys,ts,rfl,hq1,hr31,h1000,λH2 egr s2=>?_,λH2 egr s2=>kr H2 eg egr (X1.trans (Ext.of_same s2)) (T1.same s2)⟩
   have L:xr rs:=qp (by unfold zm at eg;rw [b9,b9] at eg;exact eg.2.1)
   have k2:Kp p Pt H H2:=(Kp.of_ext X1).trans (Kp.of_same s2)
   have hp2:=s2 _ _ hp1
   have T2:=T1.same s2
   left
   refine ⟨_,_,rfl,.inl (SqL.of (s2 _ _ hr1)),λva H3 va2 va3 s3=>?_⟩
   have hp3:=s3 _ _ hp2
   have T3':=T2.same s3
   have k3:=k2.trans (Kp.of_same s3)
   obtain ⟨_,hPt2⟩:=T2.ne
   have va0:=k2.free va2 hp2 hPt2
   left
   refine ⟨p,C,dx,_,rfl,hp3,T.cl,T.nV,⋯,?_⟩
   have Ta:qw (upd H3 p (HO.ins C dx (jq "valley" (V.ref va) []))) Pt:=yL T3' hp3
   have ka:=k3.trans (Kp.put (p:=p) (Pt:=Pt) (o:=HO.ins C dx (jq "valley" (V.ref va) [])))
   have pa:upd H3 p (HO.ins C dx (jq "valley" (V.ref va) [])) p=some (HO.ins C dx (jq "valley" (V.ref va) [])):=j7
   have vaa:upd H3 p (HO.ins C dx (jq "valley" (V.ref va) [])) va=some (HO.lst xs):=by rw [j9 (j4 hp2 va2).symm];exact va3
   clear k2 k3 hp1 hr1 hq1 hrw1 hr31 X1' X1 T1 s2 hp2 T2 s3 hp3 T3' va3 va2 hPt2
   generalize upd H3 p (HO.ins C dx (jq "valley" (V.ref va) []))=Ha at *
   obtain ⟨_,hPta⟩:=Ta.ne
   have vaP:va≠Pt:=jg vaa hPta ↥4
   have vap:va≠p:=jg vaa pa ↥4
   left
   refine ⟨_,_,rfl,.inl (SqL.of (ka.at hq hp hPt ↥4 ↥4)),λcy H4 cya cy4 s4=>?_⟩
   have hp4:=s4 _ _ pa
   have T4:=Ta.same s4
   have cy0:=ka.free cya pa hPta
   left
   refine ⟨p,C,dx,_,rfl,hp4,T.cl,T.nC,c8 (qj _ _ _) ⋯,?_⟩
   have kb:=(ka.trans (Kp.of_same s4)).trans (Kp.put (p:=p) (Pt:=Pt) (o:=HO.ins C dx (jq "cycle" (V.ref cy) (jq "valley" (V.ref va) []))))
   have Tb:qw (upd H4 p ↥32) Pt:=yL T4 hp4
   have pb:upd H4 p ↥32 p=some ↥32:=j7
   have vab:upd H4 p ↥32 va=some (HO.lst xs):=by rw [j9 vap];exact s4 _ _ vaa
   have cyb:upd H4 p ↥32 cy=some (HO.lst ys):=by rw [j9 (j4 pa cya).symm];exact cy4
   clear ka Ta pa vaa s4 hp4 T4 cya cy4 hPta
   generalize upd H4 p ↥32=Hb at *
   obtain ⟨_,hPtb⟩:=Tb.ne
   have cyP:cy≠Pt:=jg cyb hPtb ↥4
   have cyp:cy≠p:=jg cyb pb ↥4
   have pP:p≠Pt:=jg pb hPtb ↥4
   left
   refine ⟨r,xs,rs,rfl,kb.at hr' hp hPt ↥4 ↥4,hrw.keep (jw.kp kb hp hPt),L,h60,Tb,λo H5 out ws ho ho5 hw hR X5 T5=>?_⟩
   left
   refine ⟨_,_,rfl,.inl (SqL.of ho5),?_⟩
   have hlen:out.length=ws.length:=hw.length
   have hws:ws.length<=60:=by
    rw [hR.length]
    unfold ju
    exact aE (bI _ _) (by rw [c5];exact h60)
   refine ⟨(out.length:Int),rfl,(),(),λacc hacc=>?_⟩
   obtain ⟨_,hPt5⟩:=T5.ne
   have kb5:Kp p Pt H H5:=kb.trans (Kp.of_ext X5)
   have hp5:=X5 _ _ pb pP
   have va5:=X5 _ _ vab vaP
   have cy5:=X5 _ _ cyb cyP
   have hr5:H5 r=some (.lst xs):=kb5.at hr' hp hPt ↥4 ↥4
   have hrw5:qf H5 xs rs:=hrw.keep (jw.kp kb5 hp hPt)
   have accP:Pt≠acc:=j4 hPt5 hacc
   refine xi (lo:=0) (n:=((out.length:Int)).toNat) (acc:=acc) (λi σ H6=>∃(x:Option V) (zs:List V),σ=[x,some (.ref r)]/\H6 acc=some (.lst zs)/\zs.length=i/\d8 (λv (w:List Int)=>∃a,v=V.ref a/\H6 a=some (.lst (w.map V.int))/\H5 a=none/\a≠acc) zs ((ws.take i).map (jp rs))/\Kp acc Pt H5 H6/\qw H6 Pt) ?_ ?_ ?_
   ·exact ⟨none,[],rfl,j7,rfl,.nil,Kp.put,T5.extN hacc Ext.put⟩
   ·rintro i σ H6 hi ⟨x,zs,rfl,h6,hz,r6,k6,T6⟩
    obtain ⟨_,hPt6⟩:=T6.ne
    have iw:i<ws.length:=()
    left
    refine ⟨r,xs,rs,_,rfl,k6 _ _ hr5 (j4 hr5 hacc) (jg hr5 hPt5 ↥4),hrw5.keep (λa o h=>k6 _ _ h (j4 h hacc) (jg h hPt5 ↥4)),L,h60,h100,T6,λt H7 ws' i' ei hi' hR' ht ht7 X7 T7=>?_,λH' hb _ _=>?_⟩
    ·obtain rfl:=hR.unique hR'
     obtain rfl:i'=i:=()
     have h7:=X7 _ _ h6 accP.symm
     have ta:t≠acc:=(j4 h6 ht).symm
     have tP:t≠Pt:=(j4 hPt6 ht).symm
     refine ⟨zs,h7,jh (),some (.int (0+(i':Int))),zs++[.ref t],rfl,j7,by rw [ay,hz];rfl,?_,?_,?_⟩
     ·rw [qA (jp rs) ws i' (ws.getD i' []) (by rw [ao,ag iw];rfl)]
      refine cE (Paired.mapP r6 λv wy ⟨a,e,ha,h0,na⟩=>⟨a,e,?_,h0,na⟩) ⟨t,rfl,by rw [j9 ta];exact ht7,k6.free ht h6 hPt6,ta⟩
      rw [j9 na]
      exact X7 _ _ ha (jg ha hPt6 ↥4)
     ·exact (k6.trans (Kp.of_ext X7)).trans Kp.put
     ·exact T7.ext h7 Ext.put
    ·have:=hR.length
     exact absurd hb ()
   ·rintro σ H6 ⟨x,zs,rfl,h6,hz,r6,k6,T6⟩
    rw [bz,hlen,bc] at r6
    have f6:=pmE r6
    have hp6:=k6 _ _ hp5 (j4 hp5 hacc) pP
    have kc:Kp p Pt H (upd H6 p (HO.ins C dx ↥3)):=λc o h n m=>by
     rw [j9 n]
     have:=kb5 c o h n m
     exact k6 _ _ this (j4 this hacc) m
    have acp:acc≠p:=(j4 hp5 hacc).symm
    have acc0:=kb5.free hacc hp5 hPt5
    have zs0:∀a,V.ref a∈zs->H a=none:=λa z=>kb5.free (f6 a z).1 hp5 hPt5
    left
    refine ⟨p,C,dx,_,rfl,hp6,T.cl,T.nS,c8 (aE (qj _ _ _) (dj (qj _ _ _))) ⋯,?_⟩
    have Tc:qw (upd H6 p (HO.ins C dx ↥3)) Pt:=yL T6 hp6
    have pc:upd H6 p (HO.ins C dx ↥3) p=some (HO.ins C dx ↥3):=j7
    have vac:upd H6 p (HO.ins C dx ↥3) va=some (HO.lst xs):=by rw [j9 vap];exact k6 _ _ va5 (j4 va5 hacc) vaP
    have cyc:upd H6 p (HO.ins C dx ↥3) cy=some (HO.lst ys):=by rw [j9 cyp];exact k6 _ _ cy5 (j4 cy5 hacc) cyP
    have slc:upd H6 p (HO.ins C dx ↥3) acc=some (HO.lst zs):=by rw [j9 acp];exact h6
    have slsc:yg (upd H6 p (HO.ins C dx ↥3)) zs (ws.map (jp rs)):=Paired.mapP r6 λv wy ⟨a,e,ha,h0,na⟩=>⟨a,e,by rw [j9 (j4 hp5 h0).symm];exact ha⟩
    clear r6 f6 k6 T6 h6 hp6 kb5 hp5 va5 cy5 hr5 hrw5 X5 T5 kb Tb pb vab cyb hPtb accP hacc ho ho5 hw hPt5
    generalize upd H6 p (HO.ins C dx ↥3)=Hc at *
    left
    intro ye hye
    obtain ⟨_,hPtc⟩:=Tc.ne
    have ye0:=kc.free hye pc hPtc
    have yep:ye≠p:=(j4 pc hye).symm
    have s9:jn Hc (upd Hc ye (.dK [])):=jn.new hye
    left
    refine ⟨p,C,dx,_,rfl,s9 _ _ pc,T.cl,T.nY,c8 (aE (qj _ _ _) (dj (aE (qj _ _ _) (dj (qj _ _ _))))) ⋯,?_⟩
    have d_of:∀c o,Hc c=some o->c≠p->↥20 c=some o:=λc o h n=>by rw [j9 n];exact s9 _ _ h
    have kd:Kp p Pt H ↥20:=(kc.trans (Kp.of_same s9)).trans Kp.put
    have Td:qw ↥20 Pt:=yL (Tc.same s9) (s9 _ _ pc)
    have pd: ↥20 p=some (HO.ins C dx (jq "years" (V.ref ye) ↥3)):=j7
    have vad:=d_of _ _ vac vap
    have cyd:=d_of _ _ cyc cyp
    have sld:=d_of _ _ slc acp
    have yed: ↥20 ye=some (.dK []):=by rw [j9 yep];exact j7
    have slsd:yg ↥20 zs (ws.map (jp rs)):=Paired.mapP slsc λv wy ⟨a,e,ha⟩=>⟨a,e,d_of _ _ ha (jg ha pc ↥4)⟩
    clear d_of kc Tc pc vac cyc slc slsc hye hPtc s9
    generalize ↥20=Hd at *
    obtain ⟨_,hPtd⟩:=Td.ne
    left
    refine ⟨p,C,dx,_,_,rfl,pd,T.cl,T.nS,(by rw [js,if_neg ∅,js,if_pos rfl]),?_⟩
    left
    refine ⟨⟨_,SqL.of sld⟩,λle hle=>?_⟩
    have lep:le≠p:=(j4 pd hle).symm
    have le0:=kd.free hle pd hPtd
    have zl:zs.length<=60:=()
    refine jT (K:=K) (a:=acc) (xs:=zs) (acc:=le) (λi σ He=>∃(x:Option V) (lds:List ↥44),σ=[x]/\He le=some (.lst (lds.map λx=>V.ref x.1))/\lds.length=i/\(∀x∈lds,He x.1=some (.dK x.2)/\x.2=[]/\Hd x.1=none/\x.1≠le)/\(lds.map (·.1)).Nodup/\Ext le Hd He) ?_ ?_ ?_ ?_
    ·exact ⟨none,[],rfl,j7,rfl,(λx z=>by cases z),l9,Ext.put⟩
    ·rintro i σ He hi ⟨x,lds,rfl,he,hl,hd,nn,e⟩
     exact SqL.of (e _ _ sld (j4 sld hle))
    ·rintro i v σ He hv ⟨x,lds,rfl,he,hl,hd,nn,e⟩
     have hi:=(List.getElem?_eq_some_iff.mp hv).1
     left
     intro d hd0
     have dl:d≠le:=(j4 he hd0).symm
     refine ⟨_,(by rw [j9 (cG dl)];exact he),by rw [af];exact jh (),some v,lds++[(d,[])],rfl,(by rw [j7,aF];rfl),(by rw [ay,hl];rfl),λy hy=>?_,?_,λc o hc n=>?_⟩
     ·rcases List.mem_append.mp hy with z | z
      ·obtain ⟨h1,h2,h3,h4⟩:=hd y z
       exact ⟨by rw [j9 h4,j9 (j4 h1 hd0)];exact h1,h2,h3,h4⟩
      ·obtain rfl:y=(d,[]):=by simpa using z
       exact ⟨by rw [j9 dl];exact j7,rfl,e.free hd0 dl,dl⟩
     ·rw [aF]
      refine vE nn λz=>?_
      obtain ⟨y,hy,ey⟩:=List.mem_map.mp z
      have:=(hd y hy).1
      rw [ey,hd0] at this
      cases this
     ·rw [j9 n,j9 (j4 (e c o hc n) hd0)]
      exact e c o hc n
    ·rintro σ He ⟨x,lds,rfl,he,hl,hd,nn,e⟩
     have hpe:=e _ _ pd (j4 pd hle)
     left
     refine ⟨p,C,dx,_,rfl,hpe,T.cl,T.nL,c8 (aE (qj _ _ _) (dj (aE (qj _ _ _) (dj (aE (qj _ _ _) (dj (qj _ _ _))))))) ⋯,?_⟩
     have f_of:∀c o,Hd c=some o->c≠p->upd He p (HO.ins C dx (jq "leaps" (V.ref le) (jq "years" (V.ref ye) ↥3))) c=some o:=λc o h n=>by rw [j9 n];exact e _ _ h (j4 h hle)
     have kf:Kp p Pt H (upd He p (HO.ins C dx (jq "leaps" (V.ref le) (jq "years" (V.ref ye) ↥3)))):=λc o h n m=>f_of c o (kd c o h n m) n
     have hnp:∀x∈lds,x.1≠p:=λx hx=>(j4 pd (hd x hx).2.2.1).symm
     refine k _ { dx:=dx,va:=va,cy:=cy,sl:=acc,ye:=ye,le:=le,xs:=xs,ys:=ys,zs:=zs,lds:=lds,kvs:=[],rs:=rs,rows:=ts,slopes:=ws.map (jp rs) } eg egr ⟨⟨j7,f_of _ _ vad vap,hrw.keep (jw.kp kf hp hPt),f_of _ _ cyd cyp,hr3.imp λa t e=>kf.at e hp hPt ↥4 ↥4,f_of _ _ sld acp,Paired.mapP slsd λv wy ⟨a,e,ha⟩=>⟨a,e,f_of _ _ ha (jg ha pd ↥4)⟩,f_of _ _ yed yep,(by rw [j9 lep];exact he),λx hx=>by rw [j9 (hnp x hx)];exact (hd x hx).1⟩,kf,va0,cy0,acc0,ye0,le0,zs0,rfl,λx hx=>⟨kd.free (hd x hx).2.2.1 pd hPtd,(hd x hx).2.1⟩,hl.trans (aZ slsd),nn,λx hx=>(j4 yed (hd x hx).2.2.1).symm,ws,hR,rfl⟩ rfl rfl rfl rfl (yL (Td.extN hle e) hpe)
noncomputable def xW (CY:Addr):Sp:=λvs H Q E=>∃y:Int,vs=[.int y]/\(0<=y->y<=99->Q .non H)/\(y<0\/99<y->E (.ref CY) none H)
theorem gK:FnScope ["year"] ["year"] (ja yx):=by walk_at "s"
theorem gP (g_LAST_TOLD:mg "LAST_TOLD" = some (.int 99 u0)) (e_BadYear:mg "BadYear" = some (.ref CY)) (x_BadYear:cI K CY [.type "ValueError",.type "Exception",.type "BaseException",.type "object"] "ValueError.__new__" = true) (F:Fun K "check_told" "check_told" yx f fd):FnOk P w K mg base (CX1 P w) 1 f fd ["year"] (xW CY):=by
 refine Fun.okX F gK ↥12 ↥0
 ·obtain ⟨y,rfl,_⟩:=h
  rfl
 ·obtain ⟨y,rfl,k,kx⟩:=h
  refine ⟨_,(jb (jF (qt (qS qk qk j6 (pv 0) (jM (v:=V.int 99) rfl g_LAST_TOLD ⟨_,rfl⟩))) (jb (qT bh x_BadYear e_BadYear rfl xI rfl (j2 jc j5))) jo)),?_⟩
  left
  refine qH (λh0=>?_) (λh0=>?_)
  ·left
   refine xz (λh1=>?_) (λh1=>?_)
   ·left
    exact ⟨by show 1<=sizeLine;decide,kx (.inr ())⟩
   ·left
    exact k h0 h1
  ·left
   refine zw ?_
   left
   exact ⟨by show 1<=sizeLine;decide,kx (.inl ())⟩
theorem IceAt.years {p:Addr}{g:IceG}{kvs:List (Key×V)}(I:IceAt C H p g) (hn:∀x∈g.lds,x.1≠g.ye) (e:Ext g.ye H H') (h:H' g.ye=some (.dK kvs)):IceAt C H' p { g with kvs:=kvs }:=by
 have f:∀{c:Addr} {o:HO},H c=some o->o≠.dK g.kvs->H' c=some o:=λh n=>e _ _ h (jg h I.ye n)
 exact ⟨f I.ob ↥4,f I.va ↥4,I.rs.keep λ_ _ q=>f q ↥4,f I.cy ↥4,I.rows.imp λ_ _ q=>f q ↥4,f I.sl ↥4,Paired.mapP I.slopes λv w ⟨a,ea,q⟩=>⟨a,ea,f q ↥4⟩,h,f I.le ↥4,λx hx=>e _ _ (I.lds x hx) (hn x hx)⟩
noncomputable def Zs (C CY CW:Addr):Sp:=λvs H Q E=>∃(p t:Addr) (g:IceG) (y:Int) (r:T3),vs=[.ref p,.int y,.ref t]/\IceAt C H p g/\(∀x∈g.lds,x.1≠g.ye)/\H t=some (zM r)/\g.kvs.length<=1000 /\
 (∀H',0<=y->y<=99->good r=true->Ext g.ye H H'->IceAt C H' p { g with kvs:=qu g.kvs (.inl y) (.ref t) }->Q .non H')/\(y<0\/99<y->E (.ref CY) none H)/\(0<=y->y<=99->good r=false->E (.ref CW) none H)
theorem Q4:FnScope ["self","year","row"] ["self","year","row"] (ja yX):=by walk_at "s"
theorem Qc (nb:Nb2 mg) (T:IceC K C) (e_BadWeather:mg "BadWeather" = some (.ref CW)) (x_BadWeather:cI K CW [.type "ValueError",.type "Exception",.type "BaseException",.type "object"] "ValueError.__new__" = true) (c_check_told:CalX P w K mg base 1 "check_told" ["year"] (xW CY)) (c_is_weather:Cal P w K mg base 1 "is_weather" ["row"] ke) (F:Fun K "tell" "Ice.tell" yX f fd):FnOk P w K mg base (CX1 P w) 2 f fd ["self","year","row"] (Zs C CY CW):=by
 refine Fun.okX F Q4 ↥12 ↥0
 ·obtain ⟨p,t,g,y,r,rfl,_⟩:=h
  rfl
 ·obtain ⟨p,t,g,y,r,rfl,I,hn,ht,hk,k,ky,kw⟩:=h
  refine ⟨_,(j8 (jU (zO c_check_told (hr.mono ⋯) xE rfl ↥71))
   (j8 (jF (qt (qU (je c_is_weather (hr.mono ⋯) rfl ↥89))) (jb (qT bh x_BadWeather e_BadWeather rfl xI rfl (j2 jc j5))) jo)
   (jb (xh (jE hr) (jV K (pv 0)) (pv 1) (pv 2) rfl)))),?_⟩
  left
  refine ⟨λh0 h1=>?_,λhb=>ky hb⟩
  left
  refine ⟨t,r,rfl,ht,?_⟩
  cases eg:good r with
  | false =>
   left
   exact ⟨by show 1<=sizeLine;decide,kw h0 h1 eg⟩
  | true =>
   left
   refine ⟨p,C,g.dx,_,_,rfl,I.ob,T.cl,T.nY,xm _ _ _ _ _,?_⟩
   left
   refine ⟨g.ye,_,rfl,vG.k (k:=.inl y) I.ye (jh hk),?_⟩
   exact k _ h0 h1 eg Ext.put (I.years hn Ext.put j7)
noncomputable def x8 (l:List ↥44) (n:Nat) (kvs:List (Key×V)):List ↥44:=l.set n ((l.getD n (0,[])).1,kvs)
theorem Ys (l:List ↥44) (n:Nat) (kvs:List (Key×V)):(x8 l n kvs).map (λx=>V.ref x.1)=l.map λx=>V.ref x.1:=by
 unfold x8
 rw [cY]
 by_cases h:n<l.length
 ·rw [ao,ag h]
  refine dI λi=>?_
  rw [cQ]
  by_cases e:n=i
  ·subst e
   rw [if_pos rfl,af,if_pos h,aq,ag h]
   rfl
  ·rw [if_neg e]
 ·rw [List.set_eq_of_length_le (by rw [af];omega)]
theorem IceAt.leap {p:Addr}{g:IceG}{n:Nat}{a:Addr}{kvs:List (Key×V)}(I:IceAt C H p g) (ha:g.lds[n]? = some (a,kvs)) (hn:∀x∈g.lds,x.1≠g.ye) (nd:(g.lds.map (·.1)).Nodup) (e:Ext a H H') (h:H' a=some (.dK kvs')):IceAt C H' p { g with lds:=x8 g.lds n kvs' }:=by
 have hm:=ar ha
 have h0:=I.lds _ hm
 have f:∀{c:Addr} {o:HO},H c=some o->(∀z,o≠.dK z)->H' c=some o:=λh n=>e _ _ h (jg h h0 (n _))
 have hl:n<g.lds.length:=(List.getElem?_eq_some_iff.mp ha).1
 refine ⟨f I.ob ↥1,f I.va ↥1,I.rs.keep λ_ _ q=>f q ↥1,f I.cy ↥1,I.rows.imp λ_ _ q=>f q ↥1,f I.sl ↥1,Paired.mapP I.slopes λv w ⟨a,ea,q⟩=>⟨a,ea,f q ↥1⟩,e _ _ I.ye (λz=>hn _ hm z.symm),(by show H' g.le=_;rw [Ys];exact f I.le ↥1),λx hx=>?_⟩
 have hx':x∈x8 g.lds n kvs':=hx
 obtain ⟨i,hi,ex⟩:=List.mem_iff_getElem.mp hx'
 have hi2:i<g.lds.length:=by unfold x8 at hi;rw [iC] at hi;exact hi
 have ex2:(x8 g.lds n kvs')[i]? = some x:=by rw [ag hi,ex]
 unfold x8 at ex2
 rw [cQ] at ex2
 by_cases en:n=i
 ·rw [if_pos en,if_pos ()] at ex2
  rw [<- aI ex2,ao,ha]
  exact h
 ·rw [if_neg en] at ex2
  refine e _ _ (I.lds x (ar ex2)) λz=>en ?_
  have h1:(g.lds.map (·.1))[n]? = some a:=by rw [aq,ha];rfl
  have h2:(g.lds.map (·.1))[i]? = some a:=by rw [aq,ex2,<- z];rfl
  have l1:=(List.getElem?_eq_some_iff.mp h1).1
  have l2:=(List.getElem?_eq_some_iff.mp h2).1
  exact (px l1 nd).mp (h1.trans h2.symm)
noncomputable def JI (C CN CY CS:Addr):Sp:=λvs H Q E=>∃(p:Addr) (g:IceG) (l y m:Int),vs=[.ref p,.int l,.int y,.int m]/\IceAt C H p g/\g.lds.length=g.slopes.length/\(∀x∈g.lds,x.1≠g.ye)/\(g.lds.map (·.1)).Nodup/\(∀x∈g.lds,x.2.length<=1000) /\
 (∀H' a kvs,0<=l->l< ↥18->0<=y->y<=99->1<=m->m<=9->g.lds[l.toNat]? = some (a,kvs)->Ext a H H'->IceAt C H' p { g with lds:=x8 g.lds l.toNat (qu kvs (.inl y) (.int m)) }->Q .non H') /\
 (l<0\/ ↥18<=l->E (.ref CN) none H)/\(0<=l->l< ↥18->y<0\/99<y->E (.ref CY) none H)/\(0<=l->l< ↥18->0<=y->y<=99->m<1\/9<m->E (.ref CS) none H)
theorem gC:FnScope ["self","lane","year","many"] ["self","lane","year","many"] (ja yD):=by walk_at "s"
theorem gL (nb:Nb2 mg) (T:IceC K C) (cl_Ice:Cls K C) (g_GREATEST_SURGE:mg "GREATEST_SURGE" = some (.int 9 u0)) (e_BadSurge:mg "BadSurge" = some (.ref CS)) (x_BadSurge:cI K CS [.type "ValueError",.type "Exception",.type "BaseException",.type "object"] "ValueError.__new__" = true) (c_Ice__check_lane:CalMX P w K mg base 1 C "check_lane" ["self","lane"] (xo C CN)) (c_check_told:CalX P w K mg base 1 "check_told" ["year"] (xW CY)) (F:Fun K "surge" "Ice.surge" yD f fd):FnOk P w K mg base (CX1 P w) 2 f fd ["self","lane","year","many"] (JI C CN CY CS):=by
 refine Fun.okX F gC ↥12 ↥0
 ·obtain ⟨p,g,l,y,m,rfl,_⟩:=h
  rfl
 ·obtain ⟨p,g,l,y,m,rfl,I,hll,hn,nd,hk,k,kn,ky,ks⟩:=h
  refine ⟨_,(j8 ↥39
   (j8 (jU (zO c_check_told (hr.mono ⋯) xE rfl ↥89))
   (j8 (jF (qt (qS qk qk j6 (pv 3) (jM (v:=V.int 9) rfl g_GREATEST_SURGE ⟨_,rfl⟩))) (jb (qT bh x_BadSurge e_BadSurge rfl xI rfl (j2 jc j5))) jo)
   (jb (xh (jE hr) ↥46 (pv 2) (pv 3) rfl))))),?_⟩
  left
  refine ⟨p,g.dx,_,rfl,I.ob,qa ∅,?_⟩
  left
  refine ⟨p,g,l,rfl,I,λl0 l1=>?_,λhb=>kn hb⟩
  left
  refine ⟨λh0 h1=>?_,λhb=>ky l0 l1 hb⟩
  have hi:l.toNat<g.lds.length:=()
  left
  refine qH (λm0=>?_) (λm0=>?_)
  ·left
   refine xz (λm1=>?_) (λm1=>?_)
   ·left
    exact ⟨by show 1<=sizeLine;decide,ks l0 l1 h0 h1 (.inr ())⟩
   ·left
    refine ⟨p,C,g.dx,_,_,rfl,I.ob,T.cl,T.nL,xK _ _ _ _ _,?_⟩
    left
    refine ⟨_,_,_,_,rfl,rfl,SqL.of I.le,qV l0 (v:=V.ref (g.lds[l.toNat]'hi).1) (by rw [aq,ag hi];rfl),?_⟩
    left
    have h0':=I.lds _ (bW hi)
    refine ⟨_,_,rfl,vG.k (k:=.inl y) h0' (jh (hk _ (bW hi))),?_⟩
    exact k _ _ _ l0 l1 h0 h1 m0 m1 (ag hi) Ext.put (I.leap (ag hi) hn nd Ext.put j7)
  ·left
   refine zw ?_
   left
   exact ⟨by show 1<=sizeLine;decide,ks l0 l1 h0 h1 (.inl ())⟩
noncomputable def kvI (q:Int×Int):Key×V:=(.inl q.1,.int q.2)
noncomputable def qW:List (Int×Int)->Int->Int
 | [],_=>0
 | q::r,y=>if q.1=y then q.2 else qW r y
theorem vB:∀(ns:List (Int×Int)) (y:Int),y∈ns.map (·.1)->qm (ns.map kvI) (.inl y)=some (.int (qW ns y))
 | [],y,h=>by cases h
 | q::r,y,h=>by
  rw [aV]
  unfold qm qW
  by_cases e:q.1=y
  ·subst e
   simp [kvI,List.find?]
  ·have h':y∈r.map (·.1):=by
    rcases List.mem_cons.mp h with z | z
    ·exact absurd z.symm e
    ·exact z
   have ih:=vB r y h'
   unfold qm at ih
   simp [kvI,List.find?,e] at ih ⊢
   exact ih
theorem kJ:∀(ns:List (Int×Int)),(ns.map (·.1)).Nodup->(ns.map (·.1)).map (λy=>(y,qW ns y))=ns
 | [],_=>rfl
 | q::r,nd=>by
  rw [aV] at nd ⊢
  obtain ⟨h1,h2⟩:=List.nodup_cons.mp nd
  rw [aV]
  have e:qW (q::r) q.1=q.2:=by unfold qW;rw [if_pos rfl]
  rw [e]
  refine congrArg (q :: ·) ?_
  conv=>rhs;rw [<- kJ r h2]
  refine dN λy hy=>?_
  have hne:¬q.1=y:=λz=>h1 (z ▸ hy)
  show (y,qW (q::r) y)=_
  conv=>lhs;unfold qW
  rw [if_neg hne]
noncomputable def JA (C CN:Addr):Sp:=λvs H Q E=>∃(p:Addr) (g:IceG) (l:Int),vs=[.ref p,.int l]/\IceAt C H p g/\g.lds.length=g.slopes.length/\(l<0\/ ↥18<=l->E (.ref CN) none H) /\
 (0<=l->l< ↥18->∃(a:Addr) (ns:List (Int×Int)),g.lds[l.toNat]? = some (a,ns.map kvI)/\(ns.map (·.1)).Nodup/\ns.length<64 /\
  ∀o H' out (ms:List (Int×Int)),H o=none->H' o=some (.lst out)->d8 (λv (m:Int×Int)=>∃b,v=V.ref b/\H' b=some (.tup [.int m.1,.int m.2])) out ms->jn H H'->ms.Perm ns->(ms.map (·.1)).Pairwise (· <= ·)->Q (.ref o) H')
theorem gm:FnScope ["self","lane"] ["self","lane"] (ja xS):=by walk_at "s"
theorem gv (nb:Nb2 mg) (T:IceC K C) (cl_Ice:Cls K C) (c_Ice__check_lane:CalMX P w K mg base 1 C "check_lane" ["self","lane"] (xo C CN)) (F:Fun K "surges" "Ice.surges" xS f fd):FnOk P w K mg base (CX1 P w) 2 f fd ["self","lane"] (JA C CN):=by
 refine Fun.okX F gm ↥12 ↥0
 ·obtain ⟨p,g,l,rfl,_⟩:=h
  rfl
 ·obtain ⟨p,g,l,rfl,I,hll,kx,k⟩:=h
  refine ⟨_,(j8 ↥39
   (jb (jk (jX (osc:=(ja xS)) (ON:=["self","lane"]) (N:=["year","lane","self"]) (own:=1) (caps:=[1,0]) ⟨rfl,∅,∅,∅,rfl,∅⟩ rfl rfl rfl (qi K (jd (ui K rfl) rfl nb.b_sorted iu (j2 ↥46 j5))) (λ_ _ _ _ _=>(jm (i:=0) (show b8 (["year","lane","self"]:List Str) by decide +kernel) rfl (bf rfl))) ↥24 (λ_ _ _ _ _=>(jx (j2 (pv 0) (j2 (jy (jE hr) (jj (jf K) (jV K (pv 2)) (pv 1) (λ_ _=>rfl)) (pv 0) (λ_ _=>rfl)) j5)))))))),?_⟩
  left
  refine ⟨p,g.dx,_,rfl,I.ob,qa ∅,?_⟩
  left
  refine ⟨p,g,l,rfl,I,λl0 l1=>?_,λhb=>kx hb⟩
  obtain ⟨a,ns,ha,nd,h64,k⟩:=k l0 l1
  have hi:=(List.getElem?_eq_some_iff.mp ha).1
  have hm:=I.lds _ (ar ha)
  have hat:atI (g.lds.map λx=>V.ref x.1) l=some (.ref a):=qV l0 (by rw [aq,ha];rfl)
  left
  refine ⟨p,C,g.dx,_,_,rfl,I.ob,T.cl,T.nL,xK _ _ _ _ _,?_⟩
  left
  refine ⟨_,_,_,_,rfl,rfl,SqL.of I.le,hat,?_⟩
  refine ⟨a,ns.map kvI,ns.map (·.1),rfl,hm,by rw [bF,bF];rfl,by rw [af];exact h64,λo H1 ks ho ho1 s1 hp hs=>?_⟩
  have hkl:ks.length<64:=by rw [hp.length_eq,af];exact h64
  refine ⟨o,rfl,⟨_,SqL.of ho1⟩,λacc hacc=>?_⟩
  refine jT (K:=K) (a:=o) (xs:=ks.map V.int) (acc:=acc) (λi σ H2=>∃(x:Option V) (out:List V),σ=[x,some (.int l),some (.ref p)]/\H2 acc=some (.lst out)/\out.length=i/\d8 (λv (m:Int×Int)=>∃b,v=V.ref b/\H2 b=some (.tup [.int m.1,.int m.2])) out ((ks.take i).map λy=>(y,qW ns y))/\Ext acc H1 H2) ?_ ?_ ?_ ?_
  ·exact ⟨none,[],rfl,j7,rfl,.nil,Ext.put⟩
  ·rintro i σ H2 hi ⟨x,out,rfl,h2,hz,r2,e2⟩
   exact SqL.of (e2 _ _ ho1 (j4 ho1 hacc))
  ·rintro i v σ H2 hv ⟨x,out,rfl,h2,hz,r2,e2⟩
   obtain ⟨y,rfl,hy⟩:=yq hv
   have hiy:=(↥51).1
   have hyn:y∈ns.map (·.1):=hp.mem_iff.mp (ar hy)
   have t2:jn H H2:=λc o hc=>e2 _ _ (s1 _ _ hc) (j4 (s1 _ _ hc) hacc)
   have I2:=I.same t2
   left
   refine ⟨p,C,g.dx,_,_,rfl,I2.ob,T.cl,T.nL,xK _ _ _ _ _,?_⟩
   left
   refine ⟨_,_,_,_,rfl,rfl,SqL.of I2.le,hat,?_⟩
   left
   refine ⟨a,.int (qW ns y),rfl,by rw [<- vB ns y hyn];exact qc.k (k:=.inl y) (t2 _ _ hm),?_⟩
   left
   refine ⟨by show 2<=sizeLine;decide,λb H3 hb hb3 s3=>?_⟩
   have h3:=s3 _ _ h2
   have bacc:b≠acc:=(j4 h2 hb).symm
   refine ⟨out,h3,jh (),some (.int y),out++[.ref b],rfl,j7,by rw [ay,hz];rfl,?_,λc o hc n=>by rw [j9 n];exact s3 _ _ (e2 c o hc n)⟩
   rw [qA (λy=>(y,qW ns y)) ks i y hy]
   exact cE (Paired.mapP r2 λv m ⟨c,e,q⟩=>⟨c,e,by rw [j9 (jg (s3 _ _ q) h3 ↥4)];exact s3 _ _ q⟩) ⟨b,rfl,by rw [j9 bacc];exact hb3⟩
  ·rintro σ H2 ⟨x,out,rfl,h2,hz,r2,e2⟩
   rw [af,bc] at r2
   have t2:jn H H2:=λc o hc=>e2 _ _ (s1 _ _ hc) (j4 (s1 _ _ hc) hacc)
   refine k acc H2 out _ (s1.free hacc) h2 r2 t2 ?_ ?_
   ·have:=hp.map λy=>(y,qW ns y)
    rw [kJ ns nd] at this
    exact this
   ·rw [bF]
    have:((λx:Int×Int=>x.1) ∘ λy=>(y,qW ns y))=id:=rfl
    rw [this,lx]
    exact hs
noncomputable def JU:Sp:=λvs H Q _=>∃(L b:Addr),vs=[.ref b]/\jG L H b/\∀(y:Int) (H':Hp),0<=y->y<=99->jG L H' b->Ext b H H'->Q (.int y) H'
theorem XQ:FnScope ["_law_box_here"] ["_law_box_here"] (ja ua):=by walk_at "s"
theorem UH {v a b c:Int}(h0:0<=v) (h1:v<5) (ha:0<=a/\a<=99) (hb:0<=b/\b<=99) (hc:0<=c/\c<=99):∃n,atI [V.int a,V.int b,V.int c,V.int 99,V.int 0] v=some (V.int n)/\0<=n/\n<=99:=by
 have h:v=0\/v=1\/v=2\/v=3\/v=4:=()
 rcases h with rfl | rfl | rfl | rfl | rfl
 ·exact ⟨a,rfl,ha.1,ha.2⟩
 ·exact ⟨b,rfl,hb.1,hb.2⟩
 ·exact ⟨c,rfl,hc.1,hc.2⟩
 ·exact ⟨99,rfl,⋯,⋯⟩
 ·exact ⟨0,rfl,⋯,⋯⟩
theorem UL (c_law_take:Cal P w K mg base 2 "_law_take" ["_law_box_here","_law_size"] xG) (F:Fun K "_law_year" "_law_year" ua f fd):FnOk P w K mg base CX0 3 f fd ["_law_box_here"] JU:=by
 refine F.ok XQ ↥12 ↥0
 ·obtain ⟨L,b,rfl,_⟩:=h
  rfl
 ·obtain ⟨L,b,rfl,B,k⟩:=h
  refine ⟨_,(jb (jk (jj (jf K) (jD (j2 ↥2 (j2 ↥2 (j2 ↥2 (j2 j6 (j2 j6 j5)))))) ↥2 (λ_ _=>rfl)))),?_⟩
  left
  refine ⟨L,b,_,rfl,B,⟨⋯,⋯⟩,λv1 H1 p1 q1 B1 X1=>?_⟩
  left
  refine ⟨L,b,_,rfl,B1,⟨⋯,⋯⟩,λv2 H2 p2 q2 B2 X2=>?_⟩
  left
  refine ⟨L,b,_,rfl,B2,⟨⋯,⋯⟩,λv3 H3 p3 q3 B3 X3=>?_⟩
  left
  refine ⟨by show 5<=sizeLine;decide,λl H4 hl hl4 s4=>?_⟩
  left
  refine ⟨L,b,_,rfl,B3.same s4,⟨⋯,⋯⟩,λv5 H5 p5 q5 B5 X5=>?_⟩
  obtain ⟨n,en,n0,n1⟩:=UH p5 q5 (a:=v1) (b:=v2) (c:=v3) ⟨p1,()⟩ ⟨p2,()⟩ ⟨p3,()⟩
  refine ⟨_,_,_,_,rfl,rfl,SqL.of (X5 _ _ hl4 (B3.ne hl)),en,?_⟩
  exact k n H5 n0 n1 B5 ((((X1.trans X2).trans X3).trans (Ext.of_same s4)).trans X5)
noncomputable def scK (p q sg gl ll:Addr):List (Key×V):=[↥41,↥64,↥61,(.inr "grounds",.ref gl),(.inr "leaps",.ref ll)]
theorem xc {k:Key}{v:V}{r:List (Key×V)}:qm ((k,v)::r) k=some v:=by
 unfold qm
 rw [mi (p:=λkv:Key×V=>decide (kv.1=k)) (a:=(k,v)) (decide_eq_true rfl)]
 rfl
theorem jz {k k':Key}{v:V}{r:List (Key×V)}(h:k'≠k):qm ((k',v)::r) k=qm r k:=by
 unfold qm
 rw [mj (p:=λkv:Key×V=>decide (kv.1=k)) (a:=(k',v)) (λz=>h (of_decide_eq_true z))]
theorem gg (p q sg gl ll:Addr):qm (scK p q sg gl ll) (.inr "reaches")=some (.ref p):=xc
theorem uk (p q sg gl ll:Addr):qm (scK p q sg gl ll) (.inr "rows")=some (.ref q):=(jz (show ↥62≠aM (ai "rows") by decide +kernel)).trans (xc)
theorem qP (p q sg gl ll:Addr):qm (scK p q sg gl ll) (.inr "single")=some (.ref sg):=(jz (show ↥62≠aM (ai "single") by decide +kernel)).trans ((jz (show (aM (ai "rows"):Key)≠aM (ai "single") by decide +kernel)).trans (xc))
theorem yC (p q sg gl ll:Addr):qm (scK p q sg gl ll) (.inr "grounds")=some (.ref gl):=(jz (show ↥62≠aM (ai "grounds") by decide +kernel)).trans ((jz (show (aM (ai "rows"):Key)≠aM (ai "grounds") by decide +kernel)).trans ((jz (show (aM (ai "single"):Key)≠aM (ai "grounds") by decide +kernel)).trans (xc)))
theorem zE (p q sg gl ll:Addr):qm (scK p q sg gl ll) (.inr "leaps")=some (.ref ll):=(jz (show ↥62≠aM (ai "leaps") by decide +kernel)).trans ((jz (show (aM (ai "rows"):Key)≠aM (ai "leaps") by decide +kernel)).trans ((jz (show (aM (ai "single"):Key)≠aM (ai "leaps") by decide +kernel)).trans ((jz (show (aM (ai "grounds"):Key)≠aM (ai "leaps") by decide +kernel)).trans (xc))))
noncomputable def FrM (M:Addr->Prop) (H H':Hp):Prop:=∀c o,H c=some o->H' c=some o\/(M c/\∃ob kvs,o = .dK kvs/\H' c=some (.frz ob (.dK kvs)))
theorem FrM.of_same (s:jn H H'):FrM M H H':=λc o h=>.inl (s c o h)
theorem FrM.trans (a:FrM M H H1) (b:FrM M H1 H2):FrM M H H2:=λc o h=>by
 rcases a c o h with h1 | ⟨m,ob,kvs,e,h1⟩
 ·exact b c o h1
 ·rcases b c _ h1 with h2 | ⟨_,_,_,e2,_⟩
  ·exact .inr ⟨m,ob,kvs,e,h2⟩
  ·cases e2
theorem FrM.at (f:FrM M H H') {c:Addr}(h:H c=some o) (n:∀kvs,o≠.dK kvs):H' c=some o:=by
 rcases f c o h with h1 | ⟨_,ob,kvs,e,_⟩
 ·exact h1
 ·exact absurd e (n kvs)
theorem Jp:∀{ns:List (Int×Int)},(ns.map (·.1)).Nodup->∀{z:Int×Int},z∈ns->qW ns z.1=z.2
 | [],_,z,h=>by cases h
 | q::r,nd,z,h=>by
  rw [aV] at nd
  obtain ⟨h1,h2⟩:=List.nodup_cons.mp nd
  unfold qW
  rcases List.mem_cons.mp h with e | e
  ·rw [e,if_pos rfl]
  ·have ne:¬q.1=z.1:=λw=>h1 (by rw [w];exact bY e)
   rw [if_neg ne]
   exact Jp h2 e
theorem Gs {ns:List (Int×Int)}{i:Nat}(h:(ns.map kvI)[i]? = some q):∃z,ns[i]? = some z/\q=kvI z:=by
 rw [aq] at h
 cases e:ns[i]? with
 | none=>rw [e] at h;cases h
 | some z=>rw [e] at h;cases h;exact ⟨z,rfl,rfl⟩
noncomputable def LdAt (g:IceG) (l:Int) (ns:List (Int×Int)):Prop:=0<=l/\l< ↥18/\(∃a,g.lds[l.toNat]? = some (a,ns.map kvI))/\(ns.map (·.1)).Nodup/\ns.length<64/\∀q∈ns,0<=q.2/\q.2<=9
noncomputable def ug (CY:Addr):Sp:=λvs H Q E=>∃y:Int,vs=[.int y]/\(0<=y->y<=10 ^ 40->Q .non H)/\(y<0\/10 ^ 40<y->E (.ref CY) none H)
theorem wV:FnScope ["year"] ["year"] (ja y6):=by walk_at "s"
theorem hU (g_LAST_ASKED:mg "LAST_ASKED" = some (.int 10000000000000000000000000000000000000000 u0)) (e_BadYear:mg "BadYear" = some (.ref CY)) (x_BadYear:cI K CY [.type "ValueError",.type "Exception",.type "BaseException",.type "object"] "ValueError.__new__" = true) (F:Fun K "check_asked" "check_asked" y6 f fd):FnOk P w K mg base (CX1 P w) 1 f fd ["year"] (ug CY):=by
 refine Fun.okX F wV ↥12 ↥0
 ·obtain ⟨y,rfl,_⟩:=h
  rfl
 ·obtain ⟨y,rfl,k,kx⟩:=h
  refine ⟨_,(jb (jF (qt (qS qk qk j6 (pv 0) (jM (v:=V.int 10000000000000000000000000000000000000000) rfl g_LAST_ASKED ⟨_,rfl⟩))) (jb (qT bh x_BadYear e_BadYear rfl xI rfl (j2 jc j5))) jo)),?_⟩
  left
  refine qH (λh0=>?_) (λh0=>?_)
  ·left
   refine xz (λh1=>?_) (λh1=>?_)
   ·left
    exact ⟨by show 1<=sizeLine;decide,kx (.inr ())⟩
   ·left
    exact k h0 h1
  ·left
   refine zw ?_
   left
   exact ⟨by show 1<=sizeLine;decide,kx (.inl ())⟩
noncomputable def kvA (z:Int×Addr):Key×V:=(.inl z.1,.ref z.2)
noncomputable def qQ {α:Type}(l:List (Int×α)) (y:Int) (a:α):List (Int×α):=if (l.any λz=>decide (z.1=y))=true then l.map (λz=>if z.1=y then (z.1,a) else z) else l++[(y,a)]
theorem zA {α:Type}(f:α->V) (l:List (Int×α)) (y:Int) (a:α):qu (l.map λz=>↥54) (.inl y) (f a)=(qQ l y a).map λz=>↥54:=by
 have e:∀z:Int,decide ((dU z:Key)=dU y)=decide (z=y):=λz=>decide_eq_decide.mpr ⟨λh=>dG h,λh=>by rw [h]⟩
 have e1:((l.map λz=>↥54).any λkv=>decide (kv.1=(dU y:Key)))=l.any λz=>decide (z.1=y):=by
  rw [List.any_map]
  congr 1
  funext z
  exact e z.1
 unfold qu qQ
 rw [e1]
 by_cases h:(l.any λz=>decide (z.1=y))=true
 ·rw [if_pos h,if_pos h,bF,bF]
  refine dN λz _=>?_
  show (if (dU z.1:Key)=dU y then _ else _)=_
  by_cases hz:z.1=y
  ·rw [if_pos (by rw [hz])]
   show _=(λz:Int×α=>↥54) (if z.1=y then (z.1,a) else z)
   rw [if_pos hz]
  ·rw [if_neg (λw=>hz (dG w))]
   show _=(λz:Int×α=>↥54) (if z.1=y then (z.1,a) else z)
   rw [if_neg hz]
 ·rw [if_neg h,if_neg h,aF]
  rfl
theorem yh {α:Type}{l:List (Int×α)}{y:Int}{a:α}{z:Int×α}(h:z∈qQ l y a):z∈l\/z=(y,a):=by
 unfold qQ at h
 by_cases c:(l.any λz=>decide (z.1=y))=true
 ·rw [if_pos c] at h
  obtain ⟨u,hu,e⟩:=List.mem_map.mp h
  by_cases q:u.1=y
  ·rw [if_pos q,q] at e
   exact .inr e.symm
  ·rw [if_neg q] at e
   exact .inl (e ▸ hu)
 ·rw [if_neg c] at h
  rcases List.mem_append.mp h with q | q
  ·exact .inl q
  ·exact .inr (by simpa using q)
theorem zg {α:Type}(l:List (Int×α)) (y:Int) (a:α):(qQ l y a).length<=l.length+1:=by
 unfold qQ
 split
 ·rw [af];omega
 ·rw [ay];exact av _
theorem yp {α:Type}{l:List (Int×α)}{y:Int}{a:α}(h:(l.map (·.1)).Nodup):((qQ l y a).map (·.1)).Nodup:=by
 unfold qQ
 by_cases c:(l.any λz=>decide (z.1=y))=true
 ·rw [if_pos c,bF]
  have:(l.map ((λx=>x.1) ∘ λz=>if z.1=y then (z.1,a) else z))=l.map (·.1):=dN λz _=>by
   show (if z.1=y then (z.1,a) else z).1=z.1
   split <;> rfl
  rw [this]
  exact h
 ·rw [if_neg c,aF]
  refine vE h λz=>c ?_
  obtain ⟨u,hu,e⟩:=List.mem_map.mp z
  exact List.any_eq_true.mpr ⟨u,hu,decide_eq_true e⟩
structure ScN where
 p:Addr
 q:Addr
 sg:Addr
 gl:Addr
 ll:Addr
 xs:List V
 ys:List V
 zs:List V
 rs:List Rch
 ts:List T3
 ws:List (List Int)
 sk:List (Int×Addr)
 lds:List (Addr×List (Int×Int))
structure ScAt (H:Hp) (sd:Addr) (c:ScN):Prop where
 sd:H sd=some (.dK (scK c.p c.q c.sg c.gl c.ll))
 p:H c.p=some (.lst c.xs)
 rv:qf H c.xs c.rs
 q:H c.q=some (.lst c.ys)
 r3:jH H c.ys c.ts
 gl:H c.gl=some (.lst c.zs)
 gi:yg H c.zs (c.ws.map (jp c.rs))
 ll:H c.ll=some (.lst (c.lds.map λx=>V.ref x.1))
 sg:Rd H c.sg (.dK (c.sk.map kvA))
 sk:∀z∈c.sk,∃t,H z.2=some (zM t)/\good t=true
 ld:∀x∈c.lds,Rd H x.1 (.dK (x.2.map kvI))
structure ScOk (b:Addr) (c:ScN):Prop where
 gr:Grown c.rs
 l1:1<=c.rs.length
 l8:c.rs.length<=8
 t1:1<=c.ts.length
 t2:c.ts.length<=12
 tg:c.ts.all good=true
 ro:qe c.rs c.ws
 ldl:c.lds.length=c.ws.length
 nd:(c.lds.map (·.1)).Nodup
 ns:∀x∈c.lds,x.1≠c.sg
 pb:c.p≠b
 qb:c.q≠b
 gb:c.gl≠b
 lb:c.ll≠b
 zb:V.ref b∉c.zs
 k1:(c.sk.map (·.1)).Nodup
 k2:∀z∈c.sk,0<=z.1/\z.1<=99
 k3:c.sk.length<=40
 m1:∀x∈c.lds,(x.2.map (·.1)).Nodup
 m2:∀x∈c.lds,∀z∈x.2,0<=z.1/\z.1<=99/\1<=z.2/\z.2<=9
 m3:∀x∈c.lds,x.2.length<=40
noncomputable def Fr3 (N M:Addr->Prop) (H H':Hp):Prop:=∀c o,H c=some o->¬N c->H' c=some o\/(M c/\∃ob kvs,o = .dK kvs/\H' c=some (.frz ob (.dK kvs)))
theorem Fr3.at {N:Addr->Prop}(f:Fr3 N M H H') {c:Addr}(h:H c=some o) (n:¬N c) (d:∀kvs,o≠.dK kvs):H' c=some o:=by
 rcases f c o h n with h1 | ⟨_,ob,kvs,e,_⟩
 ·exact h1
 ·exact absurd e (d kvs)
theorem Fr3.rd {N:Addr->Prop}(f:Fr3 N M H H') {c:Addr}{kvs:List (Key×V)}(n:¬N c) (h:Rd H c (.dK kvs)):Rd H' c (.dK kvs):=by
 rcases h with h | ⟨o,h⟩
 ·rcases f c _ h n with h1 | ⟨_,ob,kvs',e,h1⟩
  ·exact .inl h1
  ·cases e
   exact .inr ⟨ob,h1⟩
 ·exact .inr ⟨o,f.at h n ↥1⟩
theorem pmM {α β:Type}{F G:α->β->Prop}:∀{l₁:List α}{l₂:List β},d8 F l₁ l₂->(∀v∈l₁,∀w,F v w->G v w)->d8 G l₁ l₂
 | _,_,.nil,_=>.nil
 | _,_,.cons q r,h=>.cons (h _ (aO ..) _ q) (pmM r λv hv=>h v (aH _ hv))
theorem ScAt.keep {N:Addr->Prop}{sd:Addr}{c:ScN}(S:ScAt H sd c) (f:Fr3 N M H H') (nT:∀a xs,H a=some (.tup xs)->¬N a) (nsd:¬N sd) (msd:¬M sd) (np:¬N c.p) (nq:¬N c.q) (ng:¬N c.gl) (nl:¬N c.ll) (nz:∀a,V.ref a∈c.zs->¬N a) (ns:¬N c.sg) (nd:∀x∈c.lds,¬N x.1):ScAt H' sd c:=by
 have t:∀a xs,H a=some (.tup xs)->H' a=some (.tup xs):=λa xs h=>f.at h (nT a xs h) ↥1
 refine ⟨?_,f.at S.p np ↥1,S.rv.keep t,f.at S.q nq ↥1,S.r3.imp λ_ _ h=>t _ _ h,f.at S.gl ng ↥1,pmM S.gi λv hv w ⟨a,ea,q⟩=>⟨a,ea,f.at q (nz a (ea ▸ hv)) ↥1⟩,f.at S.ll nl ↥1,f.rd ns S.sg,λz hz=>?_,λx hx=>f.rd (nd x hx) (S.ld x hx)⟩
 ·rcases f _ _ S.sd nsd with z | ⟨z,_⟩
  ·exact z
  ·exact absurd z msd
 ·obtain ⟨u,hu,g⟩:=S.sk z hz
  exact ⟨u,t _ _ hu,g⟩
theorem ScAt.same {sd:Addr}{c:ScN}(S:ScAt H sd c) (s:jn H H'):ScAt H' sd c :=
 S.keep (N:=λ_=>False) (M:=λ_=>False) (λc o h _=>.inl (s c o h)) (λ_ _ _ z=>z) id id id id id id (λ_ _=>id) id (λ_ _=>id)
theorem ScAt.ext {b:Addr}{sd:Addr}{c:ScN}(S:ScAt H sd c) (O:ScOk b c) (B:jG L H b) (e:Ext b H H'):ScAt H' sd c:=by
 obtain ⟨_,_,_,_,_,hb,_⟩:=B
 have nr:∀{a:Addr} {kvs:List (Key×V)},Rd H a (.dK kvs)->¬a=b:=λh z=>by
  rcases h with h | ⟨o,h⟩
  ·exact absurd z (jg h hb ↥4)
  ·exact absurd z (jg h hb ↥4)
 exact S.keep (N:=λa=>a=b) (M:=λ_=>False) (λc o h n=>.inl (e c o h n)) (λa xs h z=>absurd z (jg h hb ↥4)) (jg S.sd hb ↥4) id O.pb O.qb O.gb O.lb (λa h z=>O.zb (z ▸ h)) (nr S.sg) λx hx=>nr (S.ld x hx)
noncomputable def ScN.D (c:ScN) (a:Addr):Prop:=a=c.sg\/∃x∈c.lds,x.1=a
theorem Wz {p q sg gl ll:Addr}{α:Type}{f:α->V}{l:List (Int×α)}:scK p q sg gl ll≠l.map λz=>↥54:=λz=>by
 cases l with
 | nil=>cases z
 | cons u r =>
  have:=congrArg (λl=>l.head?.map (·.1)) z
  cases this
theorem Y6 {H:Hp}{sd a p q sg gl ll:Addr}{α:Type}{f:α->V}{l:List (Int×α)}(h:H sd=some (.dK (scK p q sg gl ll))) (r:Rd H a (.dK (l.map λz=>↥54))):a≠sd:=λz=>by
 subst z
 rcases r with r | ⟨o,r⟩
 ·rw [r] at h
  have e:l.map (λz=>↥54)=scK p q sg gl ll:=by injection h with h;injection h
  exact Wz e.symm
 ·rw [r] at h
  cases h
theorem ScAt.nD {sd:Addr}{c:ScN}(S:ScAt H sd c):¬c.D sd:=λz=>by
 rcases z with z | ⟨x,hx,e⟩
 ·exact Y6 (f:=V.ref) S.sd S.sg z.symm
 ·exact Y6 (f:=V.int) S.sd (S.ld x hx) e
structure ScB (L b:Addr) (H H2:Hp) (sd:Addr) (c:ScN):Prop where
 S:ScAt H2 sd c
 O:ScOk b c
 r1:H2 c.sg=some (.dK (c.sk.map kvA))
 r2:∀x∈c.lds,H2 x.1=some (.dK (x.2.map kvI))
 B:jG L H2 b
 X:Ext b H H2
 f1:H c.sg=none
 f2:∀x∈c.lds,H x.1=none
theorem ScB.take {b:Addr}{sd:Addr}{c:ScN}(S:ScB L b H H2 sd c) (B:jG L H3 b) (X:Ext b H2 H3):ScB L b H H3 sd c:=by
 have hb:∃xs,H2 b=some (.lst xs):=by
  obtain ⟨_,_,_,_,_,hb,_⟩:=S.B
  exact ⟨_,hb⟩
 obtain ⟨_,hb⟩:=hb
 exact ⟨S.S.ext S.O S.B X,S.O,X _ _ S.r1 (jg S.r1 hb ↥4),λx hx=>X _ _ (S.r2 x hx) (jg (S.r2 x hx) hb ↥4),B,S.X.trans X,S.f1,S.f2⟩
theorem ScB.same {b:Addr}{sd:Addr}{c:ScN}(S:ScB L b H H2 sd c) (s:jn H2 H3):ScB L b H H3 sd c:=S.take (S.B.same s) (Ext.of_same s)
theorem xL (B:jG L Ha b) (e:Ext b Ha Hb):jw Ha Hb:=by
 obtain ⟨ns,a,r,c,d,h1,_⟩:=B
 exact jw.lst e h1
theorem ScB.single {b:Addr}{sd:Addr}{c:ScN}{y:Int}(S:ScB L b H H2 sd c) (y0:0<=y) (y1:y<=99) (ht:H2 t=some (zM r)) (hg:good r=true) (hl:c.sk.length+1<=40) :
  ScB L b H (upd H2 c.sg (.dK (qu (c.sk.map kvA) (.inl y) (.ref t)))) sd { c with sk:=qQ c.sk y t }:=by
 have e:qu (c.sk.map kvA) (.inl y) (.ref t)=(qQ c.sk y t).map kvA:=zA V.ref c.sk y t
 rw [e]
 have nT:∀{a:Addr} {o:HO},H2 a=some o->(∀kvs,o≠.dK kvs)->(upd H2 c.sg (.dK ((qQ c.sk y t).map kvA))) a=some o:=λh n=>by rw [j9 (jg h S.r1 (n _))];exact h
 have sdn:sd≠c.sg:=(Y6 (f:=V.ref) S.S.sd S.S.sg).symm
 have hb:∃xs,H2 b=some (.lst xs):=by
  obtain ⟨_,_,_,_,_,hb,_⟩:=S.B
  exact ⟨_,hb⟩
 obtain ⟨_,hb⟩:=hb
 have hL:∃xs,H2 L=some (.lst xs):=by
  obtain ⟨_,_,_,_,_,_,_,hL,_⟩:=S.B
  exact ⟨_,hL⟩
 obtain ⟨_,hL⟩:=hL
 refine ⟨⟨by rw [j9 sdn];exact S.S.sd,nT S.S.p ↥1,S.S.rv.keep λ_ _ h=>nT h ↥1,nT S.S.q ↥1,S.S.r3.imp λ_ _ h=>nT h ↥1,nT S.S.gl ↥1,pmM S.S.gi λv hv w ⟨a,ea,q⟩=>⟨a,ea,nT q ↥1⟩,nT S.S.ll ↥1,.inl j7,λz hz=>?_,λx hx=>.inl (by rw [j9 (S.O.ns x hx)];exact S.r2 x hx)⟩,?_,j7,λx hx=>by rw [j9 (S.O.ns x hx)];exact S.r2 x hx,S.B.put (jg S.r1 hb ↥4) (jg S.r1 hL ↥4),λd o hd n=>?_,S.f1,S.f2⟩
 ·rcases yh hz with z | z
  ·obtain ⟨u,hu,g⟩:=S.S.sk _ z
   exact ⟨u,nT hu ↥1,g⟩
  ·subst z
   exact ⟨r,nT ht ↥1,hg⟩
 ·have O:=S.O
  exact ⟨O.gr,O.l1,O.l8,O.t1,O.t2,O.tg,O.ro,O.ldl,O.nd,O.ns,O.pb,O.qb,O.gb,O.lb,O.zb,yp O.k1,λz hz=>by
   rcases yh hz with q | q
   ·exact O.k2 z q
   ·subst q;exact ⟨y0,y1⟩,aE (zg _ _ _) hl,O.m1,O.m2,O.m3⟩
 ·rw [j9 (j4 hd S.f1)]
  exact S.X d o hd n
theorem ud {α β:Type}{l:List (α×β)}{n:Nat}{a:α}{u v:β}(nd:(l.map (·.1)).Nodup) (hn:l[n]? = some (a,u)) {x:α×β}(hx:x∈l.set n (a,v)):x=(a,v)\/(x∈l/\x.1≠a):=by
 obtain ⟨i,hi,e⟩:=List.mem_iff_getElem.mp hx
 have hi':i<l.length:=by rw [iC] at hi;exact hi
 obtain ⟨hn1,hn2⟩:=List.getElem?_eq_some_iff.mp hn
 by_cases q:n=i
 ·subst q
  rw [List.getElem_set_self] at e
  exact .inl e.symm
 ·rw [List.getElem_set_ne q] at e
  refine .inr ⟨e ▸ bW hi',λz=>q ?_⟩
  have h1:(l.map (·.1))[n]'(by rw [af];exact hn1)=(l.map (·.1))[i]'(by rw [af];exact hi'):=by
   rw [ig,ig,hn2,e,z]
  rcases Nat.lt_trichotomy n i with g | g | g
  ·exact absurd h1 (List.pairwise_iff_getElem.mp nd n i _ _ g)
  ·exact g
  ·exact absurd h1.symm (List.pairwise_iff_getElem.mp nd i n _ _ g)
theorem JT {α β:Type}{l:List (α×β)}{n:Nat}{a:α}{u v:β}(hn:l[n]? = some (a,u)):(l.set n (a,v)).map (·.1)=l.map (·.1):=by
 obtain ⟨hn1,hn2⟩:=List.getElem?_eq_some_iff.mp hn
 rw [cY]
 refine dI λi=>?_
 rw [cQ]
 by_cases q:n=i
 ·subst q
  rw [if_pos rfl,if_pos (by rw [af];exact hn1),aq,hn]
  rfl
 ·rw [if_neg q]
theorem ScB.leap {b:Addr}{sd a:Addr}{c:ScN}{n:Nat}{y m:Int}{ns:List (Int×Int)}(S:ScB L b H H2 sd c) (hn:c.lds[n]? = some (a,ns)) (y0:0<=y) (y1:y<=99) (m0:1<=m) (m1:m<=9) (hl:ns.length+1<=40) :
  ScB L b H (upd H2 a (.dK (qu (ns.map kvI) (.inl y) (.int m)))) sd { c with lds:=c.lds.set n (a,qQ ns y m) }:=by
 have e:qu (ns.map kvI) (.inl y) (.int m)=(qQ ns y m).map kvI:=zA V.int ns y m
 rw [e]
 have hm:=ar hn
 have ra:=S.r2 _ hm
 have nT:∀{d:Addr} {o:HO},H2 d=some o->(∀kvs,o≠.dK kvs)->(upd H2 a (.dK ((qQ ns y m).map kvI))) d=some o:=λh n=>by rw [j9 (jg h ra (n _))];exact h
 have sdn:sd≠a:=(Y6 (f:=V.int) S.S.sd (S.S.ld _ hm)).symm
 have hb:∃xs,H2 b=some (.lst xs):=by
  obtain ⟨_,_,_,_,_,hb,_⟩:=S.B
  exact ⟨_,hb⟩
 obtain ⟨_,hb⟩:=hb
 have hL:∃xs,H2 L=some (.lst xs):=by
  obtain ⟨_,_,_,_,_,_,_,hL,_⟩:=S.B
  exact ⟨_,hL⟩
 obtain ⟨_,hL⟩:=hL
 have fs:=JT (v:=qQ ns y m) hn
 have fs2:(c.lds.set n (a,qQ ns y m)).map (λx=>V.ref x.1)=c.lds.map λx=>V.ref x.1:=by
  have:=congrArg (iX V.ref) fs
  rw [bF,bF] at this
  exact this
 have sg:c.sg≠a:=(S.O.ns _ hm).symm
 have r2:∀x∈c.lds.set n (a,qQ ns y m),(upd H2 a (.dK ((qQ ns y m).map kvI))) x.1=some (.dK (x.2.map kvI)):=λx hx=>by
  rcases ud S.O.nd hn hx with z | ⟨z,w⟩
  ·subst z
   exact j7
  ·rw [j9 w]
   exact S.r2 x z
 have mem:∀x∈c.lds.set n (a,qQ ns y m),∃x'∈c.lds,x'.1=x.1:=λx hx=>by
  have:x.1∈(c.lds.set n (a,qQ ns y m)).map (·.1):=bY hx
  rw [fs] at this
  exact List.mem_map.mp this
 have O:=S.O
 refine ⟨⟨by rw [j9 sdn];exact S.S.sd,nT S.S.p ↥1,S.S.rv.keep λ_ _ h=>nT h ↥1,nT S.S.q ↥1,S.S.r3.imp λ_ _ h=>nT h ↥1,nT S.S.gl ↥1,pmM S.S.gi λv hv w ⟨a,ea,q⟩=>⟨a,ea,nT q ↥1⟩,?_,.inl (by show upd _ _ _ c.sg=_;rw [j9 sg];exact S.r1),λz hz=>?_,λx hx=>.inl (r2 x hx)⟩,⟨O.gr,O.l1,O.l8,O.t1,O.t2,O.tg,O.ro,?_,?_,?_,O.pb,O.qb,O.gb,O.lb,O.zb,O.k1,O.k2,O.k3,?_,?_,?_⟩,(by show upd _ _ _ c.sg=_;rw [j9 sg];exact S.r1),r2,S.B.put (jg ra hb ↥4) (jg ra hL ↥4),λd o hd n=>?_,S.f1,?_⟩
 ·show _=some (HO.lst ((c.lds.set n (a,qQ ns y m)).map λx=>V.ref x.1))
  rw [fs2]
  exact nT S.S.ll ↥1
 ·obtain ⟨u,hu,g⟩:=S.S.sk _ hz
  exact ⟨u,nT hu ↥1,g⟩
 ·show (c.lds.set n (a,qQ ns y m)).length=_
  rw [iC]
  exact O.ldl
 ·show ((c.lds.set n (a,qQ ns y m)).map (·.1)).Nodup
  rw [fs]
  exact O.nd
 ·intro x hx
  obtain ⟨x',h1,h2⟩:=mem x hx
  rw [<- h2]
  exact O.ns x' h1
 ·intro x hx
  rcases ud S.O.nd hn hx with z | ⟨z,w⟩
  ·subst z;exact yp (O.m1 _ hm)
  ·exact O.m1 x z
 ·intro x hx
  rcases ud S.O.nd hn hx with z | ⟨z,w⟩
  ·subst z
   intro u hu
   rcases yh hu with q | q
   ·exact O.m2 _ hm u q
   ·subst q;exact ⟨y0,y1,m0,m1⟩
  ·exact O.m2 x z
 ·intro x hx
  rcases ud S.O.nd hn hx with z | ⟨z,w⟩
  ·subst z;exact aE (zg _ _ _) hl
  ·exact O.m3 x z
 ·rw [j9 (j4 hd (S.f2 _ hm))]
  exact S.X d o hd n
 ·intro x hx
  obtain ⟨x',h1,h2⟩:=mem x hx
  rw [<- h2]
  exact S.f2 x' h1
theorem put4 :qu (x9 [] [↥41,↥64,↥61]) (.inr "grounds") (.ref gl)=[(↥41:Key×V),↥64,↥61,(.inr "grounds",.ref gl)]:=by
 have e1:(qu [] (.inr "reaches") (.ref p):List (Key×V))=[↥41]:=yT _ yY
 have e2:qu [(↥41:Key×V)] (.inr "rows") (.ref q)=[↥41,↥64]:=yT _ ((jz (show ↥62≠aM (ai "rows") by decide +kernel)).trans yY)
 have e3:qu [(↥41:Key×V),↥64] (.inr "single") (.ref sg)=[↥41,↥64,↥61]:=yT _ ((jz (show ↥62≠aM (ai "single") by decide +kernel)).trans ((jz (show (aM (ai "rows"):Key)≠aM (ai "single") by decide +kernel)).trans yY))
 have e4:qu [(↥41:Key×V),↥64,↥61] (.inr "grounds") (.ref gl)=[(↥41:Key×V),↥64,↥61,(.inr "grounds",.ref gl)]:=yT _ ((jz (show ↥62≠aM (ai "grounds") by decide +kernel)).trans ((jz (show (aM (ai "rows"):Key)≠aM (ai "grounds") by decide +kernel)).trans ((jz (show (aM (ai "single"):Key)≠aM (ai "grounds") by decide +kernel)).trans yY)))
 have e:x9 [] [(↥41:Key×V),↥64,↥61]=[↥41,↥64,↥61]:=by
  show qu (qu (qu ([]:List (Key×V)) (.inr "reaches") (.ref p)) (.inr "rows") (.ref q)) (.inr "single") (.ref sg)=_
  rw [e1,e2,e3]
 rw [e,e4]
theorem put5 :qu [(↥41:Key×V),↥64,↥61,(.inr "grounds",.ref gl)] (.inr "leaps") (.ref ll)=scK p q sg gl ll :=
 yT _ ((jz (show ↥62≠aM (ai "leaps") by decide +kernel)).trans ((jz (show (aM (ai "rows"):Key)≠aM (ai "leaps") by decide +kernel)).trans ((jz (show (aM (ai "single"):Key)≠aM (ai "leaps") by decide +kernel)).trans ((jz (show (aM (ai "grounds"):Key)≠aM (ai "leaps") by decide +kernel)).trans yY))))
theorem Xp (p q sg gl:Addr):qm [(↥41:Key×V),↥64,↥61,(.inr "grounds",.ref gl)] (.inr "grounds")=some (.ref gl):=(jz (show ↥62≠aM (ai "grounds") by decide +kernel)).trans ((jz (show (aM (ai "rows"):Key)≠aM (ai "grounds") by decide +kernel)).trans ((jz (show (aM (ai "single"):Key)≠aM (ai "grounds") by decide +kernel)).trans xc))
theorem wM {rs:List Rch}(G:Grown rs):∀r∈rs,r.2.length<=12:=λr hr=>by
 obtain ⟨i,hi,e⟩:=List.mem_iff_getElem.mp hr
 have:=JF G.ok (ag hi)
 rw [e] at this
 unfold okR at this
 rw [b9,b9] at this
 have:=of_decide_eq_true this.1.2
 omega
theorem Uq {v:Int}(a:0<=v) (b:v<3):∃n,atI [V.int 1,V.int 4,V.int 9] v=some (V.int n)/\0<n/\n<=9:=by
 have h:v=0\/v=1\/v=2:=()
 rcases h with rfl | rfl | rfl
 ·exact ⟨1,rfl,(),()⟩
 ·exact ⟨4,rfl,(),()⟩
 ·exact ⟨9,rfl,(),()⟩
theorem UT {v:Int}(a:0<=v) (b:v<3):∃n,atI [V.int 1,V.int 3,V.int 7] v=some (V.int n)/\0<n/\n<=7:=by
 have h:v=0\/v=1\/v=2:=()
 rcases h with rfl | rfl | rfl
 ·exact ⟨1,rfl,(),()⟩
 ·exact ⟨3,rfl,(),()⟩
 ·exact ⟨7,rfl,(),()⟩
theorem Ek {v:Int}(a:0<=v) (b:v<2):∃n,atI [V.int 2,V.int 9] v=some (V.int n)/\0<n/\n<=9:=by
 have h:v=0\/v=1:=()
 rcases h with rfl | rfl
 ·exact ⟨2,rfl,(),()⟩
 ·exact ⟨9,rfl,(),()⟩
theorem Jf (L:xr rs) (h:1<=rs.length):1<=(ju rs).length:=by
 have:(rs.length-1)∈ju rs:=by
  refine List.mem_filter.mpr ⟨List.mem_range.mpr (),?_⟩
  unfold jZ
  rw [decide_eq_false]
  ·rfl
  ·intro z
   have:=Ze L z
   omega
 exact fZ this
noncomputable def ZT:Sp:=λvs H Q _=>∃(L b:Addr),vs=[.ref b]/\jG L H b/\∀sd H' c,jG L H' b->Ext b H H'->ScAt H' sd c->ScOk b c->c.sk.length<=10->(∀x∈c.lds,x.2.length<=10)->Q (.ref sd) H'
theorem qZ:FnScope ["_law_box_here","_law_reaches_here","_law_scene_here","_law_turn","_law_lane"] ["_law_box_here"] (ja zc):=by walk_at "s"
theorem Vi (nb:Nb2 mg) (c_law_take:Cal P w K mg base 2 "_law_take" ["_law_box_here","_law_size"] xG) (c_law_reaches:Cal P w K mg base 4 "_law_reaches" ["_law_box_here"] kE) (c_law_round:Cal P w K mg base 4 "_law_round" ["_law_box_here"] vd) (c_law_ground:Cal P w K mg base 1 "_law_ground" ["_law_reaches_here","_law_road"] (QG K)) (c_law_roads:Cal P w K mg base 1 "_law_roads" ["_law_reaches_here"] (Xj K)) (c_law_year:Cal P w K mg base 3 "_law_year" ["_law_box_here"] JU) (c_law_weather:Cal P w K mg base 3 "_law_weather" ["_law_box_here"] vC)
  (F:Fun K "_law_scene" "_law_scene" zc f fd):FnOk P w K mg base CX0 5 f fd ["_law_box_here"] ZT:=by
 refine F.ok qZ ↥12 ↥0
 ·obtain ⟨L,b,rfl,_⟩:=h
  rfl
 ·obtain ⟨L,b,rfl,B,k⟩:=h
  refine ⟨_,(j8 (vT (i:=1) qZ.nd rfl (ib rfl) (je c_law_reaches (hr.mono ⋯) rfl ↥29))
   (j8 (jA 2 qZ.nd (UQ (km jc (pv 1) (km jc (je c_law_round (hr.mono ⋯) rfl ↥29) (km jc ur UJ))) rfl rfl (λz=>by cases z) ⋯))
   (j8 (xh (jE hr) (pv 2) jc (jX (osc:=(ja zc)) (ON:=["_law_box_here","_law_reaches_here","_law_scene_here","_law_turn","_law_lane"]) (N:=["_law_road","_law_reaches_here"]) (own:=1) (caps:=[1]) ⟨rfl,∅,∅,∅,rfl,∅⟩ rfl rfl rfl (qi K (je c_law_roads (hr.mono ⋯) rfl ↥71)) (λ_ _ _ _ _=>(jm (i:=0) (show b8 (["_law_road","_law_reaches_here"]:List Str) by decide +kernel) rfl (bf rfl))) ↥24 (λ_ _ _ _ _=>(je c_law_ground (hr.mono ⋯) rfl (j2 (pv 1) ↥29)))) rfl)
   (zQ (xh (jE hr) (pv 2) jc (jX (osc:=(ja zc)) (ON:=["_law_box_here","_law_reaches_here","_law_scene_here","_law_turn","_law_lane"]) (N:=["_law_ground_here"]) (own:=1) (caps:=[]) ⟨rfl,∅,∅,∅,rfl,∅⟩ rfl rfl rfl (qi K (jy (jE hr) (pv 2) jc (λ_ _=>rfl))) (λ_ _ _ _ _=>(jm (i:=0) (show b8 (["_law_ground_here"]:List Str) by decide +kernel) rfl (bf rfl))) ↥24 (λ_ _ _ _ _=>ur)) rfl)
   (zQ (xk bC rfl (qI rfl nb.b_range (j2 ↥26 j5)) (jm (i:=3) qZ.nd rfl (bf rfl)) (jb (xh (jE hr) (jy (jE hr) (pv 2) jc (λ_ _=>rfl)) (je c_law_year (hr.mono ⋯) rfl ↥29) (je c_law_weather (hr.mono ⋯) rfl ↥29) rfl)))
   (j8 (xk bC rfl (qI rfl nb.b_range (j2 ↥26 j5)) (jm (i:=3) qZ.nd rfl (bf rfl)) (j8 (jA 4 qZ.nd (je c_law_take (hr.mono ⋯) rfl (j2 (pv 0) (j2 (jd (ji K) rfl nb.b_len aR (j2 (jy (jE hr) (pv 2) jc (λ_ _=>rfl)) j5)) j5))))
   (jb (xh (jE hr) (jj (jf K) (jy (jE hr) (pv 2) jc (λ_ _=>rfl)) (pv 4) (λ_ _=>rfl)) (je c_law_year (hr.mono ⋯) rfl ↥29) (jv qr j6 (je c_law_take (hr.mono ⋯) rfl (j2 (pv 0) (j2 (jj (jf K) (jD (j2 j6 (j2 j6 j5))) ↥2 (λ_ _=>rfl)) j5)))) rfl))))
   (jb (jk (pv 2))))))))),?_⟩
  left
  refine ⟨L,b,rfl,B,λp H1 xs rs B1 X1 hp hp1 r1 g1 l1 l8=>?_⟩
  have pb:p≠b:=B.ne hp
  left
  intro sd hsd
  have sdb:sd≠b:=B1.ne hsd
  have sd0:H sd=none:=X1.free hsd sdb
  left
  have Ba:jG L (upd H1 sd (.dK [])) b:=B1.put sdb (B1.neL hsd)
  refine ⟨L,b,rfl,Ba,λq Hb ys ts Bb Xb hq hqb r3b ht12 htg=>?_⟩
  have qb:q≠b:=Ba.ne hq
  have qsd:q≠sd:=λz=>by rw [z,j7] at hq;cases hq
  have sdB:Hb sd=some (.dK []):=Xb _ _ j7 sdb
  have pB:Hb p=some (.lst xs):=Xb _ _ (by rw [j9 (j4 hp1 hsd)];exact hp1) pb
  have rB:qf Hb xs rs:=(r1.keep (jw.same (jn.new hsd))).keep (xL Ba Xb)
  have XB:Ext b H Hb:=(X1.trans (Ext.new hsd)).trans Xb
  left
  intro sg hsg
  have sgb:sg≠b:=Bb.ne hsg
  have sg0:H sg=none:=XB.free hsg sgb
  have sgsd:sg≠sd:=(j4 sdB hsg).symm
  left
  refine ⟨by rw [j9 sgsd.symm];exact sdB,[↥41,↥64,↥61],rfl,by show 3<=15;decide,?_⟩
  have sC:jn Hb (upd Hb sg (.dK [])):=jn.new hsg
  have nD:∀{a:Addr} {o:HO},Hb a=some o->a≠sd->↥11 a=some o:=λh n=>by rw [j9 n];exact sC _ _ h
  have dD: ↥11 sd=some (.dK (x9 [] [↥41,↥64,↥61])):=j7
  have pD:=nD pB (jg pB sdB ↥4)
  have rD:qf ↥11 xs rs:=rB.keep λ_ _ h=>nD h (jg h sdB ↥4)
  have qD:=nD hqb qsd
  have r3D:jH ↥11 ys ts:=r3b.imp λ_ _ h=>nD h (jg h sdB ↥4)
  have sgD: ↥11 sg=some (.dK []):=by rw [j9 sgsd];exact j7
  have BD:jG L ↥11 b:=(Bb.same sC).put sdb (B1.neL hsd)
  have XD:Ext b H ↥11:=λc o h n=>nD (XB c o h n) (j4 h sd0)
  clear nD sC hsg sdB pB rB XB hqb r3b Bb Xb hq Ba
  generalize ↥11=Hd at *
  have Ld:=qp g1.ok
  left
  refine ⟨p,xs,rs,rfl,pD,rD,Ld,(),λl He out ws hl hle w1 hR s1=>?_⟩
  left
  refine ⟨⟨_,SqL.of hle⟩,λgl hgl=>?_⟩
  have hlw:out.length=ws.length:=aZ w1
  have hws:ws.length<=6:=by rw [hR.length];exact g1.heads
  have h100:∀r∈rs,r.2.length<=100:=λr hr=>aE (wM g1 r hr) ⋯
  have BE:=BD.same s1
  have glb:gl≠b:=BE.ne hgl
  refine jT (K:=K) (a:=l) (xs:=out) (acc:=gl) (λi σ H2=>∃(x:Option V) (zs:List V),σ=[x,some (.ref p)]/\H2 gl=some (.lst zs)/\zs.length=i/\d8 (λv (w:List Int)=>∃a,v=V.ref a/\H2 a=some (.lst (w.map V.int))/\He a=none/\a≠gl) zs ((ws.take i).map (jp rs))/\Ext gl He H2) ?_ ?_ ?_ ?_
  ·exact ⟨none,[],rfl,j7,rfl,.nil,Ext.put⟩
  ·rintro i σ H2 hi ⟨x,zs,rfl,h2,hz,r2,e2⟩
   exact SqL.of (e2 _ _ hle (j4 hle hgl))
  ·rintro i v σ H2 hv ⟨x,zs,rfl,h2,hz,r2,e2⟩
   obtain ⟨wy,hwy,a,rfl,ha1⟩:=Paired.get w1 hv
   have hi:=(List.getElem?_eq_some_iff.mp hwy).1
   obtain ⟨x',hx',ewy⟩:=hR.mem (ar hwy)
   have ha2:=e2 _ _ ha1 (j4 ha1 hgl)
   have hr1:=s1 _ _ pD
   have hl':=uo Ld x' (xA hx')
   have:=xA hx'
   left
   refine ⟨p,a,xs,rs,wy,rfl,e2 _ _ hr1 (j4 hr1 hgl),(rD.keep (jw.same s1)).keep (jw.new e2 hgl),h100,ha2,by rw [ewy];exact ze Ld x' (xA hx'),by rw [ewy];omega,λt H3 ht ht3 s3=>?_⟩
   have ta:t≠gl:=(j4 h2 ht).symm
   refine ⟨zs,s3 _ _ h2,jh (),some (.ref a),zs++[.ref t],rfl,j7,by rw [ay,hz];rfl,?_,λc o hc n=>by rw [j9 n];exact s3 _ _ (e2 c o hc n)⟩
   rw [qA (jp rs) ws i wy hwy]
   exact cE (Paired.mapP r2 λv wy ⟨a,e,ha,h0,na⟩=>⟨a,e,by rw [j9 na];exact s3 _ _ ha,h0,na⟩) ⟨t,rfl,by rw [j9 ta];exact ht3,e2.free ht ta,ta⟩
  rintro σ H2 ⟨x,zs,rfl,h2,hz,r2,e2⟩
  rw [hlw,bc] at r2
  have gi2:yg H2 zs (ws.map (jp rs)):=Paired.mapP r2 λv wy ⟨a,e,ha,h0,na⟩=>⟨a,e,ha⟩
  have zb:V.ref b∉zs:=λz=>by
   obtain ⟨_,a,e,_,h0,_⟩:=pm r2 _ z
   cases e
   exact absurd rfl (BE.ne h0)
  have s2:jn Hd H2:=λc o hc=>e2 _ _ (s1 _ _ hc) (j4 (s1 _ _ hc) hgl)
  have gl0:Hd gl=none:=s1.free hgl
  left
  refine ⟨sd,_,rfl,vG.k (k:=.inr "grounds") (s2 _ _ dD) (jh (aE (yd _ _) (by show 0+3<=1000;decide))),?_⟩
  rw [put4]
  have nF:∀{a:Addr} {o:HO},H2 a=some o->(∀kvs,o≠.dK kvs)->(upd H2 sd ↥7) a=some o:=λh n=>by rw [j9 (jg h (s2 _ _ dD) (n _))];exact h
  have dF:(upd H2 sd ↥7) sd=some ↥7:=j7
  have pF:=nF (s2 _ _ pD) ↥1
  have qF:=nF (s2 _ _ qD) ↥1
  have rF:qf (upd H2 sd ↥7) xs rs:=rD.keep λ_ _ h=>nF (s2 _ _ h) ↥1
  have r3F:jH (upd H2 sd ↥7) ys ts:=r3D.imp λ_ _ h=>nF (s2 _ _ h) ↥1
  have gF:=nF h2 ↥1
  have giF:yg (upd H2 sd ↥7) zs (ws.map (jp rs)):=Paired.mapP gi2 λv wy ⟨a,e,ha⟩=>⟨a,e,nF ha ↥1⟩
  have sgF:(upd H2 sd ↥7) sg=some (.dK []):=by rw [j9 sgsd];exact s2 _ _ sgD
  have BF:jG L (upd H2 sd ↥7) b:=(BD.same s2).put sdb (B1.neL hsd)
  have XF:Ext b H (upd H2 sd ↥7):=λc o h n=>by rw [j9 (j4 h sd0)];exact s2 _ _ (XD c o h n)
  clear nF gi2 s2 h2 r2 e2 BE hgl s1 w1 hle hl pD rD qD r3D sgD BD XD dD h100
  generalize (upd H2 sd ↥7)=Hf at *
  have hzw:zs.length<=6:=()
  refine ⟨λσ H5=>∃c,σ=[some (.ref b),some (.ref p),some (.ref sd),none,none]/\ScB L b H H5 sd c/\c.sk=[]/\∀x∈c.lds,x.2=[],?_,?_⟩
  ·left
   refine ⟨sd,.ref gl,rfl,by rw [<- Xp p q sg gl];exact qc.k (k:=.inr "grounds") dF,?_⟩
   left
   refine ⟨⟨_,SqL.of gF⟩,λle hle=>?_⟩
   have leb:le≠b:=BF.ne hle
   refine jT (K:=K) (a:=gl) (xs:=zs) (acc:=le) (λi σ He=>∃(x:Option V) (lds:List (Addr×List (Int×Int))),σ=[x]/\He le=some (.lst (lds.map λx=>V.ref x.1))/\lds.length=i/\(∀x∈lds,He x.1=some (.dK [])/\x.2=[]/\Hf x.1=none/\x.1≠le)/\(lds.map (·.1)).Nodup/\Ext le Hf He) ?_ ?_ ?_ ?_
   ·exact ⟨none,[],rfl,j7,rfl,(λx z=>by cases z),l9,Ext.put⟩
   ·rintro i σ He hi ⟨x,lds,rfl,he,hl,hd,nn,e⟩
    exact SqL.of (e _ _ gF (j4 gF hle))
   ·rintro i v σ He hv ⟨x,lds,rfl,he,hl,hd,nn,e⟩
    have hi:=(List.getElem?_eq_some_iff.mp hv).1
    left
    intro d hd0
    have dl:d≠le:=(j4 he hd0).symm
    refine ⟨_,(by rw [j9 (cG dl)];exact he),by rw [af];exact jh (),some v,lds++[(d,[])],rfl,(by rw [j7,aF];rfl),(by rw [ay,hl];rfl),λy hy=>?_,?_,λc o hc n=>?_⟩
    ·rcases List.mem_append.mp hy with z | z
     ·obtain ⟨h1,h2,h3,h4⟩:=hd y z
      exact ⟨by rw [j9 h4,j9 (j4 h1 hd0)];exact h1,h2,h3,h4⟩
     ·obtain rfl:y=(d,[]):=by simpa using z
      exact ⟨by rw [j9 dl];exact j7,rfl,e.free hd0 dl,dl⟩
    ·rw [aF]
     refine vE nn λz=>?_
     obtain ⟨y,hy,ey⟩:=List.mem_map.mp z
     have:=(hd y hy).1
     rw [ey,hd0] at this
     cases this
    ·rw [j9 n,j9 (j4 (e c o hc n) hd0)]
     exact e c o hc n
   ·rintro σ He ⟨x,lds,rfl,he,hl,hd,nn,e⟩
    have sE:jn Hf He:=λc o h=>e c o h (j4 h hle)
    left
    refine ⟨sd,_,rfl,vG.k (k:=.inr "leaps") (sE _ _ dF) (by show 4<sizeLine;decide),?_⟩
    rw [put5]
    have nG:∀{a:Addr} {o:HO},He a=some o->(∀kvs,o≠.dK kvs)->(upd He sd (.dK (scK p q sg gl le))) a=some o:=λh n=>by rw [j9 (jg h (sE _ _ dF) (n _))];exact h
    have lG:∀x∈lds,(upd He sd (.dK (scK p q sg gl le))) x.1=some (.dK (x.2.map kvI)):=λx hx=>by
     obtain ⟨h1,h2,h3,h4⟩:=hd x hx
     rw [j9 (j4 dF h3).symm,h2]
     exact h1
    have sgG:(upd He sd (.dK (scK p q sg gl le))) sg=some (.dK []):=by rw [j9 sgsd];exact sE _ _ sgF
    refine ⟨⟨p,q,sg,gl,le,xs,ys,zs,rs,ts,ws,[],lds⟩,rfl,⟨⟨j7,nG (sE _ _ pF) ↥1,rF.keep λ_ _ h=>nG (sE _ _ h) ↥1,nG (sE _ _ qF) ↥1,r3F.imp λ_ _ h=>nG (sE _ _ h) ↥1,nG (sE _ _ gF) ↥1,Paired.mapP giF λv wy ⟨a,e,ha⟩=>⟨a,e,nG (sE _ _ ha) ↥1⟩,nG he ↥1,.inl sgG,(λz hz=>by cases hz),λx hx=>.inl (lG x hx)⟩,
     ⟨g1,l1,l8,ht12.1,ht12.2,htg,hR,hl.trans (hz.trans hlw),nn,λx hx=>(j4 sgF (hd x hx).2.2.1).symm,pb,qb,glb,leb,zb,l9,(λz hz=>by cases hz),aP _,(λx hx=>by rw [(hd x hx).2.1];exact l9),(λx hx=>by rw [(hd x hx).2.1];intro z hz;cases hz),(λx hx=>by rw [(hd x hx).2.1];exact aP _)⟩,sgG,lG,(BF.same sE).put sdb (B1.neL hsd),λc o h n=>?_,sg0,λx hx=>?_⟩,rfl,λx hx=>(hd x hx).2.1⟩
    ·rw [j9 (j4 h sd0)]
     exact sE _ _ (XF c o h n)
    ·exact XF.free (hd x hx).2.2.1 (BF.ne (hd x hx).2.2.1)
  rintro σ H5 ⟨c,rfl,S5,k5,l5⟩
  clear dF pF qF rF r3F gF giF sgF BF XF zb hlw hws hz hzw
  refine ⟨λσ H6=>∃(x:Option V) (c:ScN),σ=[some (.ref b),some (.ref p),some (.ref sd),x,none]/\ScB L b H H6 sd c/\c.sk.length<=10/\∀x∈c.lds,x.2=[],?_,?_⟩
  ·left
   refine ⟨by show 3<=sizeLine;decide,λl6 H6 hl6 hl66 s6=>?_⟩
   have S6:=S5.same s6
   have l6b:l6≠b:=S5.B.ne hl6
   left
   refine ⟨L,b,_,rfl,S6.B,⟨⋯,⋯⟩,λv7 H7 p7 q7 B7 X7=>?_⟩
   have S7:=S6.take B7 X7
   obtain ⟨n,hn,n0,n1⟩:=Uq p7 q7
   refine ⟨_,_,_,_,rfl,rfl,SqL.of (X7 _ _ hl66 l6b),hn,?_⟩
   left
   refine ⟨L,b,_,rfl,S7.B,⟨n0,()⟩,λv8 H8 p8 q8 B8 X8=>?_⟩
   have S8:=S7.take B8 X8
   left
   refine ⟨(),(),?_⟩
   refine yn (λi σ H2=>∃(x:Option V) (c:ScN),σ=[some (.ref b),some (.ref p),some (.ref sd),x,none]/\ScB L b H H2 sd c/\c.sk.length<=i/\∀x∈c.lds,x.2=[]) ?_ ?_ ?_
   ·exact ⟨none,c,rfl,S8,by rw [k5];exact av _,l5⟩
   ·rintro i σ H2 hi ⟨x,c,rfl,S,hk,hl⟩
    left
    refine ⟨L,b,rfl,S.B,λt H9 r B9 X9 ht hg=>?_⟩
    have S9:=S.take B9 X9
    left
    refine ⟨sd,.ref c.sg,rfl,by rw [<- qP c.p c.q c.sg c.gl c.ll];exact qc.k (k:=.inr "single") S9.S.sd,?_⟩
    left
    refine ⟨L,b,rfl,S9.B,λy H10 y0 y1 B10 X10=>?_⟩
    have S10:=S9.take B10 X10
    refine ⟨c.sg,_,rfl,vG.k (k:=.inl y) S10.r1 (by rw [af];exact jh (by have:=S10.O.k3;omega)),?_⟩
    exact ⟨_,{ c with sk:=qQ c.sk y t },rfl,S10.single y0 y1 (X10 _ _ ht (S9.B.ne_tup ht)) hg (),aE (zg _ _ _) (),hl⟩
   ·rintro σ H2 ⟨x,c,rfl,S,hk,hl⟩
    exact ⟨x,c,rfl,S,(),hl⟩
  clear S5 k5 l5
  rintro σ H6 ⟨x,c,rfl,S6,sk6,l6⟩
  left
  refine ⟨by show 3<=sizeLine;decide,λl7 H7 hl7 hl77 s7=>?_⟩
  have S7:=S6.same s7
  have l7b:l7≠b:=S6.B.ne hl7
  left
  refine ⟨L,b,_,rfl,S7.B,⟨⋯,⋯⟩,λv8 H8 p8 q8 B8 X8=>?_⟩
  have S8:=S7.take B8 X8
  obtain ⟨n,hn,n0,n1⟩:=UT p8 q8
  refine ⟨_,_,_,_,rfl,rfl,SqL.of (X8 _ _ hl77 l7b),hn,?_⟩
  left
  refine ⟨L,b,_,rfl,S8.B,⟨n0,()⟩,λv9 H9 p9 q9 B9 X9=>?_⟩
  have S9:=S8.take B9 X9
  left
  refine ⟨(),(),?_⟩
  refine yn (λi σ H2=>∃(x y:Option V) (c:ScN),σ=[some (.ref b),some (.ref p),some (.ref sd),x,y]/\ScB L b H H2 sd c/\c.sk.length<=10/\∀x∈c.lds,x.2.length<=i) ?_ ?_ ?_
  ·exact ⟨x,none,c,rfl,S9,sk6,λx hx=>by rw [l6 x hx];exact av _⟩
  ·rintro i σ H2 hi ⟨x,y',c,rfl,S,hk10,hl⟩
   have hw1:1<=c.ws.length:=by
    rw [S.O.ro.length]
    exact Jf (qp S.O.gr.ok) S.O.l1
   have hzl:c.zs.length=c.ws.length:=(aZ S.S.gi).trans (af _)
   have hw6:c.ws.length<=6:=by rw [S.O.ro.length];exact S.O.gr.heads
   left
   refine ⟨sd,.ref c.gl,rfl,by rw [<- yC c.p c.q c.sg c.gl c.ll];exact qc.k (k:=.inr "grounds") S.S.sd,?_⟩
   left
   refine ⟨c.gl,_,rfl,.inl (SqL.of S.S.gl),?_⟩
   left
   refine ⟨L,b,_,rfl,S.B,⟨(),()⟩,λln H10 ln0 ln1 B10 X10=>?_⟩
   have S10:=S.take B10 X10
   left
   refine ⟨by show 2<=sizeLine;decide,λl11 H11 hl11 hl11' s11=>?_⟩
   have S11:=S10.same s11
   have l11b:l11≠b:=S10.B.ne hl11
   left
   refine ⟨L,b,_,rfl,S11.B,⟨⋯,⋯⟩,λv12 H12 p12 q12 B12 X12=>?_⟩
   have S12:=S11.take B12 X12
   obtain ⟨n,hn,n0,n1⟩:=Ek p12 q12
   refine ⟨_,_,_,_,rfl,rfl,SqL.of (X12 _ _ hl11' l11b),hn,?_⟩
   left
   refine ⟨L,b,_,rfl,S12.B,⟨n0,()⟩,λv13 H13 p13 q13 B13 X13=>?_⟩
   have S13:=S12.take B13 X13
   left
   have hll:ln.toNat<c.lds.length:=by rw [S.O.ldl];omega
   obtain ⟨⟨a,ns⟩,ha⟩:∃z,c.lds[ln.toNat]? = some z:=⟨_,ag hll⟩
   refine ⟨sd,.ref c.ll,rfl,by rw [<- zE c.p c.q c.sg c.gl c.ll];exact qc.k (k:=.inr "leaps") S13.S.sd,?_⟩
   left
   refine ⟨_,_,_,_,rfl,rfl,SqL.of S13.S.ll,qV ln0 (v:=V.ref a) (by rw [aq,ha];rfl),?_⟩
   left
   refine ⟨L,b,rfl,S13.B,λy H14 y0 y1 B14 X14=>?_⟩
   have S14:=S13.take B14 X14
   have hns:=hl _ (ar ha)
   refine ⟨a,_,rfl,vG.k (k:=.inl y) (S14.r2 _ (ar ha)) (by rw [af];exact jh (by have:ns.length<=i:=hns;omega)),?_⟩
   have hns:ns.length<=i:=hns
   refine ⟨_,_,{ c with lds:=c.lds.set ln.toNat (a,qQ ns y (1+v13)) },rfl,S14.leap ha y0 y1 () () (),hk10,λx hx=>?_⟩
   rcases ud S.O.nd ha hx with z | ⟨z,_⟩
   ·subst z
    exact aE (zg _ _ _) ()
   ·exact eV (hl x z)
  ·rintro σ H2 ⟨x,y',c,rfl,S,hk10,hl⟩
   left
   exact k sd H2 c S.B S.X S.S S.O hk10 (λx hx=>aE (hl x hx) ())
theorem IceNew.made {p dx:Addr}{H:Hp}{g:IceG}(hp:H p=none) (hd:H dx=none) (I:IceNew C Pt (upd (upd H dx o) p o') H' p g):IceNew C Pt H H' p g:=by
 have s:jn H (upd (upd H dx o) p o'):=λc u h=>by rw [j9 (j4 h hp),j9 (j4 h hd)];exact h
 exact ⟨I.at_,λc u h n m=>I.keep c u (s c u h) n m,s.free I.va,s.free I.cy,s.free I.sl,s.free I.ye,s.free I.le,λa z=>s.free (I.zs a z),I.kvs,λx hx=>⟨s.free (I.lds x hx).1,(I.lds x hx).2⟩,I.ll,I.nd,I.ny,I.sl2⟩
structure IceFr (H:Hp) (p:Addr) (g:IceG):Prop where
 p:H p=none
 va:H g.va=none
 cy:H g.cy=none
 sl:H g.sl=none
 ye:H g.ye=none
 le:H g.le=none
 zs:∀a,V.ref a∈g.zs->H a=none
 lds:∀x∈g.lds,H x.1=none
theorem IceAt.stay {p:Addr}{H3:Hp}{g:IceG}(I:IceAt C H2 p g) (F:IceFr H p g) (f:∀a o,H2 a=some o->H a=none->H3 a=some o) (t:jw H2 H3):IceAt C H3 p g :=
 ⟨f _ _ I.ob F.p,f _ _ I.va F.va,I.rs.keep t,f _ _ I.cy F.cy,I.rows.imp λ_ _ q=>t _ _ q,f _ _ I.sl F.sl,pmM I.slopes λv hv w ⟨a,ea,q⟩=>⟨a,ea,f _ _ q (F.zs a (ea ▸ hv))⟩,f _ _ I.ye F.ye,f _ _ I.le F.le,λx hx=>f _ _ (I.lds x hx) (F.lds x hx)⟩
theorem Fr3.ext {N:Addr->Prop}(f:Fr3 N M H H2) (e:Ext a H2 H3) (ha:H a=none):Fr3 N M H H3:=λc o h n=>by
 have ca:c≠a:=j4 h ha
 rcases f c o h n with q | ⟨m,ob,kvs,eo,q⟩
 ·exact .inl (e _ _ q ca)
 ·exact .inr ⟨m,ob,kvs,eo,e _ _ q ca⟩
theorem Fr3.same {N:Addr->Prop}(f:Fr3 N M H H2) (e:jn H2 H3):Fr3 N M H H3:=λc o h n=>by
 rcases f c o h n with q | ⟨m,ob,kvs,eo,q⟩
 ·exact .inl (e _ _ q)
 ·exact .inr ⟨m,ob,kvs,eo,e _ _ q⟩
theorem Fr3.frz {N:Addr->Prop}{ob:Obj}{kvs:List (Key×V)}(f:Fr3 N M H H2) (h:H2 a=some (.dK kvs)) (m:M a):Fr3 N M H (upd H2 a (.frz ob (.dK kvs))):=λc o hc n=>by
 by_cases e:c=a
 ·subst e
  rcases f c o hc n with q | ⟨_,ob',kvs',eo,q⟩
  ·rw [h] at q
   cases q
   exact .inr ⟨m,ob,kvs,rfl,j7⟩
  ·rw [h] at q
   cases q
 ·rw [j9 e]
  exact f c o hc n
theorem Yr {H:Hp}(h:H a=some (.dK kvs)):jw H (upd H a (.frz ob (.dK kvs))):=λc xs q=>by rw [j9 (jg q h ↥4)];exact q
theorem UM (T:qw H Pt) (h:H a=some (.dK kvs)):qw (upd H a (.frz ob (.dK kvs))) Pt:=by
 rcases T with q | ⟨c,q,q'⟩
 ·exact .inl (by rw [j9 (jg q h ↥4)];exact q)
 ·exact .inr ⟨c,by rw [j9 (jg q h ↥4)];exact q,by rw [j9 (jg q' h ↥4)];exact q'⟩
theorem QV (T:qw H Pt) (h:H a=some (.dK kvs)) (e:Ext a H H'):qw H' Pt:=by
 rcases T with q | ⟨c,q,q'⟩
 ·exact .inl (e _ _ q (jg q h ↥4))
 ·exact .inr ⟨c,e _ _ q (jg q h ↥4),e _ _ q' (jg q' h ↥4)⟩
theorem Gk {ns:List (Int×Addr)}{i:Nat}(h:(ns.map kvA)[i]? = some q):∃z,ns[i]? = some z/\q=kvA z:=by
 rw [aq] at h
 cases e:ns[i]? with
 | none=>rw [e] at h;cases h
 | some z=>rw [e] at h;cases h;exact ⟨z,rfl,rfl⟩
theorem Ja:∀{ns:List (Int×Addr)},(ns.map (·.1)).Nodup->∀{z:Int×Addr},z∈ns->qm (ns.map kvA) (.inl z.1)=some (.ref z.2)
 | [],_,z,h=>by cases h
 | q::r,nd,z,h=>by
  rw [aV] at nd
  obtain ⟨h1,h2⟩:=List.nodup_cons.mp nd
  rw [aV]
  rcases List.mem_cons.mp h with e | e
  ·subst e
   exact xc
  ·have ne:¬q.1=z.1:=λw=>h1 (by rw [w];exact bY e)
   show qm ((.inl q.1,.ref q.2)::r.map kvA) (.inl z.1)=_
   rw [jz (λw=>ne (dG w))]
   exact Ja h2 e
theorem VL {α:Type}{l:List (Int×α)}{y:Int}{a:α}(h:y∉l.map (·.1)):qQ l y a=l++[(y,a)]:=by
 unfold qQ
 rw [if_neg]
 intro z
 obtain ⟨u,hu,e⟩:=List.any_eq_true.mp z
 exact h (of_decide_eq_true e ▸ bY hu)
theorem Zf {α:Type}{l:List (Int×α)}(nd:(l.map (·.1)).Nodup) {i:Nat}{z:Int×α}(h:l[i]? = some z):z.1∉(l.take i).map (·.1):=λm=>by
 obtain ⟨hi,e⟩:=List.getElem?_eq_some_iff.mp h
 obtain ⟨u,hu,eu⟩:=List.mem_map.mp m
 obtain ⟨j,hj,ej⟩:=List.mem_iff_getElem.mp hu
 rw [b0] at hj
 rw [List.getElem_take] at ej
 have h1:(l.map (·.1))[j]'(by rw [af];omega)=(l.map (·.1))[i]'(by rw [af];exact hi):=by rw [ig,ig,ej,e,eu]
 exact absurd h1 (List.pairwise_iff_getElem.mp nd j i _ _ ())
theorem Xv {α:Type}{f:α->V}{l:List (Int×α)}(nd:(l.map (·.1)).Nodup) {i:Nat}{z:Int×α}(h:l[i]? = some z):qu ((l.take i).map λz=>↥54) (.inl z.1) (f z.2)=(l.take (i+1)).map λz=>↥54:=by
 rw [zA f,VL (Zf nd h),bL,h]
 rfl
structure LdN (g0:List ↥44) (cl:List (Addr×List (Int×Int))) (i n:Nat) (lds:List ↥44):Prop where
 fst:lds.map (·.1)=g0.map (·.1)
 at_:∀j x,lds[j]? = some x->∃y,cl[j]? = some y/\x.2=(if j<i then y.2 else if j=i then y.2.take n else []).map kvI
theorem LdN.len {lds:List ↥44}{cl:List (Addr×List (Int×Int))}{i n:Nat}(h:LdN g0 cl i n lds):lds.length=g0.length:=by
 have:=congrArg iq h.fst
 rwa [af,af] at this
theorem LdN.next {lds:List ↥44}{cl:List (Addr×List (Int×Int))}{i n:Nat}(h:LdN g0 cl i n lds) (hy:cl[i]? = some y) (hn:y.2.length<=n):LdN g0 cl (i+1) 0 lds:=⟨h.fst,λj x hx=>by
 obtain ⟨u,hu,e⟩:=h.at_ j x hx
 refine ⟨u,hu,?_⟩
 rw [e]
 by_cases a:j<i
 ·rw [if_pos a,if_pos ()]
 ·rw [if_neg a]
  by_cases b:j=i
  ·subst b
   rw [hy] at hu
   cases hu
   rw [if_pos rfl,if_pos (),cN hn]
  ·rw [if_neg b,if_neg ()]
   split
   ·rfl
   ·rfl⟩
theorem LdN.put {lds:List ↥44}{cl:List (Addr×List (Int×Int))}{i n:Nat}{a:Addr}{kvs:List (Key×V)}(h:LdN g0 cl i n lds) (hy:cl[i]? = some y) (nd:(y.2.map (·.1)).Nodup) (hz:y.2[n]? = some z) (ha:lds[i]? = some (a,kvs)):LdN g0 cl i (n+1) (x8 lds i (qu kvs (.inl z.1) (.int z.2))):=by
 obtain ⟨u,hu,e⟩:=h.at_ i _ ha
 rw [hy] at hu
 cases hu
 rw [if_neg (cw i),if_pos rfl] at e
 have e2:qu kvs (.inl z.1) (.int z.2)=(y.2.take (n+1)).map kvI:=by
  rw [show kvs=(y.2.take n).map kvI from e]
  exact Xv (f:=V.int) nd hz
 refine ⟨?_,λj x hx=>?_⟩
 ·rw [<- h.fst]
  unfold x8
  rw [ao,ha]
  exact JT ha
 ·unfold x8 at hx
  rw [cQ] at hx
  by_cases b:i=j
  ·subst b
   rw [if_pos rfl,if_pos (List.getElem?_eq_some_iff.mp ha).1] at hx
   cases hx
   exact ⟨y,hy,by rw [if_neg (cw i),if_pos rfl];exact e2⟩
  ·rw [if_neg b] at hx
   obtain ⟨u,hu,e⟩:=h.at_ j x hx
   refine ⟨u,hu,?_⟩
   rw [e]
   by_cases c:j<i
   ·rw [if_pos c,if_pos c]
   ·rw [if_neg c,if_neg c,if_neg (λq=>b q.symm),if_neg (λq=>b q.symm)]
theorem ScAt.fr {Pt sd:Addr}{H H':Hp}{c:ScN}(S:ScAt H sd c) (T:qw H Pt) (f:Fr3 (λa=>a=Pt) c.D H H'):ScAt H' sd c:=by
 obtain ⟨ps,hP⟩:=T.ne
 have n:∀{a:Addr} {o:HO},H a=some o->(∀ps,o≠.tbl ps)->¬a=Pt:=λh q=>jg h hP (q _)
 have nr:∀{a:Addr} {kvs:List (Key×V)},Rd H a (.dK kvs)->¬a=Pt:=λh=>by
  rcases h with h | ⟨o,h⟩
  ·exact n h ↥1
  ·exact n h ↥1
 exact S.keep f (λa xs h=>n h ↥1) (n S.sd ↥1) S.nD (n S.p ↥1) (n S.q ↥1) (n S.gl ↥1) (n S.ll ↥1) (λa h=>by
  obtain ⟨w,a',e,q⟩:=pm S.gi _ h
  cases e
  exact n q ↥1) (nr S.sg) λx hx=>nr (S.ld x hx)
theorem ScAt.inD {sd:Addr}{c:ScN}(S:ScAt H sd c) (h:c.D a):∃o,H a=some o:=by
 have r:∃kvs,Rd H a (.dK kvs):=by
  rcases h with h | ⟨x,hx,e⟩
  ·exact ⟨_,h ▸ S.sg⟩
  ·exact ⟨_,e ▸ S.ld x hx⟩
 obtain ⟨_,r | ⟨o,r⟩⟩:=r
 ·exact ⟨_,r⟩
 ·exact ⟨_,r⟩
theorem Vz (f:Fz a kvs o H H4):jw H H4:=λc xs q=>by
 rcases f.2 with rfl | ⟨h,rfl⟩
 ·exact q
 ·exact Yr h c xs q
theorem GN (f:Fz a kvs o H2 H4) (r:Fr3 N M H H2) (m:M a):Fr3 N M H H4:=by
 rcases f.2 with rfl | ⟨h,rfl⟩
 ·exact r
 ·exact r.frz h m
theorem WG (f:Fz a kvs o H H4) (T:qw H Pt):qw H4 Pt:=by
 rcases f.2 with rfl | ⟨h,rfl⟩
 ·exact T
 ·exact UM T h
structure MdI (C Pt p:Addr) (c:ScN) (H H2:Hp) (g:IceG):Prop where
 I:IceAt C H2 p g
 F:IceFr H p g
 R:Fr3 (λa=>a=Pt) c.D H H2
 T:qw H2 Pt
theorem MdI.frz {p sd:Addr}{c:ScN}{g:IceG}{kvs:List (Key×V)}(M:MdI C Pt p c H H2 g) (S:ScAt H sd c) (h:c.D a) (f:Fz a kvs o H2 H4):MdI C Pt p c H H4 g:=by
 obtain ⟨_,ha⟩:=S.inD h
 exact ⟨M.I.stay M.F (λb u hb n=>f.at hb (j4 ha n).symm) (Vz f),M.F,GN f M.R h,WG f M.T⟩
theorem MdI.same {p:Addr}{c:ScN}{g:IceG}(M:MdI C Pt p c H H2 g) (s:jn H2 H4):MdI C Pt p c H H4 g:=⟨M.I.same s,M.F,M.R.same s,M.T.same s⟩
theorem LdN.mem {g0 lds:List ↥44}{cl:List (Addr×List (Int×Int))}{i n:Nat}(h:LdN g0 cl i n lds) {x:Addr×List (Key×V)}(hx:x∈lds):∃y∈g0,y.1=x.1:=by
 have:x.1∈g0.map (·.1):=h.fst ▸ bY hx
 obtain ⟨y,hy,e⟩:=List.mem_map.mp this
 exact ⟨y,hy,e⟩
noncomputable def VG (C Pt:Addr):Sp:=λvs H Q _=>∃(sd b:Addr) (c:ScN),vs=[.ref sd]/\ScAt H sd c/\ScOk b c/\qw H Pt /\
 ∀p H' g,IceAt C H' p g->IceFr H p g->Fr3 (λa=>a=Pt) c.D H H'->qw H' Pt->g.rs=c.rs->g.rows=c.ts->g.slopes=c.ws.map (jp c.rs)->g.kvs=c.sk.map kvA->g.lds.length=c.lds.length->(∀(l:Nat) x,g.lds[l]? = some x->∃y,c.lds[l]? = some y/\x.2=y.2.map kvI)->(∀x∈g.lds,x.1≠g.ye)->(g.lds.map (·.1)).Nodup->Q (.ref p) H'
theorem xq:FnScope ["_law_scene_here","_law_ice","_law_year_here","_law_lane","_law_leaps"] ["_law_scene_here"] (ja vZ):=by walk_at "s"
theorem W1 {CR:Addr}(nb:Nb2 mg) (cl_Ice:Cls K C) (c_Ice:MakX P w K mg base 8 C "Ice" ["self","reaches","rows"] (Z9 C CV CR Pt)) (c_Ice__tell:CalMX P w K mg base 2 C "tell" ["self","year","row"] (Zs C CY CW)) (c_Ice__surge:CalMX P w K mg base 2 C "surge" ["self","lane","year","many"] (JI C CN CY CS)) (F:Fun K "_law_made" "_law_made" vZ f fd):FnOk P w K mg base CX0 10 f fd ["_law_scene_here"] (VG C Pt):=by
 refine F.ok xq ↥12 ↥0
 ·obtain ⟨sd,b,c,rfl,_⟩:=h
  rfl
 ·obtain ⟨sd,b,c,rfl,S,O,T,k⟩:=h
  refine ⟨_,(j8 (jA 1 xq.nd (ZV c_Ice (hr.mono ⋯) vk rfl (j2 (jL (jN K) rfl nb.b_list bo (j2 ↥16 j5)) (j2 (jL (jN K) rfl nb.b_list bo (j2 ↥16 j5)) j5))))
   (j8 (xk bC rfl (Y8 ↥16) (jm (i:=2) xq.nd rfl (bf rfl)) (jb (jU (zf (pv 1) cl_Ice c_Ice__tell (hr.mono ⋯) vk (j2 (pv 2) (j2 (jy (jE hr) ↥16 (pv 2) (λ_ _=>rfl)) j5))))))
   (j8 (xk bC rfl (wO K rfl nb.b_enumerate (j2 ↥16 j5)) (xQ (n:=2) K rfl (jO (jm (i:=3) xq.nd rfl (bf rfl)) (jO (jm (i:=4) xq.nd rfl (bf rfl)) xD))) (jb (xk bC rfl (Y8 (pv 4)) (jm (i:=2) xq.nd rfl (bf rfl)) (jb (jU (zf (pv 1) cl_Ice c_Ice__surge (hr.mono ⋯) vk (j2 (pv 3) (j2 (pv 2) (j2 (jy (jE hr) (pv 4) (pv 2) (λ_ _=>rfl)) j5)))))))))
   (jb (jk (pv 1)))))),?_⟩
  left
  refine ⟨sd,.ref c.p,rfl,by rw [<- gg c.p c.q c.sg c.gl c.ll];exact qc.k (k:=.inr "reaches") S.sd,?_⟩
  refine ⟨_,_,rfl,.inl (SqL.of S.p),λl1 H1 hl1 hl11 s1=>?_⟩
  have S1:=S.same s1
  left
  refine ⟨sd,.ref c.q,rfl,by rw [<- uk c.p c.q c.sg c.gl c.ll];exact qc.k (k:=.inr "rows") S1.sd,?_⟩
  refine ⟨_,_,rfl,.inl (SqL.of S1.q),λl2 H2 hl2 hl22 s2=>?_⟩
  have S2:=S1.same s2
  have s12:=s1.trans s2
  left
  intro p dx hp hd hdp
  have s3:jn H2 (upd (upd H2 dx (.own p)) p (.ins C dx [])):=λc u h=>by rw [j9 (j4 h hp),j9 (j4 h hd)];exact h
  have S3:=S2.same s3
  have egr:gr c.ts=true:=by
   have:=O.t1
   have:=O.t2
   unfold gr
   rw [decide_eq_true (),O.tg]
   rfl
  have eg:=O.gr.good O.l1 O.l8
  refine ⟨p,dx,l1,l2,c.xs,c.ys,c.rs,c.ts,rfl,j7,s3 _ _ (s2 _ _ hl11),S3.rv,s3 _ _ hl22,S3.r3,λr hr=>aE (wM O.gr r hr) ⋯,aE O.l8 ⋯,aE O.t2 ⋯,(T.same s12).same s3,λH4 g _ _ I e1 e2 e3 e4 T4=>?_,(λH' z _ _=>by rw [eg] at z;cases z),(λH' _ z _ _=>by rw [egr] at z;cases z)⟩
  have I:=I.made hp hd
  obtain ⟨ws,hR,esl⟩:=I.sl2
  rw [e1] at hR esl
  obtain rfl:=hR.unique O.ro
  have F4:IceFr H p g:=⟨s12.free hp,s12.free I.va,s12.free I.cy,s12.free I.sl,s12.free I.ye,s12.free I.le,λa z=>s12.free (I.zs a z),λx hx=>s12.free (I.lds x hx).1⟩
  have M4:MdI C Pt p c H H4 g:=⟨I.at_,F4,λa o h n=>.inl (I.keep a o (s12 _ _ h) (j4 h F4.p) n),T4⟩
  have ll4:g.lds.length=c.lds.length:=by rw [I.ll,esl,af,O.ldl]
  have nd4:=I.nd
  have ny4:=I.ny
  have kv4:=I.kvs
  have ld4:∀x∈g.lds,x.2=[]:=λx hx=>(I.lds x hx).2
  clear I S3 s3 S2 hl22 hl11 S1 T4
  refine ⟨rfl,?_⟩
  have S4:=S.fr T M4.R
  left
  refine ⟨sd,.ref c.sg,rfl,by rw [<- qP c.p c.q c.sg c.gl c.ll];exact qc.k (k:=.inr "single") S4.sd,?_⟩
  have hsgD:c.D c.sg:=.inl rfl
  refine Jx (kvs:=c.sk.map kvA) S4.sg (λo i σ H5=>∃x:Option V,σ=[some (.ref sd),some (.ref p),x,none,none]/\H5 c.sg=some (.frz o (.dK (c.sk.map kvA)))/\MdI C Pt p c H H5 { g with kvs:=(c.sk.take i).map kvA }) ?_ ?_ ?_ ?_
  ·intro o H5 f5
   refine ⟨none,rfl,f5.1,?_⟩
   have:=M4.frz S hsgD f5
   have e:g={ g with kvs:=(c.sk.take 0).map kvA }:=by
    show g={ g with kvs:=[] }
    rw [<- kv4]
   rw [<- e]
   exact this
  ·rintro o i σ H5 hi ⟨x,rfl,h5,M5⟩
   exact h5
  ·rintro o i u σ H5 hq ⟨x,rfl,h5,M5⟩
   obtain ⟨z,hz,rfl⟩:=Gk hq
   have hm:=ar hz
   have hi:i<c.sk.length:=(List.getElem?_eq_some_iff.mp hz).1
   have h10:=O.k3
   have S5:=S.fr T M5.R
   obtain ⟨r,hr3,hgr⟩:=S5.sk z hm
   obtain ⟨y0,y1⟩:=O.k2 z hm
   show J9 2 (V.int z.1) _ _ _
   left
   refine ⟨p,g.dx,_,rfl,M5.I.ob,qa ∅,?_⟩
   left
   refine ⟨sd,.ref c.sg,rfl,by rw [<- qP c.p c.q c.sg c.gl c.ll];exact qc.k (k:=.inr "single") S5.sd,?_⟩
   left
   refine ⟨c.sg,.ref z.2,rfl,(by rw [<- Ja O.k1 hm];exact .inl ⟨_,.inl z.1,.inr ⟨o,h5⟩,rfl,rfl⟩),?_⟩
   refine ⟨p,z.2,_,z.1,r,rfl,M5.I,ny4,hr3,(by rw [af,b0];omega),λH6 _ _ _ X6 I6=>?_,λhb=>absurd hb (),λ_ _ hb=>by rw [hgr] at hb;cases hb⟩
   have e:qu ((c.sk.take i).map kvA) (.inl z.1) (.ref z.2)=(c.sk.take (i+1)).map kvA:=Xv (f:=V.ref) O.k1 hz
   obtain ⟨_,hsg0⟩:=S.inD hsgD
   refine ⟨_,rfl,X6 _ _ h5 (j4 hsg0 F4.ye),?_⟩
   rw [<- e]
   exact ⟨I6,⟨F4.p,F4.va,F4.cy,F4.sl,F4.ye,F4.le,F4.zs,F4.lds⟩,M5.R.ext X6 F4.ye,QV M5.T M5.I.ye X6⟩
  ·rintro o σ H5 ⟨x,rfl,h5,M5⟩
   rw [af,bc] at M5
   have S5:=S.fr T M5.R
   left
   refine ⟨sd,.ref c.ll,rfl,by rw [<- zE c.p c.q c.sg c.gl c.ll];exact qc.k (k:=.inr "leaps") S5.sd,?_⟩
   left
   refine ⟨⟨_,SqL.of S5.ll⟩,?_⟩
   refine kU (K:=K) (a:=c.ll) (xs:=c.lds.map λx=>V.ref x.1) (λi σ H6=>∃(x y z:Option V) (lds:List ↥44),σ=[some (.ref sd),some (.ref p),x,y,z]/\MdI C Pt p c H H6 { g with kvs:=c.sk.map kvA,lds:=lds }/\LdN g.lds c.lds i 0 lds) ?_ ?_ ?_ ?_
   ·refine ⟨x,none,none,g.lds,rfl,M5,rfl,λj x hx=>?_⟩
    have hj:=(List.getElem?_eq_some_iff.mp hx).1
    obtain ⟨y,hy⟩:∃y,c.lds[j]? = some y:=⟨_,ag ()⟩
    refine ⟨y,hy,?_⟩
    rw [ld4 x (ar hx),if_neg (rm _)]
    split <;> rfl
   ·rintro i σ H6 hi ⟨x,y,z,lds,rfl,M6,L6⟩
    exact SqL.of (S.fr T M6.R).ll
   ·rintro i v σ H6 t hv ⟨x,y,z,lds,rfl,M6,L6⟩ ht
    rw [aq] at hv
    obtain ⟨⟨a,ns⟩,hy,ev⟩:=Option.map_eq_some_iff.mp hv
    subst ev
    have M7:=M6.same (jn.new (o:=.tup [.int i,.ref a]) ht)
    left
    refine ⟨t,_,rfl,SqT.of j7,rfl,?_⟩
    refine ⟨_,_,rfl,_,_,rfl,rfl,?_⟩
    left
    clear M6
    generalize upd H6 t (.tup [.int i,.ref a])=H7 at *
    have S7:=S.fr T M7.R
    have hm:=ar hy
    have haD:c.D a:=.inr ⟨_,hm,rfl⟩
    obtain ⟨_,ha0⟩:=S.inD haD
    refine Jx (kvs:=ns.map kvI) (S7.ld _ hm) (λo n σ H8=>∃(x:Option V) (lds:List ↥44),σ=[some (.ref sd),some (.ref p),x,some (.int i),some (.ref a)]/\H8 a=some (.frz o (.dK (ns.map kvI)))/\MdI C Pt p c H H8 { g with kvs:=c.sk.map kvA,lds:=lds }/\LdN g.lds c.lds i n lds) ?_ ?_ ?_ ?_
    ·intro o H8 f8
     exact ⟨x,lds,rfl,f8.1,M7.frz S haD f8,L6⟩
    ·rintro o n σ H8 hn ⟨x,lds,rfl,h8,M8,L8⟩
     exact h8
    ·clear L6 M7 S7
     rintro o n u σ H8 hq ⟨x,lds,rfl,h8,M8,L8⟩
     obtain ⟨z,hz,rfl⟩:=Gs hq
     have hzm:=ar hz
     obtain ⟨y0,y1,m0,m1⟩:=O.m2 _ hm z hzm
     have hl8:=L8.len
     have hi8:i<lds.length:=by
      have:=(↥51).1
      omega
     have hsl:g.slopes.length=lds.length:=by rw [esl,af,hl8,ll4,O.ldl]
     show J9 2 (V.int z.1) _ _ _
     left
     refine ⟨p,g.dx,_,rfl,M8.I.ob,qa ∅,?_⟩
     left
     refine ⟨a,.int z.2,rfl,(by rw [<- Jp (O.m1 _ hm) hzm,<- vB ns z.1 (bY hzm)];exact .inl ⟨_,.inl z.1,.inr ⟨o,h8⟩,rfl,rfl⟩),?_⟩
     refine ⟨p,_,(i:Int),z.1,z.2,rfl,M8.I,hsl.symm,(λx hx=>by obtain ⟨y,hy,e⟩:=L8.mem hx;rw [<- e];exact ny4 y hy),(by show (lds.map (·.1)).Nodup;rw [L8.fst];exact nd4),(λx hx=>?_),λH9 a9 kvs9 _ _ _ _ _ _ ha9 X9 I9=>?_,(λhb=>absurd hb (by show ¬((i:Int)<0\/ ↥18<=i);omega)),(λ_ _ hb=>absurd hb ()),λ_ _ _ _ hb=>absurd hb ()⟩
     ·obtain ⟨j,hj,ex⟩:=List.mem_iff_getElem.mp hx
      obtain ⟨y,hy,e⟩:=L8.at_ j x (by rw [ag hj,ex])
      have h10:=O.m3 y (ar hy)
      rw [e,af]
      split
      ·omega
      ·split
       ·rw [b0];omega
       ·exact aP _
     ·have ha9:lds[i]? = some (a9,kvs9):=ha9
      have L9:=L8.put hy (O.m1 _ hm) hz ha9
      have a90:H a9=none:=M8.F.lds _ (ar ha9)
      refine ⟨_,_,rfl,X9 _ _ h8 (j4 ha0 a90),⟨I9,⟨F4.p,F4.va,F4.cy,F4.sl,F4.ye,F4.le,F4.zs,λx hx=>?_⟩,M8.R.ext X9 a90,QV M8.T (M8.I.lds _ (ar ha9)) X9⟩,L9⟩
      obtain ⟨y,hy,e⟩:=L9.mem hx
      rw [<- e]
      exact F4.lds y hy
    ·rintro o σ H8 ⟨x,lds,rfl,h8,M8,L8⟩
     exact ⟨x,_,_,lds,rfl,M8,L8.next hy (by rw [af];exact av _)⟩
   ·rintro σ H6 ⟨x,y,z,lds,rfl,M6,L6⟩
    left
    refine k p H6 _ M6.I M6.F M6.R M6.T e1 e2 esl rfl (L6.len.trans ll4) (λl x hx=>?_) (λx hx=>?_) (by show (lds.map (·.1)).Nodup;rw [L6.fst];exact nd4)
    ·obtain ⟨y,hy,e⟩:=L6.at_ l x hx
     refine ⟨y,hy,?_⟩
     rw [e,if_pos (by rw [af];exact (↥51).1)]
    ·obtain ⟨y,hy,e⟩:=L6.mem hx
     rw [<- e]
     exact ny4 y hy
theorem wg (h:zm rs=true):1<=rs.length/\rs.length<=8/\wb rs=true/\∀ws,qe rs ws->∀w∈ws,(jp rs w).length<=30:=by
 unfold zm at h
 rw [b9,b9,b9] at h
 obtain ⟨h1,h2,_,h4⟩:=h
 have h1:=of_decide_eq_true h1
 refine ⟨(),(),h2,λws hR w hw=>?_⟩
 obtain ⟨x,hx,e⟩:=hR.mem hw
 have:=of_decide_eq_true (List.all_eq_true.mp h4 x hx)
 have g:=kq rs w
 rw [<- e] at this
 omega
theorem XU (G:Grown rs) {ws:List (List Int)}(R:qe rs ws) {w:List Int}(hw:w∈ws):1<=(jp rs w).length:=by
 obtain ⟨x,hx,e⟩:=R.mem hw
 have hl:=xA hx
 have o:=JF G.ok (ag hl)
 unfold okR at o
 rw [b9,b9] at o
 have o:=of_decide_eq_true o.1.2
 have eh:y7 rs ((x:Int)).toNat=(rs[x]'hl).2:=by
  unfold y7
  rw [bz,ao,ag hl]
  rfl
 rw [e,zS (qp G.ok) hl]
 unfold jp
 rw [aV,lA,ay,eh]
 omega
theorem Y5 (B:jG L Ha b) (e:Ext b Ha Hb) (T:qw Ha Pt):qw Hb Pt:=by
 obtain ⟨ns,a,r,c,d,h1,_⟩:=B
 exact T.ext h1 e
structure Lw (C L b sd p:Addr) (c:ScN) (g:IceG) (H0 H:Hp):Prop where
 B:jG L H b
 S:ScAt H sd c
 I:IceAt C H p g
 O:ScOk b c
 F:IceFr H0 p g
 B0:jG L H0 b
 S0:ScAt H0 sd c
theorem Um {M:Addr->Prop}(f:Fz a kvs o H H4) (m:M a):FrM M H H4:=λc u hc=>by
 rcases f.2 with rfl | ⟨h,rfl⟩
 ·exact .inl hc
 ·by_cases e:c=a
  ·subst e
   rw [h] at hc
   cases hc
   exact .inr ⟨m,o,kvs,rfl,j7⟩
  ·rw [j9 e]
   exact .inl hc
theorem Lw.start {C L b sd p Pt:Addr}{c:ScN}{g:IceG}{H2 H3:Hp}(S2:ScAt H2 sd c) (O:ScOk b c) (B2:jG L H2 b) (T2:qw H2 Pt) (I3:IceAt C H3 p g) (F3:IceFr H2 p g) (R3:Fr3 (λa=>a=Pt) c.D H2 H3):Lw C L b sd p c g H2 H3:=by
 refine ⟨?_,S2.fr T2 R3,I3,O,F3,B2,S2⟩
 obtain ⟨ps,hP⟩:=T2.ne
 obtain ⟨ns,a,r,c,d,h1,h2,h3,h4⟩:=B2
 exact ⟨ns,a,r,c,d,R3.at h1 (jg h1 hP ↥4) ↥1,h2,R3.at h3 (jg h3 hP ↥4) ↥1,h4⟩
structure Lk (c:ScN) (g:IceG):Prop where
 rs:g.rs=c.rs
 rows:g.rows=c.ts
 sl:g.slopes=c.ws.map (jp c.rs)
 kv:g.kvs=c.sk.map kvA
 ll:g.lds.length=c.lds.length
 ld:∀(l:Nat) x,g.lds[l]? = some x->∃y,c.lds[l]? = some y/\x.2=y.2.map kvI
 ny:∀x∈g.lds,x.1≠g.ye
 nd:(g.lds.map (·.1)).Nodup
structure LaneF (c:ScN) (g:IceG) (ln:Int) (wy:List Int) (da:Addr) (dn:List (Int×Int)):Prop where
 way:c.ws[ln.toNat]? = some wy
 sl:g.slopes.getD ln.toNat []=jp c.rs wy
 g1:1<=(jp c.rs wy).length
 g30:(jp c.rs wy).length<=30
 cd:c.lds[ln.toNat]? = some (da,dn)
 D:c.D da
 nd:(dn.map (·.1)).Nodup
 b:∀q∈dn,0<=q.1/\q.1<=99/\1<=q.2/\q.2<=9
 l10:dn.length<=40
 at_:LdAt g ln dn
 l0:0<=ln
 l1:ln< ↥18
theorem Lk.lane {b:Addr}{c:ScN}{g:IceG}(k:Lk c g) (O:ScOk b c) {ln:Int}(h0:0<=ln) (h1:ln< ↥59):∃wy da dn,LaneF c g ln wy da dn:=by
 have hi:ln.toNat<c.ws.length:=()
 have hwy:=ag hi
 have hgs:g.slopes[ln.toNat]? = some (jp c.rs (c.ws[ln.toNat]'hi)):=by rw [k.sl,aq,hwy];rfl
 have hl:g.slopes.length=c.ws.length:=by rw [k.sl,af]
 obtain ⟨⟨da,dn⟩,hda⟩:∃z,c.lds[ln.toNat]? = some z:=⟨_,ag (by rw [O.ldl];omega)⟩
 have hdm:=ar hda
 obtain ⟨⟨da2,dk⟩,hda2⟩:∃z,g.lds[ln.toNat]? = some z:=⟨_,ag (by rw [k.ll,O.ldl];omega)⟩
 obtain ⟨_,q1,q2⟩:=k.ld _ _ hda2
 rw [hda] at q1
 cases q1
 obtain rfl:dk=dn.map kvI:=q2
 have hm:=bW hi
 have h10:dn.length<=40:=O.m3 _ hdm
 exact ⟨_,da,dn,hwy,by rw [ao,hgs];rfl,XU O.gr O.ro hm,(wg (O.gr.good O.l1 O.l8)).2.2.2 c.ws O.ro _ hm,hda,.inr ⟨_,hdm,rfl⟩,O.m1 _ hdm,O.m2 _ hdm,h10,⟨h0,(),⟨da2,hda2⟩,O.m1 _ hdm,(),λq hq=>by have:=O.m2 _ hdm q hq;omega⟩,h0,()⟩
noncomputable def Y4 (C CY CO:Addr):Sp:=λvs H Q E=>∃(p:Addr) (g:IceG) (y:Int),vs=[.ref p,.int y]/\IceAt C H p g/\(∀x∈g.lds,x.1≠g.ye) /\
 (∀H',0<=y->y<=99->(qm g.kvs (.inl y)).isSome=true->Ext g.ye H H'->IceAt C H' p { g with kvs:=zk g.kvs (.inl y) }->Q .non H')/\(y<0\/99<y->E (.ref CY) none H)/\(0<=y->y<=99->qm g.kvs (.inl y)=none->E (.ref CO) none H)
theorem gQ:FnScope ["self","year"] ["self","year"] (ja yA):=by walk_at "s"
theorem gU (nb:Nb2 mg) (T:IceC K C) (e_NotTold:mg "NotTold" = some (.ref CO)) (x_NotTold:cI K CO [.type "ValueError",.type "Exception",.type "BaseException",.type "object"] "ValueError.__new__" = true) (c_check_told:CalX P w K mg base 1 "check_told" ["year"] (xW CY)) (F:Fun K "plain" "Ice.plain" yA f fd):FnOk P w K mg base (CX1 P w) 2 f fd ["self","year"] (Y4 C CY CO):=by
 refine Fun.okX F gQ ↥12 ↥0
 ·obtain ⟨p,g,y,rfl,_⟩:=h
  rfl
 ·obtain ⟨p,g,y,rfl,I,hn,k,ky,ko⟩:=h
  refine ⟨_,(j8 (jU (zO c_check_told (hr.mono ⋯) xE rfl ↥71))
   (j8 (jF (gf (vA (jE hr) (pv 1) (jV K (pv 0))) ↥35) (jb (qT bh x_NotTold e_NotTold rfl xI rfl (j2 jc j5))) jo)
   (jb (Yd (jV K (pv 0)) (pv 1))))),?_⟩
  left
  refine ⟨λh0 h1=>?_,λhb=>ky hb⟩
  left
  refine ⟨p,C,g.dx,_,_,rfl,I.ob,T.cl,T.nY,xm _ _ _ _ _,?_⟩
  left
  refine ⟨g.ye,_,rfl,qc.k (k:=.inl y) I.ye,?_⟩
  cases ev:qm g.kvs (.inl y) with
  | none =>
   left
   exact ⟨by show 1<=sizeLine;decide,ko h0 h1 ev⟩
  | some v =>
   left
   refine ⟨p,C,g.dx,_,_,rfl,I.ob,T.cl,T.nY,xm _ _ _ _ _,?_⟩
   left
   refine ⟨g.ye,_,.inl y,rfl,I.ye,rfl,by rw [ev];rfl,?_⟩
   exact k _ h0 h1 (by rw [ev];rfl) Ext.put (I.years hn Ext.put j7)
noncomputable def VH (C CN CY CO:Addr):Sp:=λvs H Q E=>∃(p:Addr) (g:IceG) (l y:Int),vs=[.ref p,.int l,.int y]/\IceAt C H p g/\g.lds.length=g.slopes.length/\(∀x∈g.lds,x.1≠g.ye)/\(g.lds.map (·.1)).Nodup /\
 (∀H' a kvs,0<=l->l< ↥18->0<=y->y<=99->g.lds[l.toNat]? = some (a,kvs)->(qm kvs (.inl y)).isSome=true->Ext a H H'->IceAt C H' p { g with lds:=x8 g.lds l.toNat (zk kvs (.inl y)) }->Q .non H') /\
 (l<0\/ ↥18<=l->E (.ref CN) none H)/\(0<=l->l< ↥18->y<0\/99<y->E (.ref CY) none H)/\(∀a kvs,0<=l->l< ↥18->0<=y->y<=99->g.lds[l.toNat]? = some (a,kvs)->qm kvs (.inl y)=none->E (.ref CO) none H)
theorem Qm:FnScope ["self","lane","year"] ["self","lane","year"] (ja vp):=by walk_at "s"
theorem JN (nb:Nb2 mg) (T:IceC K C) (cl_Ice:Cls K C) (e_NotTold:mg "NotTold" = some (.ref CO)) (x_NotTold:cI K CO [.type "ValueError",.type "Exception",.type "BaseException",.type "object"] "ValueError.__new__" = true) (c_Ice__check_lane:CalMX P w K mg base 1 C "check_lane" ["self","lane"] (xo C CN)) (c_check_told:CalX P w K mg base 1 "check_told" ["year"] (xW CY)) (F:Fun K "calm" "Ice.calm" vp f fd):FnOk P w K mg base (CX1 P w) 2 f fd ["self","lane","year"] (VH C CN CY CO):=by
 refine Fun.okX F Qm ↥12 ↥0
 ·obtain ⟨p,g,l,y,rfl,_⟩:=h
  rfl
 ·obtain ⟨p,g,l,y,rfl,I,hll,hn,nd,k,kn,ky,ko⟩:=h
  refine ⟨_,(j8 ↥39
   (j8 (jU (zO c_check_told (hr.mono ⋯) xE rfl ↥89))
   (j8 (jF (gf (vA (jE hr) (pv 2) ↥46) ↥35) (jb (qT bh x_NotTold e_NotTold rfl xI rfl (j2 jc j5))) jo)
   (jb (Yd ↥46 (pv 2)))))),?_⟩
  left
  refine ⟨p,g.dx,_,rfl,I.ob,qa ∅,?_⟩
  left
  refine ⟨p,g,l,rfl,I,λl0 l1=>?_,λhb=>kn hb⟩
  left
  refine ⟨λh0 h1=>?_,λhb=>ky l0 l1 hb⟩
  have hi:l.toNat<g.lds.length:=()
  have h0':=I.lds _ (bW hi)
  have hat:atI (g.lds.map λx=>V.ref x.1) l=some (V.ref (g.lds[l.toNat]'hi).1):=qV l0 (by rw [aq,ag hi];rfl)
  left
  refine ⟨p,C,g.dx,_,_,rfl,I.ob,T.cl,T.nL,xK _ _ _ _ _,?_⟩
  left
  refine ⟨_,_,_,_,rfl,rfl,SqL.of I.le,hat,?_⟩
  left
  refine ⟨_,_,rfl,qc.k (k:=.inl y) h0',?_⟩
  cases ev:qm (g.lds[l.toNat]'hi).2 (.inl y) with
  | none =>
   left
   exact ⟨by show 1<=sizeLine;decide,ko _ _ l0 l1 h0 h1 (ag hi) ev⟩
  | some v =>
   left
   refine ⟨p,C,g.dx,_,_,rfl,I.ob,T.cl,T.nL,xK _ _ _ _ _,?_⟩
   left
   refine ⟨_,_,_,_,rfl,rfl,SqL.of I.le,hat,?_⟩
   left
   refine ⟨_,_,.inl y,rfl,h0',rfl,by rw [ev];rfl,?_⟩
   exact k _ _ _ l0 l1 h0 h1 (ag hi) (by show (qm (g.lds[l.toNat]'hi).2 (.inl y)).isSome=true;rw [ev];rfl) Ext.put (I.leap (ag hi) hn nd Ext.put j7)
theorem IceAt.cycle {p cy:Addr}{H':Hp}{g:IceG}{ys:List V}{ts:List T3}(I:IceAt C H p g) (s:∀a u,H a=some u->a≠p->H' a=some u) (ho:H' p=some (.ins C g.dx (xM g.va cy g.sl g.ye g.le))) (hc:H' cy=some (.lst ys)) (hr:jH H' ys ts):IceAt C H' p { g with cy:=cy,ys:=ys,rows:=ts } :=
 have n:∀{a:Addr} {u:HO},H a=some u->(∀c d f,u≠.ins c d f)->H' a=some u:=λh d=>s _ _ h (jg h I.ob (d _ _ _))
 ⟨ho,n I.va ↥9,I.rs.keep λa xs h=>n h ↥9,hc,hr,n I.sl ↥9,Paired.mapP I.slopes λ_ _ ⟨a,e,q⟩=>⟨a,e,n q ↥9⟩,n I.ye ↥9,n I.le ↥9,λx hx=>n (I.lds x hx) ↥9⟩
noncomputable def U5 (C CR:Addr):Sp:=λvs H Q E=>∃(p ra:Addr) (g:IceG) (xs:List V) (ts:List T3),vs=[.ref p,.ref ra]/\IceAt C H p g/\H ra=some (.lst xs)/\jH H xs ts/\ts.length<=1000 /\
 (∀H' cy,gr ts=true->H cy=none->Ext p H H'->IceAt C H' p { g with cy:=cy,ys:=xs,rows:=ts }->Q .non H')/\∀H',gr ts=false->jn H H'->E (.ref CR) none H'
theorem Q8:FnScope ["self","rows"] ["self","rows"] (ja vj):=by walk_at "s"
theorem JJ {CR:Addr}(nb:Nb2 mg) (T:IceC K C) (c_check_round:CalX P w K mg base 3 "check_round" ["rows"] (yo CR)) (F:Fun K "turn" "Ice.turn" vj f fd):FnOk P w K mg base (CX1 P w) 4 f fd ["self","rows"] (U5 C CR):=by
 refine Fun.okX F Q8 ↥12 ↥0
 ·obtain ⟨p,ra,g,xs,ts,rfl,_⟩:=h
  rfl
 ·obtain ⟨p,ra,g,xs,ts,rfl,I,hra,r0,h1000,k,kr⟩:=h
  refine ⟨_,(j8 (jU (zO c_check_round (hr.mono ⋯) xE rfl ↥71))
   (jb (zU K (pv 0) (jL (jN K) rfl nb.b_list bo ↥71)))),?_⟩
  left
  refine ⟨ra,xs,ts,rfl,hra,r0,h1000,λH1 hg s1=>?_,λH1 hg s1=>kr H1 hg s1⟩
  left
  refine ⟨ra,xs,rfl,.inl (SqL.of (s1 _ _ hra)),λcy H2 hcy hcy2 s2=>?_⟩
  have I2:=I.same (s1.trans s2)
  left
  refine ⟨p,C,g.dx,_,rfl,I2.ob,T.cl,T.nC,by show 5<1000;decide,?_⟩
  rw [show jq "cycle" (V.ref cy) (xM g.va g.cy g.sl g.ye g.le)=xM g.va cy g.sl g.ye g.le by rfl]
  have cyp:cy≠p:=λz=>by
   have:=s1 _ _ I.ob
   rw [<- z,hcy] at this
   cases this
  have nP:∀{a:Addr} {u v:HO},H2 a=some u->a≠p->(upd H2 p v) a=some u:=λh n=>by rw [j9 n];exact h
  exact k _ cy hg (s1.free hcy) (λc o hc n=>nP (s2 _ _ (s1 _ _ hc)) n) (I2.cycle (λa u h n=>nP h n) j7 (nP hcy2 cyp) (jH.imp r0 λq t h=>nP (s2 _ _ (s1 _ _ h)) (jg h I.ob ↥4)))
theorem Ve (K:ah) (hl:PE X l tl) (hK:X.K=K:=by rfl):PIH X tg l (Y9 K tl):=by subst hK;exact Vm hl
noncomputable def wm (ws:List (Str×Bool)) (i:Nat):List V:=((ws.take i).filter (·.2)).map λq=>V.str q.1
theorem Ub {ws:List (Str×Bool)}{i:Nat}{nm:Str}{b:Bool}(h:ws[i]? = some (nm,b)):wm ws (i+1)=wm ws i++(if b=true then [V.str nm] else []):=by
 unfold wm
 rw [bL,h,oq,ee,aF]
 cases b <;> rfl
theorem Jr (ws:List (Str×Bool)) (i:Nat):(wm ws i).length<=i:=by
 unfold wm
 rw [af]
 exact aE (bI _ _) (List.length_take_le _ _)
theorem qo:FnScope ["_law_e","_law_known"] ["_law_e"] (ja xp):=by walk_at "s"
noncomputable def uV (n:Nat):List (Str×Bool):=[("BadValley",decide (0=n)),("BadRound",decide (1=n)),("BadWeather",decide (2=n)),("BadYear",decide (3=n)),("BadSurge",decide (4=n)),("BadRock",decide (5=n)),("BadName",decide (6=n)),("BadHand",decide (7=n)),("BadDeed",decide (8=n)),("NoLane",decide (9=n)),("NoPlace",decide (10=n)),("NoName",decide (11=n)),("NotTold",decide (12=n)),("NothingThere",decide (13=n)),("Taken",decide (14=n)),("Full",decide (15=n)),("BadPage",decide (16=n))]
structure KindK (K:ah) (Cs:List Addr) (D:Addr) (n:Nat):Prop where
 ek:ExK K D
 k0:aG K (.ref D) (.ref (Cs.getD 0 0))=some (decide (0=n))
 k1:aG K (.ref D) (.ref (Cs.getD 1 0))=some (decide (1=n))
 k2:aG K (.ref D) (.ref (Cs.getD 2 0))=some (decide (2=n))
 k3:aG K (.ref D) (.ref (Cs.getD 3 0))=some (decide (3=n))
 k4:aG K (.ref D) (.ref (Cs.getD 4 0))=some (decide (4=n))
 k5:aG K (.ref D) (.ref (Cs.getD 5 0))=some (decide (5=n))
 k6:aG K (.ref D) (.ref (Cs.getD 6 0))=some (decide (6=n))
 k7:aG K (.ref D) (.ref (Cs.getD 7 0))=some (decide (7=n))
 k8:aG K (.ref D) (.ref (Cs.getD 8 0))=some (decide (8=n))
 k9:aG K (.ref D) (.ref (Cs.getD 9 0))=some (decide (9=n))
 k10:aG K (.ref D) (.ref (Cs.getD 10 0))=some (decide (10=n))
 k11:aG K (.ref D) (.ref (Cs.getD 11 0))=some (decide (11=n))
 k12:aG K (.ref D) (.ref (Cs.getD 12 0))=some (decide (12=n))
 k13:aG K (.ref D) (.ref (Cs.getD 13 0))=some (decide (13=n))
 k14:aG K (.ref D) (.ref (Cs.getD 14 0))=some (decide (14=n))
 k15:aG K (.ref D) (.ref (Cs.getD 15 0))=some (decide (15=n))
 k16:aG K (.ref D) (.ref (Cs.getD 16 0))=some (decide (16=n))
noncomputable def Yi (K:ah) (Cs:List Addr):Addr->ak->List V->Hp->VK->Prop:=λa cls vs H Q=>∃D n,vs=[.ref a]/\cls = .ref D/\KindK K Cs D n/\∀t H',H' t=some (.tup (.str "no" :: wm (uV n) 17))->jn H H'->Q (.ref t) H'
theorem Vr {Cs:List Addr}(nb:Nb2 mg) (e_BadValley:mg "BadValley" = some (.ref (Cs.getD 0 0))) (e_BadRound:mg "BadRound" = some (.ref (Cs.getD 1 0))) (e_BadWeather:mg "BadWeather" = some (.ref (Cs.getD 2 0))) (e_BadYear:mg "BadYear" = some (.ref (Cs.getD 3 0))) (e_BadSurge:mg "BadSurge" = some (.ref (Cs.getD 4 0))) (e_BadRock:mg "BadRock" = some (.ref (Cs.getD 5 0))) (e_BadName:mg "BadName" = some (.ref (Cs.getD 6 0))) (e_BadHand:mg "BadHand" = some (.ref (Cs.getD 7 0))) (e_BadDeed:mg "BadDeed" = some (.ref (Cs.getD 8 0))) (e_NoLane:mg "NoLane" = some (.ref (Cs.getD 9 0))) (e_NoPlace:mg "NoPlace" = some (.ref (Cs.getD 10 0))) (e_NoName:mg "NoName" = some (.ref (Cs.getD 11 0))) (e_NotTold:mg "NotTold" = some (.ref (Cs.getD 12 0))) (e_NothingThere:mg "NothingThere" = some (.ref (Cs.getD 13 0))) (e_Taken:mg "Taken" = some (.ref (Cs.getD 14 0))) (e_Full:mg "Full" = some (.ref (Cs.getD 15 0))) (e_BadPage:mg "BadPage" = some (.ref (Cs.getD 16 0)))
  (F:Fun K "_law_kinds" "_law_kinds" xp f fd):FnH P w K mg base 1 f fd ["_law_e"] (Yi K Cs):=by
 refine F.okH qo (λcdv A outer s H vs Q a oe cls ae h=>?_)
 obtain ⟨D,n,rfl,rfl,kd,k⟩:=h
 have ek:=kd.ek
 have hu:Hu (cxH P w K mg base ["_law_e","_law_known"] "_law_kinds" (ja xp) f cdv A outer s H):=Gw ae
 have isx:=Ug (X:=cxH P w K mg base ["_law_e","_law_known"] "_law_kinds" (ja xp) f cdv A outer s H) K ek ae.at_ ae.free ae.out (λz=>by cases z) ae.ex
 refine ⟨_,(j8 (jA 1 qo.nd (jD (j2 (jx (j2 jc (j2 (jd isx rfl nb.b_isinstance aQ (j2 (pv 0) (j2 (jM (v:=V.ref _) rfl e_BadValley rfl) j5))) j5))) (j2 (jx (j2 jc (j2 (jd isx rfl nb.b_isinstance aQ (j2 (pv 0) (j2 (jM (v:=V.ref _) rfl e_BadRound rfl) j5))) j5))) j5))))
   (j8 (jA 1 qo.nd (jv zo (pv 1) (jD (j2 (jx (j2 jc (j2 (jd isx rfl nb.b_isinstance aQ (j2 (pv 0) (j2 (jM (v:=V.ref _) rfl e_BadWeather rfl) j5))) j5))) (j2 (jx (j2 jc (j2 (jd isx rfl nb.b_isinstance aQ (j2 (pv 0) (j2 (jM (v:=V.ref _) rfl e_BadYear rfl) j5))) j5))) j5)))))
   (j8 (jA 1 qo.nd (jv zo (pv 1) (jD (j2 (jx (j2 jc (j2 (jd isx rfl nb.b_isinstance aQ (j2 (pv 0) (j2 (jM (v:=V.ref _) rfl e_BadSurge rfl) j5))) j5))) (j2 (jx (j2 jc (j2 (jd isx rfl nb.b_isinstance aQ (j2 (pv 0) (j2 (jM (v:=V.ref _) rfl e_BadRock rfl) j5))) j5))) j5)))))
   (j8 (jA 1 qo.nd (jv zo (pv 1) (jD (j2 (jx (j2 jc (j2 (jd isx rfl nb.b_isinstance aQ (j2 (pv 0) (j2 (jM (v:=V.ref _) rfl e_BadName rfl) j5))) j5))) (j2 (jx (j2 jc (j2 (jd isx rfl nb.b_isinstance aQ (j2 (pv 0) (j2 (jM (v:=V.ref _) rfl e_BadHand rfl) j5))) j5))) j5)))))
   (j8 (jA 1 qo.nd (jv zo (pv 1) (jD (j2 (jx (j2 jc (j2 (jd isx rfl nb.b_isinstance aQ (j2 (pv 0) (j2 (jM (v:=V.ref _) rfl e_BadDeed rfl) j5))) j5))) (j2 (jx (j2 jc (j2 (jd isx rfl nb.b_isinstance aQ (j2 (pv 0) (j2 (jM (v:=V.ref _) rfl e_NoLane rfl) j5))) j5))) j5)))))
   (j8 (jA 1 qo.nd (jv zo (pv 1) (jD (j2 (jx (j2 jc (j2 (jd isx rfl nb.b_isinstance aQ (j2 (pv 0) (j2 (jM (v:=V.ref _) rfl e_NoPlace rfl) j5))) j5))) (j2 (jx (j2 jc (j2 (jd isx rfl nb.b_isinstance aQ (j2 (pv 0) (j2 (jM (v:=V.ref _) rfl e_NoName rfl) j5))) j5))) j5)))))
   (j8 (jA 1 qo.nd (jv zo (pv 1) (jD (j2 (jx (j2 jc (j2 (jd isx rfl nb.b_isinstance aQ (j2 (pv 0) (j2 (jM (v:=V.ref _) rfl e_NotTold rfl) j5))) j5))) (j2 (jx (j2 jc (j2 (jd isx rfl nb.b_isinstance aQ (j2 (pv 0) (j2 (jM (v:=V.ref _) rfl e_NothingThere rfl) j5))) j5))) j5)))))
   (j8 (jA 1 qo.nd (jv zo (pv 1) (jD (j2 (jx (j2 jc (j2 (jd isx rfl nb.b_isinstance aQ (j2 (pv 0) (j2 (jM (v:=V.ref _) rfl e_Taken rfl) j5))) j5))) (j2 (jx (j2 jc (j2 (jd isx rfl nb.b_isinstance aQ (j2 (pv 0) (j2 (jM (v:=V.ref _) rfl e_Full rfl) j5))) j5))) j5)))))
   (j8 (jA 1 qo.nd (jv zo (pv 1) (jD (j2 (jx (j2 jc (j2 (jd isx rfl nb.b_isinstance aQ (j2 (pv 0) (j2 (jM (v:=V.ref _) rfl e_BadPage rfl) j5))) j5))) j5))))
   (jb (jk (jv gk (jx (j2 jc j5)) (jL (xy K) rfl nb.b_tuple cF (j2 (Vy (osc:=(ja xp)) (ON:=["_law_e","_law_known"]) (N:=["_law_name","_law_so"]) (own:=2) (caps:=[]) ⟨rfl,∅,∅,∅,rfl,∅⟩ hu rfl rfl (Ve K (pv 1)) (λ_ _ _ _ _ hub=>(Uw (n:=2) K hub (jO (jm (i:=0) (show b8 (["_law_name","_law_so"]:List Str) by decide +kernel) rfl (bf rfl)) (jO (jm (i:=1) (show b8 (["_law_name","_law_so"]:List Str) by decide +kernel) rfl (bf rfl)) xD)))) (λ_ _ _ _ _ hub=>(kX (qU (pv 1)))) (λ_ _ _ _ _ hub=>(pv 0))) j5)))))))))))))),?_⟩
 left
 refine ⟨_,_,_,rfl,λu h=>h,kd.k0,?_⟩
 left
 refine ⟨by show 2<=sizeLine;decide,λt0 H1 n1 h1 s1=>?_⟩
 left
 refine ⟨_,_,_,rfl,λu h=>h,kd.k1,?_⟩
 left
 refine ⟨by show 2<=sizeLine;decide,λt1 H2 n2 h2 s2=>?_⟩
 left
 refine ⟨by show 2<=sizeLine;decide,λl0 H3 n3 h3 s3=>?_⟩
 left
 refine ⟨_,_,_,rfl,λu h=>h,kd.k2,?_⟩
 left
 refine ⟨by show 2<=sizeLine;decide,λt2 H4 n4 h4 s4=>?_⟩
 left
 refine ⟨_,_,_,rfl,λu h=>h,kd.k3,?_⟩
 left
 refine ⟨by show 2<=sizeLine;decide,λt3 H5 n5 h5 s5=>?_⟩
 left
 refine ⟨by show 2<=sizeLine;decide,λl1 H6 n6 h6 s6=>?_⟩
 refine ⟨l0,l1,_,_,rfl,rfl,s6 _ _ (s5 _ _ (s4 _ _ h3)),h6,by show 4<=sizeLine;decide,λm1 H7 n7 h7 s7=>?_⟩
 left
 refine ⟨_,_,_,rfl,λu h=>h,kd.k4,?_⟩
 left
 refine ⟨by show 2<=sizeLine;decide,λt4 H8 n8 h8 s8=>?_⟩
 left
 refine ⟨_,_,_,rfl,λu h=>h,kd.k5,?_⟩
 left
 refine ⟨by show 2<=sizeLine;decide,λt5 H9 n9 h9 s9=>?_⟩
 left
 refine ⟨by show 2<=sizeLine;decide,λl2 H10 n10 h10 s10=>?_⟩
 refine ⟨m1,l2,_,_,rfl,rfl,s10 _ _ (s9 _ _ (s8 _ _ h7)),h10,by show 6<=sizeLine;decide,λm2 H11 n11 h11 s11=>?_⟩
 left
 refine ⟨_,_,_,rfl,λu h=>h,kd.k6,?_⟩
 left
 refine ⟨by show 2<=sizeLine;decide,λt6 H12 n12 h12 s12=>?_⟩
 left
 refine ⟨_,_,_,rfl,λu h=>h,kd.k7,?_⟩
 left
 refine ⟨by show 2<=sizeLine;decide,λt7 H13 n13 h13 s13=>?_⟩
 left
 refine ⟨by show 2<=sizeLine;decide,λl3 H14 n14 h14 s14=>?_⟩
 refine ⟨m2,l3,_,_,rfl,rfl,s14 _ _ (s13 _ _ (s12 _ _ h11)),h14,by show 8<=sizeLine;decide,λm3 H15 n15 h15 s15=>?_⟩
 left
 refine ⟨_,_,_,rfl,λu h=>h,kd.k8,?_⟩
 left
 refine ⟨by show 2<=sizeLine;decide,λt8 H16 n16 h16 s16=>?_⟩
 left
 refine ⟨_,_,_,rfl,λu h=>h,kd.k9,?_⟩
 left
 refine ⟨by show 2<=sizeLine;decide,λt9 H17 n17 h17 s17=>?_⟩
 left
 refine ⟨by show 2<=sizeLine;decide,λl4 H18 n18 h18 s18=>?_⟩
 refine ⟨m3,l4,_,_,rfl,rfl,s18 _ _ (s17 _ _ (s16 _ _ h15)),h18,by show 10<=sizeLine;decide,λm4 H19 n19 h19 s19=>?_⟩
 left
 refine ⟨_,_,_,rfl,λu h=>h,kd.k10,?_⟩
 left
 refine ⟨by show 2<=sizeLine;decide,λt10 H20 n20 h20 s20=>?_⟩
 left
 refine ⟨_,_,_,rfl,λu h=>h,kd.k11,?_⟩
 left
 refine ⟨by show 2<=sizeLine;decide,λt11 H21 n21 h21 s21=>?_⟩
 left
 refine ⟨by show 2<=sizeLine;decide,λl5 H22 n22 h22 s22=>?_⟩
 refine ⟨m4,l5,_,_,rfl,rfl,s22 _ _ (s21 _ _ (s20 _ _ h19)),h22,by show 12<=sizeLine;decide,λm5 H23 n23 h23 s23=>?_⟩
 left
 refine ⟨_,_,_,rfl,λu h=>h,kd.k12,?_⟩
 left
 refine ⟨by show 2<=sizeLine;decide,λt12 H24 n24 h24 s24=>?_⟩
 left
 refine ⟨_,_,_,rfl,λu h=>h,kd.k13,?_⟩
 left
 refine ⟨by show 2<=sizeLine;decide,λt13 H25 n25 h25 s25=>?_⟩
 left
 refine ⟨by show 2<=sizeLine;decide,λl6 H26 n26 h26 s26=>?_⟩
 refine ⟨m5,l6,_,_,rfl,rfl,s26 _ _ (s25 _ _ (s24 _ _ h23)),h26,by show 14<=sizeLine;decide,λm6 H27 n27 h27 s27=>?_⟩
 left
 refine ⟨_,_,_,rfl,λu h=>h,kd.k14,?_⟩
 left
 refine ⟨by show 2<=sizeLine;decide,λt14 H28 n28 h28 s28=>?_⟩
 left
 refine ⟨_,_,_,rfl,λu h=>h,kd.k15,?_⟩
 left
 refine ⟨by show 2<=sizeLine;decide,λt15 H29 n29 h29 s29=>?_⟩
 left
 refine ⟨by show 2<=sizeLine;decide,λl7 H30 n30 h30 s30=>?_⟩
 refine ⟨m6,l7,_,_,rfl,rfl,s30 _ _ (s29 _ _ (s28 _ _ h27)),h30,by show 16<=sizeLine;decide,λm7 H31 n31 h31 s31=>?_⟩
 left
 refine ⟨_,_,_,rfl,λu h=>h,kd.k16,?_⟩
 left
 refine ⟨by show 2<=sizeLine;decide,λt16 H32 n32 h32 s32=>?_⟩
 left
 refine ⟨by show 1<=sizeLine;decide,λl8 H33 n33 h33 s33=>?_⟩
 refine ⟨m7,l8,_,_,rfl,rfl,s33 _ _ (s32 _ _ h31),h33,by show 17<=sizeLine;decide,λm8 H34 n34 h34 s34=>?_⟩
 left
 refine ⟨by show 1<=sizeLine;decide,λtn H35 n35 h35 s35=>?_⟩
 left
 have u8:∀{p o},H34 p=some o->H35 p=some o:=λh=>s35 _ _ h
 have u7:∀{p o},H31 p=some o->H35 p=some o:=λh=>u8 (s34 _ _ (s33 _ _ (s32 _ _ h)))
 have u6:∀{p o},H27 p=some o->H35 p=some o:=λh=>u7 (s31 _ _ (s30 _ _ (s29 _ _ (s28 _ _ h))))
 have u5:∀{p o},H23 p=some o->H35 p=some o:=λh=>u6 (s27 _ _ (s26 _ _ (s25 _ _ (s24 _ _ h))))
 have u4:∀{p o},H19 p=some o->H35 p=some o:=λh=>u5 (s23 _ _ (s22 _ _ (s21 _ _ (s20 _ _ h))))
 have u3:∀{p o},H15 p=some o->H35 p=some o:=λh=>u4 (s19 _ _ (s18 _ _ (s17 _ _ (s16 _ _ h))))
 have u2:∀{p o},H11 p=some o->H35 p=some o:=λh=>u3 (s15 _ _ (s14 _ _ (s13 _ _ (s12 _ _ h))))
 have u1:∀{p o},H7 p=some o->H35 p=some o:=λh=>u2 (s11 _ _ (s10 _ _ (s9 _ _ (s8 _ _ h))))
 have u0:∀{p o},H3 p=some o->H35 p=some o:=λh=>u1 (s7 _ _ (s6 _ _ (s5 _ _ (s4 _ _ h))))
 have p0:H35 t0=some (.tup [.str "BadValley",.bl (decide (0=n))]):=u0 (s3 _ _ (s2 _ _ h1))
 have p1:H35 t1=some (.tup [.str "BadRound",.bl (decide (1=n))]):=u0 (s3 _ _ h2)
 have p2:H35 t2=some (.tup [.str "BadWeather",.bl (decide (2=n))]):=u1 (s7 _ _ (s6 _ _ (s5 _ _ h4)))
 have p3:H35 t3=some (.tup [.str "BadYear",.bl (decide (3=n))]):=u1 (s7 _ _ (s6 _ _ h5))
 have p4:H35 t4=some (.tup [.str "BadSurge",.bl (decide (4=n))]):=u2 (s11 _ _ (s10 _ _ (s9 _ _ h8)))
 have p5:H35 t5=some (.tup [.str "BadRock",.bl (decide (5=n))]):=u2 (s11 _ _ (s10 _ _ h9))
 have p6:H35 t6=some (.tup [.str "BadName",.bl (decide (6=n))]):=u3 (s15 _ _ (s14 _ _ (s13 _ _ h12)))
 have p7:H35 t7=some (.tup [.str "BadHand",.bl (decide (7=n))]):=u3 (s15 _ _ (s14 _ _ h13))
 have p8:H35 t8=some (.tup [.str "BadDeed",.bl (decide (8=n))]):=u4 (s19 _ _ (s18 _ _ (s17 _ _ h16)))
 have p9:H35 t9=some (.tup [.str "NoLane",.bl (decide (9=n))]):=u4 (s19 _ _ (s18 _ _ h17))
 have p10:H35 t10=some (.tup [.str "NoPlace",.bl (decide (10=n))]):=u5 (s23 _ _ (s22 _ _ (s21 _ _ h20)))
 have p11:H35 t11=some (.tup [.str "NoName",.bl (decide (11=n))]):=u5 (s23 _ _ (s22 _ _ h21))
 have p12:H35 t12=some (.tup [.str "NotTold",.bl (decide (12=n))]):=u6 (s27 _ _ (s26 _ _ (s25 _ _ h24)))
 have p13:H35 t13=some (.tup [.str "NothingThere",.bl (decide (13=n))]):=u6 (s27 _ _ (s26 _ _ h25))
 have p14:H35 t14=some (.tup [.str "Taken",.bl (decide (14=n))]):=u7 (s31 _ _ (s30 _ _ (s29 _ _ h28)))
 have p15:H35 t15=some (.tup [.str "Full",.bl (decide (15=n))]):=u7 (s31 _ _ (s30 _ _ h29))
 have p16:H35 t16=some (.tup [.str "BadPage",.bl (decide (16=n))]):=u8 (s34 _ _ (s33 _ _ h32))
 have pl:H35 m8=some (.lst [V.ref t0,V.ref t1,V.ref t2,V.ref t3,V.ref t4,V.ref t5,V.ref t6,V.ref t7,V.ref t8,V.ref t9,V.ref t10,V.ref t11,V.ref t12,V.ref t13,V.ref t14,V.ref t15,V.ref t16]):=s35 _ _ h34
 have all:jn H H35:=λc o h=>u0 (s3 _ _ (s2 _ _ (s1 _ _ h)))
 clear u0 u1 u2 u3 u4 u5 u6 u7 u8 h1 h2 h3 h4 h5 h6 h7 h8 h9 h10 h11 h12 h13 h14 h15 h16 h17 h18 h19 h20 h21 h22 h23 h24 h25 h26 h27 h28 h29 h30 h31 h32 h33 h34 s1 s2 s3 s4 s5 s6 s7 s8 s9 s10 s11 s12 s13 s14 s15 s16 s17 s18 s19 s20 s21 s22 s23 s24 s25 s26 s27 s28 s29 s30 s31 s32 s33 s34 s35 n1 n2 n3 n4 n5 n6 n7 n8 n9 n10 n11 n12 n13 n14 n15 n16 n17 n18 n19 n20 n21 n22 n23 n24 n25 n26 n27 n28 n29 n30 n31 n32 n33 n34
 have pr:∀(i:Nat) (v:V),[V.ref t0,V.ref t1,V.ref t2,V.ref t3,V.ref t4,V.ref t5,V.ref t6,V.ref t7,V.ref t8,V.ref t9,V.ref t10,V.ref t11,V.ref t12,V.ref t13,V.ref t14,V.ref t15,V.ref t16][i]? = some v->∃t nm b,v = .ref t/\(uV n)[i]? = some (nm,b)/\H35 t=some (.tup [.str nm,.bl b]):=λi v hv=>by
  match i,hv with
  | 0,hv=>cases hv;exact ⟨_,_,_,rfl,rfl,p0⟩
  | 1,hv=>cases hv;exact ⟨_,_,_,rfl,rfl,p1⟩
  | 2,hv=>cases hv;exact ⟨_,_,_,rfl,rfl,p2⟩
  | 3,hv=>cases hv;exact ⟨_,_,_,rfl,rfl,p3⟩
  | 4,hv=>cases hv;exact ⟨_,_,_,rfl,rfl,p4⟩
  | 5,hv=>cases hv;exact ⟨_,_,_,rfl,rfl,p5⟩
  | 6,hv=>cases hv;exact ⟨_,_,_,rfl,rfl,p6⟩
  | 7,hv=>cases hv;exact ⟨_,_,_,rfl,rfl,p7⟩
  | 8,hv=>cases hv;exact ⟨_,_,_,rfl,rfl,p8⟩
  | 9,hv=>cases hv;exact ⟨_,_,_,rfl,rfl,p9⟩
  | 10,hv=>cases hv;exact ⟨_,_,_,rfl,rfl,p10⟩
  | 11,hv=>cases hv;exact ⟨_,_,_,rfl,rfl,p11⟩
  | 12,hv=>cases hv;exact ⟨_,_,_,rfl,rfl,p12⟩
  | 13,hv=>cases hv;exact ⟨_,_,_,rfl,rfl,p13⟩
  | 14,hv=>cases hv;exact ⟨_,_,_,rfl,rfl,p14⟩
  | 15,hv=>cases hv;exact ⟨_,_,_,rfl,rfl,p15⟩
  | 16,hv=>cases hv;exact ⟨_,_,_,rfl,rfl,p16⟩
  | q+17,hv=>cases hv
 refine ⟨⟨_,SqL.of pl⟩,λacc hacc=>?_⟩
 refine jT (K:=K) (a:=m8) (acc:=acc) (xs:=[V.ref t0,V.ref t1,V.ref t2,V.ref t3,V.ref t4,V.ref t5,V.ref t6,V.ref t7,V.ref t8,V.ref t9,V.ref t10,V.ref t11,V.ref t12,V.ref t13,V.ref t14,V.ref t15,V.ref t16]) (λi σ H'=>∃x y:Option V,σ=[x,y]/\H' acc=some (.lst (wm (uV n) i))/\Ext acc H35 H') ?_ ?_ ?_ ?_
 ·exact ⟨none,none,rfl,j7,Ext.put⟩
 ·rintro i σ H' hi ⟨x,y,rfl,h3,e3⟩
  exact SqL.of (e3 _ _ pl (j4 pl hacc))
 ·rintro i v σ H' hv ⟨x,y,rfl,h3,e3⟩
  obtain ⟨t,nm,b,rfl,hw,ht⟩:=pr i v hv
  have kk:=Ub hw
  have hin:i<17:=(List.getElem?_eq_some_iff.mp hv).1
  have kl:=Jr (uV n) i
  refine ⟨t,_,rfl,SqT.of (e3 _ _ ht (j4 ht hacc)),rfl,?_⟩
  cases b with
  | false =>
   rw [if_neg au,bj] at kk
   refine ⟨_,_,rfl,_,_,rfl,rfl,_,rfl,_,rfl,?_⟩
   dsimp only
   rw [if_neg au]
   exact ⟨_,_,rfl,by rw [kk];exact h3,e3⟩
  | true =>
   rw [if_pos rfl] at kk
   refine ⟨_,_,rfl,_,_,rfl,rfl,_,rfl,_,rfl,?_⟩
   dsimp only
   rw [if_pos rfl]
   refine ⟨_,rfl,_,h3,c8 kl (by show i<16777216;omega),_,_,rfl,?_,e3.trans Ext.put⟩
   rw [j7,kk]
 ·rintro σ H' ⟨x,y,rfl,h3,e3⟩
  refine ⟨acc,_,rfl,SqL.of h3,λtt Ha na ha sa=>?_⟩
  have z:Ext acc H35 Ha:=e3.trans (Ext.of_same sa)
  refine ⟨tn,tt,_,_,rfl,rfl,z _ _ h35 (j4 h35 hacc),ha,by have:=Jr (uV n) 17;show 1+(wm (uV n) 17).length<=16777216;omega,λtf Hb sb hb'=>?_⟩
  refine k tf Hb hb' λb o hb=>sb _ _ (z _ _ (all _ _ hb) (j4 (all _ _ hb) hacc))
theorem ScAt.frM {sd:Addr}{c:ScN}(S:ScAt H sd c) (f:FrM c.D H H'):ScAt H' sd c:=S.keep (N:=λ_=>False) (λc o h _=>f c o h) (λ_ _ _ z=>z) id S.nD id id id id (λ_ _=>id) id (λ_ _=>id)
theorem FrM.no {c:Addr}(f:FrM M H H') (n:H' c=none):H c=none:=by
 cases e:H c with
 | none=>rfl
 | some o =>
  rcases f c o e with h | ⟨_,_,_,_,h⟩
  ·rw [n] at h;cases h
  ·rw [n] at h;cases h
local macro_rules | `(tactic| walk_at "forks")=>`(tactic| (walk_at "r";first | (refine qH (fun _=>?_) (fun _=>?_) <;> walk_at "forks") | skip))
theorem wG:FnScope ["_law_row_here"] ["_law_row_here"] (ja zC):=by walk_at "s"
theorem XG (F:Fun K "_law_good_row" "_law_good_row" zC f fd):FnOk P w K mg base CX0 1 f fd ["_law_row_here"] ke:=by
 refine F.ok wG ↥12 ↥0
 ·obtain ⟨p,t,rfl,_⟩:=h
  rfl
 ·obtain ⟨p,⟨l,sn,u⟩,rfl,hp,k⟩:=h
  have hp:H p=some (.tup [.int l,.int sn,.int u]):=hp
  refine ⟨_,(jb (jk (zx (xx qk qk j6 (jj (jt K) (pv 0) j6 (λ_ _=>rfl)) j6) (zx (xx qk qk j6 (jj (jt K) (pv 0) j6 (λ_ _=>rfl)) j6) (yI (xx qk qk j6 (jj (jt K) (pv 0) j6 (λ_ _=>rfl)) j6)))))),?_⟩
  walk_at "forks"
  all_goals
   refine Eq.mp (congrArg (λz=>Q (V.bl z) H) ?_) k
   unfold good
   dsimp only at *
   first | (apply decide_eq_false;omega) | (apply decide_eq_decide.mpr;omega)
noncomputable def Jt:Sp:=λvs H Q _=>∃(L b t:Addr) (r:T3),vs=[.ref b,.ref t]/\jG L H b/\H t=some (zM r)/\∀(t':Addr) (r':T3) (H':Hp),jG L H' b->Ext b H H'->H' t'=some (zM r')->Q (.ref t') H'
theorem yO:FnScope ["_law_box_here","_law_row_here","_law_at"] ["_law_box_here","_law_row_here"] (ja zu):=by walk_at "s"
theorem Qw (nb:Nb2 mg) (c_law_take:Cal P w K mg base 2 "_law_take" ["_law_box_here","_law_size"] xG) (c_law_odd:Cal P w K mg base 3 "_law_odd" ["_law_box_here"] Vl)
  (F:Fun K "_law_bent_row" "_law_bent_row" zu f fd):FnOk P w K mg base CX0 4 f fd ["_law_box_here","_law_row_here"] Jt:=by
 refine F.ok yO ↥12 ↥0
 ·obtain ⟨L,b,t,r,rfl,_⟩:=h
  rfl
 ·obtain ⟨L,b,t,r,rfl,B,ht,k⟩:=h
  have ht:H t=some (.tup [.int r.1,.int r.2.1,.int r.2.2]):=ht
  refine ⟨_,(j8 (jF (jr qC ↥2 j6 (jB _)) (jb (jk (pv 1))) jo)
   (j8 (jA 2 yO.nd ↥2)
   (jb (jk (jv gk (jv gk (XJ (Xw K) (pv 1) Y7 (ZR (pv 2))) (jx (j2 (je c_law_odd (hr.mono ⋯) rfl ↥29) j5))) (XJ (Xw K) (pv 1) (ZR (jv qr (pv 2) j6)) Y7)))))),?_⟩
  left
  refine ⟨L,b,_,rfl,B,⟨⋯,⋯⟩,λv1 H1 a1 a2 B1 X1=>?_⟩
  left
  refine qH (λz=>?_) (λz=>?_)
  ·left
   exact k t r H1 B1 X1 (xL B X1 _ _ ht)
  ·left
   refine ⟨L,b,_,rfl,B1,⟨⋯,⋯⟩,λat_ H2 c1 c2 B2 X2=>?_⟩
   have ht2:=xL B1 X2 _ _ (xL B X1 _ _ ht)
   have X02:Ext b H H2:=X1.trans X2
   have hat:at_=0\/at_=1\/at_=2:=()
   rcases hat with rfl | rfl | rfl
   all_goals
    left
    refine ⟨t,_,rfl,SqT.of ht2,λq=>absurd q.2 (by first | (show ¬(0:Nat)=3;decide) | (show ¬(1:Nat)=3;decide) | (show ¬(2:Nat)=3;decide)),λt1 H3 n3 h3 s3=>?_⟩
    left
    refine ⟨L,b,rfl,B2.same s3,λz H4 B4 X4=>?_⟩
    have X34:=xL (B2.same s3) X4
    left
    refine ⟨by show 1<=sizeLine;decide,λt2 H5 n5 h5 s5=>?_⟩
    refine ⟨t1,t2,_,_,rfl,rfl,s5 _ _ (X34 _ _ h3),h5,by first | (show 1<=sizeLine;decide) | (show 2<=sizeLine;decide) | (show 3<=sizeLine;decide),λt3 H6 s6 h6=>?_⟩
    have ht6:=s6 _ _ (s5 _ _ (X34 _ _ (s3 _ _ ht2)))
    left
    refine ⟨t,_,rfl,SqT.of ht6,λq=>absurd q.1 (by first | (show ¬(1:Nat)=0;decide) | (show ¬(2:Nat)=0;decide) | (show ¬(3:Nat)=0;decide)),λt4 H7 n7 h7 s7=>?_⟩
    refine ⟨t3,t4,_,_,rfl,rfl,s7 _ _ h6,h7,by show 3<=sizeLine;decide,λt5 H8 s8 h8=>?_⟩
    have s48:jn H4 H8:=s5.trans (s6.trans (s7.trans s8))
    have X8:Ext b H H8:=λc o hc n=>s48 _ _ (X4 _ _ (s3 _ _ (X02 c o hc n)) n)
    first
     | exact k t5 (z,r.2.1,r.2.2) H8 (B4.same s48) X8 h8
     | exact k t5 (r.1,z,r.2.2) H8 (B4.same s48) X8 h8
     | exact k t5 (r.1,r.2.1,z) H8 (B4.same s48) X8 h8
theorem xu {b:Addr}{M:Addr->Prop}{H H':Hp}(X:Ext b H H'):Fr3 (λa=>a=b) M H H':=λc o h n=>.inl (X c o h n)
theorem ZB {b:Addr}{M:Addr->Prop}{H H':Hp}(f:FrM M H H'):Fr3 (λa=>a=b) M H H':=λc o h _=>f c o h
theorem jR (f:Fr3 N M H H1) (g:Fr3 N M H1 H2):Fr3 N M H H2:=λc o h n=>by
 rcases f c o h n with h1 | ⟨m,ob,kvs,e,h1⟩
 ·exact g c o h1 n
 ·rcases g c _ h1 n with h2 | ⟨_,ob',kvs',e',_⟩
  ·exact .inr ⟨m,ob,kvs,e,h2⟩
  ·cases e'
theorem jG.frM {b:Addr}(B:jG L H b) (f:FrM M H H'):jG L H' b:=by
 obtain ⟨ns,a,r,c,d,h1,h2,h3,h4⟩:=B
 exact ⟨ns,a,r,c,d,f.at h1 ↥1,h2,f.at h3 ↥1,h4⟩
theorem Em {j:Int}(h0:0<=j) (h1:j<4):Gm j 3:=by
 have:j=0\/j=1\/j=2\/j=3:=()
 rcases this with rfl | rfl | rfl | rfl <;> (unfold Gm;decide)
inductive DeedD where
 | tell (y:Int) (r:T3) (t:Addr)
 | plain (y:Int)
 | surge (l y m:Int)
 | calm (l y:Int)
 | turn (ts:List T3)
noncomputable def xP (H:Hp) (a:Addr):DeedD->Prop
 | .tell y r t=>H a=some (.tup [.str "tell",.int y,.ref t])/\H t=some (zM r)
 | .plain y=>H a=some (.tup [.str "plain",.int y])
 | .surge l y m=>H a=some (.tup [.str "surge",.int l,.int y,.int m])
 | .calm l y=>H a=some (.tup [.str "calm",.int l,.int y])
 | .turn ts=>∃q xs,H a=some (.tup [.str "turn",.ref q])/\H q=some (.lst xs)/\jH H xs ts/\1<=ts.length/\ts.length<=12
noncomputable def U7:Sp:=λvs H Q _=>∃(L b sd:Addr) (c:ScN),vs=[.ref b,.ref sd]/\jG L H b/\ScAt H sd c/\ScOk b c/\1<=c.ws.length/\c.ws.length<=6/\c.sk.length<=900/\(∀x∈c.lds,x.2.length<=900) /\
 ∀(a:Addr) (d:DeedD) (H':Hp),H a=none->xP H' a d->jG L H' b->ScAt H' sd c->Fr3 (λa=>a=b) c.D H H'->Q (.ref a) H'
theorem jW:FnScope ["_law_box_here","_law_scene_here","_law_lane","_law_year_here","_law_kind","_law_known"] ["_law_box_here","_law_scene_here"] (ja qK):=by walk_at "s"
theorem Xc (nb:Nb2 mg) (c_law_take:Cal P w K mg base 2 "_law_take" ["_law_box_here","_law_size"] xG) (c_law_odd:Cal P w K mg base 3 "_law_odd" ["_law_box_here"] Vl) (c_law_year:Cal P w K mg base 3 "_law_year" ["_law_box_here"] JU) (c_law_weather:Cal P w K mg base 3 "_law_weather" ["_law_box_here"] vC) (c_law_round:Cal P w K mg base 4 "_law_round" ["_law_box_here"] vd) (c_law_bent_row:Cal P w K mg base 4 "_law_bent_row" ["_law_box_here","_law_row_here"] Jt)
  (F:Fun K "_law_ice_deed" "_law_ice_deed" qK f fd):FnOk P w K mg base CX0 5 f fd ["_law_box_here","_law_scene_here"] U7:=by
 refine F.ok jW ↥12 ↥0
 ·obtain ⟨L,b,sd,c,rfl,_⟩:=h
  rfl
 ·obtain ⟨L,b,sd,c,rfl,B,S,O,hw1,hw6,sk9,ld9,k⟩:=h
  have hzl:c.zs.length=c.ws.length:=(aZ S.gi).trans (af _)
  have hgd:∀{H':Hp},ScAt H' sd c->qc H' sd (.str "grounds") (some (.ref c.gl)):=λS'=>by rw [<- yC c.p c.q c.sg c.gl c.ll];exact qc.k (k:=.inr "grounds") S'.sd
  have hsg:∀{H':Hp},ScAt H' sd c->qc H' sd (.str "single") (some (.ref c.sg)):=λS'=>by rw [<- qP c.p c.q c.sg c.gl c.ll];exact qc.k (k:=.inr "single") S'.sd
  have hlp:∀{H':Hp},ScAt H' sd c->qc H' sd (.str "leaps") (some (.ref c.ll)):=λS'=>by rw [<- zE c.p c.q c.sg c.gl c.ll];exact qc.k (k:=.inr "leaps") S'.sd
  refine ⟨_,(j8 (jA 2 jW.nd (je c_law_take (hr.mono ⋯) rfl (j2 (pv 0) (j2 (jd (ji K) rfl nb.b_len aR (j2 ↥42 j5)) j5))))
   (j8 (jA 3 jW.nd (jj (jf K) (jD (j2 (je c_law_year (hr.mono ⋯) rfl ↥29) (j2 (je c_law_year (hr.mono ⋯) rfl ↥29) (j2 (je c_law_odd (hr.mono ⋯) rfl ↥29) j5)))) ↥2 (λ_ _=>rfl)))
   (j8 (jA 4 jW.nd (jj (jf K) (jD (j2 jc (j2 jc (j2 jc (j2 jc (j2 jc j5)))))) ↥2 (λ_ _=>rfl)))
   (j8 (ut (j:=5) (osc:=(ja qK)) (ON:=["_law_box_here","_law_scene_here","_law_lane","_law_year_here","_law_kind","_law_known"]) (N:=["_law_one"]) (own:=1) (caps:=[]) ⟨rfl,∅,∅,∅,rfl,∅⟩ jW.nd rfl (bf rfl) rfl rfl rfl (QI ↥42) (λ_ _ _ _ _=>(jm (i:=0) (show b8 (["_law_one"]:List Str) by decide +kernel) rfl (bf rfl))) ↥24 (λ_ _ _ _ _=>(pv 0)))
   (zQ (jF (PW.pt (yf (jr qC (pv 4) jc (jB _)) (yf (jr QM (jd (ji K) rfl nb.b_len aR (j2 (pv 5) j5)) j6 (jB _)) (zZ (jr QM ↥2 j6 (jB _)))))) (jb (jA 3 jW.nd (jj (jf K) (pv 5) (je c_law_take (hr.mono ⋯) rfl (j2 (pv 0) (j2 (jd (ji K) rfl nb.b_len aR (j2 (pv 5) j5)) j5))) (λ_ _=>rfl)))) jo)
   (j8 (ut (j:=5) (osc:=(ja qK)) (ON:=["_law_box_here","_law_scene_here","_law_lane","_law_year_here","_law_kind","_law_known"]) (N:=["_law_one"]) (own:=1) (caps:=[]) ⟨rfl,∅,∅,∅,rfl,∅⟩ jW.nd rfl (bf rfl) rfl rfl rfl (QI (jj (jf K) ↥42 (pv 2) (λ_ _=>rfl))) (λ_ _ _ _ _=>(jm (i:=0) (show b8 (["_law_one"]:List Str) by decide +kernel) rfl (bf rfl))) ↥24 (λ_ _ _ _ _=>(pv 0)))
   (zQ (jF (PW.pt (yf (jr qC (pv 4) jc (jB _)) (yf (jr QM (jd (ji K) rfl nb.b_len aR (j2 (pv 5) j5)) j6 (jB _)) (zZ (jr QM ↥2 j6 (jB _)))))) (jb (jA 3 jW.nd (jj (jf K) (pv 5) (je c_law_take (hr.mono ⋯) rfl (j2 (pv 0) (j2 (jd (ji K) rfl nb.b_len aR (j2 (pv 5) j5)) j5))) (λ_ _=>rfl)))) jo)
   (zQ (jF (jr qC ↥2 j6 (jB _)) (jb (jA 2 jW.nd (jj (jf K) (jD (j2 (jv yw j6 j6) (j2 (jd (ji K) rfl nb.b_len aR (j2 ↥42 j5)) j5))) ↥2 (λ_ _=>rfl)))) jo)
   (j8 (jF (jr qC (pv 4) jc (jB _)) (jb (jk (jx (j2 (pv 4) (j2 (pv 3) (j2 (je c_law_bent_row (hr.mono ⋯) rfl (j2 (pv 0) (j2 (je c_law_weather (hr.mono ⋯) rfl ↥29) j5))) j5)))))) jo)
   (j8 (jF (jr qC (pv 4) jc (jB _)) (jb (jk (jx (j2 (pv 4) (j2 (pv 3) j5))))) jo)
   (j8 (jF (jr qC (pv 4) jc (jB _)) (jb (jk (jx (j2 (pv 4) (j2 (pv 2) (j2 (pv 3) (j2 (jj (jf K) (jD (j2 (jv qr j6 ↥2) (j2 (je c_law_odd (hr.mono ⋯) rfl ↥29) j5))) (jv W8 ↥2 j6) (λ_ _=>rfl)) j5))))))) jo)
   (j8 (jF (jr qC (pv 4) jc (jB _)) (jb (jk (jx (j2 (pv 4) (j2 (pv 2) (j2 (pv 3) j5)))))) jo)
   (jb (jk (jx (j2 (pv 4) (j2 (jX (osc:=(ja qK)) (ON:=["_law_box_here","_law_scene_here","_law_lane","_law_year_here","_law_kind","_law_known"]) (N:=["_law_row_here","_law_box_here"]) (own:=1) (caps:=[0]) ⟨rfl,∅,∅,∅,rfl,∅⟩ rfl rfl rfl (qi K (je c_law_round (hr.mono ⋯) rfl ↥29)) (λ_ _ _ _ _=>(jm (i:=0) (show b8 (["_law_row_here","_law_box_here"]:List Str) by decide +kernel) rfl (bf rfl))) ↥24 (λ_ _ _ _ _=>(je c_law_bent_row (hr.mono ⋯) rfl (j2 (pv 1) ↥29)))) j5))))))))))))))))),?_⟩
  left
  refine ⟨sd,.ref c.gl,rfl,hgd S,?_⟩
  left
  refine ⟨c.gl,_,rfl,.inl (SqL.of S.gl),?_⟩
  rw [hzl]
  left
  refine ⟨L,b,_,rfl,B,⟨(),()⟩,λln H1 ln0 ln1 B1 X1=>?_⟩
  have S1:=S.ext O B X1
  left
  refine ⟨L,b,rfl,B1,λy1 H2 _ _ B2 X2=>?_⟩
  left
  refine ⟨L,b,rfl,B2,λy2 H3 _ _ B3 X3=>?_⟩
  left
  refine ⟨L,b,rfl,B3,λy3 H4 B4 X4=>?_⟩
  have S4:=((S1.ext O B1 X2).ext O B2 X3).ext O B3 X4
  have X04:Ext b H H4:=X1.trans (X2.trans (X3.trans X4))
  clear X1 X2 X3 X4 S1 B1 B2 B3
  left
  refine ⟨by show 3<=sizeLine;decide,λl5 H5 n5 h5 s5=>?_⟩
  have l5b:=B4.ne n5
  left
  refine ⟨L,b,_,rfl,B4.same s5,⟨⋯,⋯⟩,λpk H6 pk0 pk1 B6 X6=>?_⟩
  have S6:=(S4.same s5).ext O (B4.same s5) X6
  have X06:Ext b H H6:=λa u h n=>X6 _ _ (s5 _ _ (X04 a u h n)) n
  obtain ⟨y,hy⟩:∃y,atI [V.int y1,V.int y2,V.int y3] pk=some (V.int y):=by
   have:pk=0\/pk=1\/pk=2:=()
   rcases this with rfl | rfl | rfl
   ·exact ⟨y1,rfl⟩
   ·exact ⟨y2,rfl⟩
   ·exact ⟨y3,rfl⟩
  left
  refine ⟨_,_,_,_,rfl,rfl,SqL.of (X6 _ _ h5 l5b),hy,?_⟩
  clear B4 S4 X04 hy h5 n5 s5 l5b X6
  left
  refine ⟨by show 5<=sizeLine;decide,λl7 H7 n7 h7 s7=>?_⟩
  have l7b:=B6.ne n7
  left
  refine ⟨L,b,_,rfl,B6.same s7,⟨⋯,⋯⟩,λkd H8 kd0 kd1 B8 X8=>?_⟩
  have S8:=(S6.same s7).ext O (B6.same s7) X8
  have X08:Ext b H H8:=λa u h n=>X8 _ _ (s7 _ _ (X06 a u h n)) n
  obtain ⟨ks,hks,hkk⟩:∃ks:Str,atI [V.str "tell",V.str "plain",V.str "surge",V.str "calm",V.str "turn"] kd=some (V.str ks)/\(ks = "tell" \/ ks = "plain" \/ ks = "surge" \/ ks = "calm" \/ ks = "turn"):=by
   have:kd=0\/kd=1\/kd=2\/kd=3\/kd=4:=()
   rcases this with rfl | rfl | rfl | rfl | rfl
   ·exact ⟨_,rfl,.inl rfl⟩
   ·exact ⟨_,rfl,.inr (.inl rfl)⟩
   ·exact ⟨_,rfl,.inr (.inr (.inl rfl))⟩
   ·exact ⟨_,rfl,.inr (.inr (.inr (.inl rfl)))⟩
   ·exact ⟨_,rfl,.inr (.inr (.inr (.inr rfl)))⟩
  left
  refine ⟨_,_,_,_,rfl,rfl,SqL.of (X8 _ _ h7 l7b),hks,?_⟩
  clear B6 S6 X06 hks h7 n7 s7 l7b X8
  left
  refine ⟨sd,.ref c.sg,rfl,hsg S8,?_⟩
  left
  refine ⟨c.sg,c.sk.map kvA,rfl,S8.sg,λo H9 f9 acc hacc=>?_⟩
  have fr9:FrM c.D H8 H9:=Um f9 (.inl rfl)
  have hsg9:=f9.1
  have nacc:c.sg≠acc:=j4 hsg9 hacc
  refine Jo (a:=c.sg) (o:=o) (kvs:=c.sk.map kvA) (acc:=acc) (λi σ H10=>∃x:Option V,σ=[x]/\H10 acc=some (.lst (((c.sk.map (·.1)).take i).map V.int))/\Ext acc H9 H10) ?_ ?_ ?_ ?_
  ·exact ⟨none,rfl,j7,Ext.put⟩
  ·rintro i σ H10 hi ⟨x,rfl,h10,e10⟩
   exact e10 _ _ hsg9 nacc
  ·rintro i q σ H10 hq ⟨x,rfl,h10,e10⟩
   rw [aq] at hq
   obtain ⟨z,hz,rfl⟩:=Option.map_eq_some_iff.mp hq
   have hi:=(List.getElem?_eq_some_iff.mp hz).1
   left
   refine ⟨_,h10,by rw [af,b0];exact jh (),_,rfl,?_,e10.trans Ext.put⟩
   rw [j7,bL,aq,hz,aF]
   rfl
  rintro σ H10 ⟨x,rfl,h10,e10⟩
  rw [af,cN (by rw [af];exact av _)] at h10
  have fr10:FrM c.D H8 H10:=fr9.trans (FrM.of_same λc o hc=>e10 c o hc (j4 hc hacc))
  have B10:jG L H10 b:=jG.frM B8 fr10
  have S10:=S8.frM fr10
  have F10:Fr3 (λa=>a=b) c.D H H10:=jR (xu X08) (ZB fr10)
  have accb:acc≠b:=B8.ne (fr9.no hacc)
  generalize hns:c.sk.map (·.1)=ns at *
  have hnl:ns.length<=900:=by rw [<- hns,af];exact sk9
  clear fr9 hsg9 nacc e10 f9 hacc fr10 X08 B8 S8
  left
  refine ⟨λσ H'=>∃(y:Int) (x5:Option V),σ=[some (.ref b),some (.ref sd),some (.int ln),some (.int y),some (.str ks),x5]/\jG L H' b/\ScAt H' sd c/\Fr3 (λa=>a=b) c.D H H',?_,?_⟩
  ·have fin:∃(y':Int) (x5:Option V),[some (V.ref b),some (.ref sd),some (.int ln),some (.int y),some (.str ks),some (.ref acc)]=[some (.ref b),some (.ref sd),some (.int ln),some (.int y'),some (.str ks),x5]/\jG L H10 b/\ScAt H10 sd c/\Fr3 (λa=>a=b) c.D H H10:=⟨y,_,rfl,B10,S10,F10⟩
   left
   refine qH (λ_=>?_) (λ_=>fin)
   left
   refine ⟨acc,_,rfl,.inl (SqL.of h10),?_⟩
   left
   rw [af]
   refine qH (λz=>?_) (λ_=>fin)
   left
   refine ⟨L,b,_,rfl,B10,⟨⋯,⋯⟩,λv H11 _ _ B11 X11=>?_⟩
   have S11:=S10.ext O B10 X11
   have F11:=jR F10 (xu X11)
   have h11:=X11 _ _ h10 accb
   have fin2:∃(y':Int) (x5:Option V),[some (V.ref b),some (.ref sd),some (.int ln),some (.int y),some (.str ks),some (.ref acc)]=[some (.ref b),some (.ref sd),some (.int ln),some (.int y'),some (.str ks),x5]/\jG L H11 b/\ScAt H11 sd c/\Fr3 (λa=>a=b) c.D H H11:=⟨y,_,rfl,B11,S11,F11⟩
   left
   refine qH (λ_=>?_) (λ_=>fin2)
   left
   refine ⟨acc,_,rfl,.inl (SqL.of h11),?_⟩
   rw [af]
   left
   refine ⟨L,b,_,rfl,B11,⟨(),ou (show (ns.length:Int)<=900 by omega) ⋯⟩,λj H12 j0 j1 B12 X12=>?_⟩
   obtain ⟨y',hy'⟩:∃y',ns[j.toNat]? = some y':=⟨_,ag ()⟩
   left
   refine ⟨_,_,_,_,rfl,rfl,SqL.of (X12 _ _ h11 accb),qV (v:=V.int y') j0 (by rw [aq,hy'];rfl),?_⟩
   exact ⟨y',_,rfl,B12,S11.ext O B11 X12,jR F11 (xu X12)⟩
  clear h10 B10 S10 F10 accb hns hnl
  rintro σ H10 ⟨y,x5,rfl,B10,S10,F10⟩
  have hzl2:c.lds.length=c.ws.length:=O.ldl
  obtain ⟨xl,hxl⟩:∃xl,c.lds[ln.toNat]? = some xl:=⟨_,ag ()⟩
  have hxm:=ar hxl
  left
  refine ⟨sd,.ref c.ll,rfl,hlp S10,?_⟩
  left
  refine ⟨_,_,_,_,rfl,rfl,SqL.of S10.ll,qV (v:=V.ref xl.1) ln0 (by rw [aq,hxl];rfl),?_⟩
  left
  refine ⟨xl.1,xl.2.map kvI,rfl,S10.ld _ hxm,λo H11 f11 acc hacc=>?_⟩
  have fr11:FrM c.D H10 H11:=Um f11 (.inr ⟨xl,hxm,rfl⟩)
  have hsg11:=f11.1
  have nacc:xl.1≠acc:=j4 hsg11 hacc
  have hx9:=ld9 _ hxm
  refine Jo (a:=xl.1) (o:=o) (kvs:=xl.2.map kvI) (acc:=acc) (λi σ H12=>∃x:Option V,σ=[x]/\H12 acc=some (.lst (((xl.2.map (·.1)).take i).map V.int))/\Ext acc H11 H12) ?_ ?_ ?_ ?_
  ·exact ⟨none,rfl,j7,Ext.put⟩
  ·rintro i σ H12 hi ⟨x,rfl,h12,e12⟩
   exact e12 _ _ hsg11 nacc
  ·rintro i q σ H12 hq ⟨x,rfl,h12,e12⟩
   rw [aq] at hq
   obtain ⟨z,hz,rfl⟩:=Option.map_eq_some_iff.mp hq
   have hi:=(List.getElem?_eq_some_iff.mp hz).1
   left
   refine ⟨_,h12,by rw [af,b0];exact jh (),_,rfl,?_,e12.trans Ext.put⟩
   rw [j7,bL,aq,hz,aF]
   rfl
  rintro σ H12 ⟨x,rfl,h10,e12⟩
  rw [af,cN (by rw [af];exact av _)] at h10
  have fr12:FrM c.D H10 H12:=fr11.trans (FrM.of_same λc o hc=>e12 c o hc (j4 hc hacc))
  have accb:acc≠b:=B10.ne (fr11.no hacc)
  have B10:jG L H12 b:=jG.frM B10 fr12
  have S10:=S10.frM fr12
  have F10:Fr3 (λa=>a=b) c.D H H12:=jR F10 (ZB fr12)
  generalize hns:xl.2.map (·.1)=ns at *
  have hnl:ns.length<=900:=by rw [<- hns,af];exact hx9
  clear fr11 hsg11 nacc e12 f11 hacc fr12
  left
  refine ⟨λσ H'=>∃(y:Int) (x5:Option V),σ=[some (.ref b),some (.ref sd),some (.int ln),some (.int y),some (.str ks),x5]/\jG L H' b/\ScAt H' sd c/\Fr3 (λa=>a=b) c.D H H',?_,?_⟩
  ·have fin:∃(y':Int) (x5:Option V),[some (V.ref b),some (.ref sd),some (.int ln),some (.int y),some (.str ks),some (.ref acc)]=[some (.ref b),some (.ref sd),some (.int ln),some (.int y'),some (.str ks),x5]/\jG L H12 b/\ScAt H12 sd c/\Fr3 (λa=>a=b) c.D H H12:=⟨y,_,rfl,B10,S10,F10⟩
   left
   refine qH (λ_=>?_) (λ_=>fin)
   left
   refine ⟨acc,_,rfl,.inl (SqL.of h10),?_⟩
   left
   rw [af]
   refine qH (λz=>?_) (λ_=>fin)
   left
   refine ⟨L,b,_,rfl,B10,⟨⋯,⋯⟩,λv H13 _ _ B11 X13=>?_⟩
   have S11:=S10.ext O B10 X13
   have F11:=jR F10 (xu X13)
   have h11:=X13 _ _ h10 accb
   have fin2:∃(y':Int) (x5:Option V),[some (V.ref b),some (.ref sd),some (.int ln),some (.int y),some (.str ks),some (.ref acc)]=[some (.ref b),some (.ref sd),some (.int ln),some (.int y'),some (.str ks),x5]/\jG L H13 b/\ScAt H13 sd c/\Fr3 (λa=>a=b) c.D H H13:=⟨y,_,rfl,B11,S11,F11⟩
   left
   refine qH (λ_=>?_) (λ_=>fin2)
   left
   refine ⟨acc,_,rfl,.inl (SqL.of h11),?_⟩
   rw [af]
   left
   refine ⟨L,b,_,rfl,B11,⟨(),ou (show (ns.length:Int)<=900 by omega) ⋯⟩,λj H14 j0 j1 B14 X14=>?_⟩
   obtain ⟨y',hy'⟩:∃y',ns[j.toNat]? = some y':=⟨_,ag ()⟩
   left
   refine ⟨_,_,_,_,rfl,rfl,SqL.of (X14 _ _ h11 accb),qV (v:=V.int y') j0 (by rw [aq,hy'];rfl),?_⟩
   exact ⟨y',_,rfl,B14,S11.ext O B11 X14,jR F11 (xu X14)⟩
  clear h10 B10 S10 F10 accb hns hnl
  rintro σ H12 ⟨y,x5,rfl,B12,S12,F12⟩
  left
  refine ⟨λσ H'=>∃(l:Int),σ=[some (.ref b),some (.ref sd),some (.int l),some (.int y),some (.str ks),x5]/\jG L H' b/\ScAt H' sd c/\Fr3 (λa=>a=b) c.D H H',?_,?_⟩
  ·left
   refine ⟨L,b,_,rfl,B12,⟨⋯,⋯⟩,λv H13 _ _ B13 X13=>?_⟩
   have S13:=S12.ext O B12 X13
   have F13:=jR F12 (xu X13)
   have fin:∃l:Int,[some (V.ref b),some (.ref sd),some (.int ln),some (.int y),some (.str ks),x5]=[some (.ref b),some (.ref sd),some (.int l),some (.int y),some (.str ks),x5]/\jG L H13 b/\ScAt H13 sd c/\Fr3 (λa=>a=b) c.D H H13:=⟨ln,rfl,B13,S13,F13⟩
   left
   refine qH (λ_=>?_) (λ_=>fin)
   left
   refine ⟨sd,.ref c.gl,rfl,hgd S13,?_⟩
   left
   refine ⟨c.gl,_,rfl,.inl (SqL.of S13.gl),?_⟩
   left
   refine ⟨by show 2<=sizeLine;decide,λl14 H14 n14 h14 s14=>?_⟩
   left
   refine ⟨L,b,_,rfl,B13.same s14,⟨⋯,⋯⟩,λj H15 j0 j1 B15 X15=>?_⟩
   obtain ⟨l,hl⟩:∃l,atI [V.int (0-1),V.int (c.zs.length:Int)] j=some (V.int l):=by
    have:j=0\/j=1:=()
    rcases this with rfl | rfl
    ·exact ⟨_,rfl⟩
    ·exact ⟨_,rfl⟩
   left
   refine ⟨_,_,_,_,rfl,rfl,SqL.of (X15 _ _ h14 (B13.ne n14)),hl,?_⟩
   exact ⟨l,rfl,B15,(S13.same s14).ext O (B13.same s14) X15,jR F13 (jR (ZB (FrM.of_same s14)) (xu X15))⟩
  rintro σ H13 ⟨l,rfl,B13,S13,F13⟩
  have noH:∀{a:Addr} {H':Hp},Fr3 (λa=>a=b) c.D H H'->jG L H' b->H' a=none->H a=none:=λ{a H'} f B' n=>by
   cases e:H a with
   | none=>rfl
   | some u=>rcases f a u e (B'.ne n) with h | ⟨_,ob,kvs,_,h⟩ <;> (rw [n] at h;cases h)
  have fsame:∀{H1 H2:Hp},jn H1 H2->Fr3 (λa=>a=b) c.D H1 H2:=λs c o h _=>.inl (s _ _ h)
  clear B12 S12 F12
  rcases hkk with rfl | rfl | rfl | rfl | rfl
  ·left
   refine ⟨L,b,rfl,B13,λt H14 r B14 X14 ht _=>?_⟩
   left
   refine ⟨L,b,t,r,rfl,B14,ht,λt' r' H15 B15 X15 ht'=>?_⟩
   left
   refine ⟨by show 3<=sizeLine;decide,λa H16 n16 h16 s16=>?_⟩
   have F15:=jR F13 (jR (xu X14) (xu X15))
   exact k a (.tell y r' t') H16 (noH F15 B15 n16) ⟨h16,s16 _ _ ht'⟩ (B15.same s16) (((S13.ext O B13 X14).ext O B14 X15).same s16) (jR F15 (fsame s16))
  ·left
   refine ⟨by show 2<=sizeLine;decide,λa H16 n16 h16 s16=>?_⟩
   exact k a (.plain y) H16 (noH F13 B13 n16) h16 (B13.same s16) (S13.same s16) (jR F13 (fsame s16))
  ·left
   refine ⟨L,b,_,rfl,B13,⟨⋯,⋯⟩,λm1 H14 _ _ B14 X14=>?_⟩
   left
   refine ⟨L,b,rfl,B14,λm2 H15 B15 X15=>?_⟩
   left
   refine ⟨by show 2<=sizeLine;decide,λl16 H16 n16 h16 s16=>?_⟩
   have l16b:=B15.ne n16
   left
   refine ⟨L,b,_,rfl,B15.same s16,⟨⋯,⋯⟩,λj H17 j0 j1 B17 X17=>?_⟩
   obtain ⟨m,hm⟩:∃m,atI [V.int (1+m1),V.int m2] (j / 3)=some (V.int m):=by
    have:j / 3=0\/j / 3=1:=()
    rcases this with e | e <;> rw [e]
    ·exact ⟨_,rfl⟩
    ·exact ⟨_,rfl⟩
   have F17:=jR F13 (jR (xu X14) (jR (xu X15) (jR (fsame s16) (xu X17))))
   have S17:=(((S13.ext O B13 X14).ext O B14 X15).same s16).ext O (B15.same s16) X17
   left
   refine ⟨Em j0 j1,?_⟩
   refine ⟨_,_,_,_,rfl,rfl,SqL.of (X17 _ _ h16 l16b),hm,?_⟩
   left
   refine ⟨by show 4<=sizeLine;decide,λa H18 n18 h18 s18=>?_⟩
   exact k a (.surge l y m) H18 (noH F17 B17 n18) h18 (B17.same s18) (S17.same s18) (jR F17 (fsame s18))
  ·left
   refine ⟨by show 3<=sizeLine;decide,λa H16 n16 h16 s16=>?_⟩
   exact k a (.calm l y) H16 (noH F13 B13 n16) h16 (B13.same s16) (S13.same s16) (jR F13 (fsame s16))
  ·left
   refine ⟨L,b,rfl,B13,λq H14 xs ts B14 X14 hq hq14 r14 hl hg=>?_⟩
   left
   refine ⟨⟨_,SqL.of hq14⟩,λacc hacc=>?_⟩
   have na1:=B14.ne hacc
   have na2:=B14.neL hacc
   have qb:q≠b:=B13.ne hq
   have hxl:xs.length=ts.length:=aZ r14
   refine jT (K:=K) (a:=q) (xs:=xs) (acc:=acc) (λi σ H15=>∃(x:Option V) (vs:List V) (us:List T3),σ=[x,some (.ref b)]/\jG L H15 b/\H15 acc=some (.lst vs)/\jH H15 vs us/\us.length=i/\∀a u,H14 a=some u->a≠b->H15 a=some u) ?_ ?_ ?_ ?_
   ·exact ⟨none,[],[],rfl,B14.put na1 na2,j7,.nil,rfl,λa u h _=>by rw [j9 (j4 h hacc)];exact h⟩
   ·rintro i σ H15 hi ⟨x,vs,us,rfl,B15,h15,r15,l15,e15⟩
    exact SqL.of (e15 _ _ hq14 qb)
   ·rintro i v σ H15 hv ⟨x,vs,us,rfl,B15,h15,r15,l15,e15⟩
    obtain ⟨tt,htt,bt,rfl,hbt⟩:=jH.get r14 hv
    have hi:=(List.getElem?_eq_some_iff.mp hv).1
    have vl:vs.length=us.length:=aZ r15
    have hbt15:H15 bt=some (zM tt):=e15 _ _ hbt (λz=>by
     obtain ⟨ns',a1,r1,c1,d1,h1,_⟩:=B14
     rw [<- z,hbt] at h1
     cases h1)
    left
    refine ⟨L,b,bt,tt,rfl,B15,hbt15,λt' r' H16 B16 X16 ht'=>?_⟩
    have kt:=xL B15 X16
    have h16:=X16 _ _ h15 na1
    refine ⟨_,h16,jh (),_,vs++[.ref t'],us++[r'],rfl,B16.put na1 na2,j7,?_,by rw [ay,l15];rfl,λa u h n=>by rw [j9 (j4 h hacc)];exact X16 _ _ (e15 a u h n) n⟩
    exact cE (jH.imp (jH.imp r15 λ_ _ h=>kt _ _ h) λ_ _ h=>by rw [j9 (jg h h16 ↥4)];exact h) ⟨t',rfl,by rw [j9 (jg ht' h16 ↥4)];exact ht'⟩
   rintro σ H15 ⟨x,vs,us,rfl,B15,h15,r15,l15,e15⟩
   have X15:Ext b H14 H15:=λa u h n=>e15 a u h n
   have F15:=jR F13 (jR (xu X14) (xu X15))
   have S15:=(S13.ext O B13 X14).ext O B14 X15
   left
   refine ⟨by show 2<=sizeLine;decide,λa H16 n16 h16 s16=>?_⟩
   exact k a (.turn us) H16 (noH F15 B15 n16) ⟨acc,vs,h16,s16 _ _ h15,jH.imp r15 λ_ _ h=>s16 _ _ h,(),()⟩ (B15.same s16) (S15.same s16) (jR F15 (fsame s16))
theorem wS (l:List (Int×Addr)) (y:Int):(qm (l.map kvA) (.inl y)).isSome=decide (y∈l.map (·.1)):=by
 rw [<- ym,d5,pT,decide_eq_true_eq]
 constructor
 ·rintro ⟨kv,hk,e⟩
  obtain ⟨z,hz,rfl⟩:=List.mem_map.mp hk
  exact List.mem_map.mpr ⟨z,hz,dG (of_decide_eq_true e)⟩
 ·intro h
  obtain ⟨z,hz,rfl⟩:=List.mem_map.mp h
  exact ⟨_,List.mem_map.mpr ⟨z,hz,rfl⟩,decide_eq_true rfl⟩
theorem gj (l:List (Int×Int)) (y:Int):(qm (l.map kvI) (.inl y)).isSome=decide (y∈l.map (·.1)):=by
 rw [<- ym,d5,pT,decide_eq_true_eq]
 constructor
 ·rintro ⟨kv,hk,e⟩
  obtain ⟨z,hz,rfl⟩:=List.mem_map.mp hk
  exact List.mem_map.mpr ⟨z,hz,dG (of_decide_eq_true e)⟩
 ·intro h
  obtain ⟨z,hz,rfl⟩:=List.mem_map.mp h
  exact ⟨_,List.mem_map.mpr ⟨z,hz,rfl⟩,decide_eq_true rfl⟩
noncomputable def vF (c:ScN):DeedD->Option Str
 | .turn ts=>if ts.all good=true then none else some "BadRound"
 | .tell y r _=>if 0<=y/\y<=99 then (if good r=true then none else some "BadWeather") else some "BadYear"
 | .plain y=>if 0<=y/\y<=99 then (if y∈c.sk.map (·.1) then none else some "NotTold") else some "BadYear"
 | .surge l y m=>if 0<=l/\l< ↥59 then (if 0<=y/\y<=99 then (if 1<=m/\m<=9 then none else some "BadSurge") else some "BadYear") else some "NoLane"
 | .calm l y=>if 0<=l/\l< ↥59 then (if 0<=y/\y<=99 then (if y∈ (↥74).2.map (·.1) then none else some "NotTold") else some "BadYear") else some "NoLane"
noncomputable def Vs:Sp:=λvs H Q _=>∃(sd a:Addr) (c:ScN) (d:DeedD),vs=[.ref sd,.ref a]/\ScAt H sd c/\c.lds.length=c.ws.length/\xP H a d /\
 (vF c d=none->∀H',jn H H'->Q .non H')/\∀w,vF c d=some w->∀t H',H' t=some (.tup [.str "no",.str w])->jn H H'->Q (.ref t) H'
theorem zD:FnScope ["_law_scene_here","_law_deed","_law_kind","_law_year_here"] ["_law_scene_here","_law_deed"] (ja xU):=by walk_at "s"
theorem ZD (nb:Nb2 mg) (c_law_good_row:Cal P w K mg base 1 "_law_good_row" ["_law_row_here"] ke)
  (F:Fun K "_law_ice_due" "_law_ice_due" xU f fd):FnOk P w K mg base CX0 2 f fd ["_law_scene_here","_law_deed"] Vs:=by
 refine F.ok zD ↥12 ↥0
 ·obtain ⟨sd,a,c,d,rfl,_⟩:=h
  rfl
 ·obtain ⟨sd,a,c,d,rfl,S,hld,D,kn,kw⟩:=h
  have hzl:c.zs.length=c.ws.length:=(aZ S.gi).trans (af _)
  have hgd:∀{H':Hp},ScAt H' sd c->qc H' sd (.str "grounds") (some (.ref c.gl)):=λS'=>by rw [<- yC c.p c.q c.sg c.gl c.ll];exact qc.k (k:=.inr "grounds") S'.sd
  have hsg:∀{H':Hp},ScAt H' sd c->qc H' sd (.str "single") (some (.ref c.sg)):=λS'=>by rw [<- qP c.p c.q c.sg c.gl c.ll];exact qc.k (k:=.inr "single") S'.sd
  have hlp:∀{H':Hp},ScAt H' sd c->qc H' sd (.str "leaps") (some (.ref c.ll)):=λS'=>by rw [<- zE c.p c.q c.sg c.gl c.ll];exact qc.k (k:=.inr "leaps") S'.sd
  refine ⟨_,(j8 (jA 2 zD.nd ↥8)
   (j8 (jF (jr qC (pv 2) jc (jB _)) (jb (jk (jj (jf K) (jD (j2 (jx (j2 jc (j2 jc j5))) (j2 vn j5))) (jL gX rfl nb.b_int eR (j2 (jd (zr K rfl) rfl nb.b_all mV (j2 (jX (osc:=(ja xU)) (ON:=["_law_scene_here","_law_deed","_law_kind","_law_year_here"]) (N:=["_law_row_here"]) (own:=1) (caps:=[]) ⟨rfl,∅,∅,∅,rfl,∅⟩ rfl rfl rfl (qi K ↥8) (λ_ _ _ _ _=>(jm (i:=0) (show b8 (["_law_row_here"]:List Str) by decide +kernel) rfl (bf rfl))) ↥24 (λ_ _ _ _ _=>(je c_law_good_row (hr.mono ⋯) rfl ↥29))) j5)) j5)) (λ_ _=>rfl)))) jo)
   (j8 (jF (PW.pt (yf (jr (vQ K) (pv 2) (jx (j2 jc (j2 jc j5))) ↥35) (zZ (qt (qS qk wR j6 ↥8 (jd (ji K) rfl nb.b_len aR (j2 ↥16 j5))))))) (jb (jk (jx (j2 jc (j2 jc j5))))) jo)
   (j8 (jA 3 zD.nd (jj (jt K) (pv 1) (jv qr j6 (jL gX rfl nb.b_int eR (j2 (zq (vQ K) (pv 2) (jx (j2 jc (j2 jc j5))) ↥35) j5))) (λ_ _=>rfl)))
   (j8 (jF (qt (qS qk qk j6 (pv 3) j6)) (jb (jk (jx (j2 jc (j2 jc j5))))) jo)
   (j8 (jF (PW.pt (yf (jr qC (pv 2) jc (jB _)) (zZ (qt (qU (je c_law_good_row (hr.mono ⋯) rfl (j2 ↥8 j5))))))) (jb (jk (jx (j2 jc (j2 jc j5))))) jo)
   (j8 (jF (PW.pt (yf (jr qC (pv 2) jc (jB _)) (zZ (qt (qS qk qk j6 ↥8 j6))))) (jb (jk (jx (j2 jc (j2 jc j5))))) jo)
   (j8 (jF (PW.pt (ZP (PW.pt (yf (jr qC (pv 2) jc (jB _)) (zZ (gf (vA (jE hr) (pv 3) ↥16) ↥35)))) (Qp (PW.pt (yf (jr qC (pv 2) jc (jB _)) (zZ (gf (vA (jE hr) (pv 3) (jj (jf K) ↥16 ↥8 (λ_ _=>rfl))) ↥35))))))) (jb (jk (jx (j2 jc (j2 jc j5))))) jo)
   (jb (jk vn)))))))))),?_⟩
  cases d with
  | turn ts =>
   obtain ⟨q,xs,ha,hq,r,l1,l2⟩:=D
   have hxl:xs.length=ts.length:=aZ r
   left
   refine qH (λ_=>?_) (λz=>absurd rfl z)
   left
   refine ⟨by show 2<=sizeLine;decide,λtn H1 n1 h1 s1=>?_⟩
   left
   refine ⟨by show 2<=sizeLine;decide,λl2' H2 n2 h2 s2=>?_⟩
   have s02:=s1.trans s2
   have hq2:=s02 _ _ hq
   have ha2:=s02 _ _ ha
   left
   refine ⟨⟨_,SqL.of hq2⟩,λacc hacc=>?_⟩
   refine jT (K:=K) (a:=q) (xs:=xs) (acc:=acc) (λi σ H3=>∃x:Option V,σ=[x]/\H3 acc=some (.lst (((ts.take i).map good).map V.bl))/\Ext acc H2 H3) ?_ ?_ ?_ ?_
   ·exact ⟨none,rfl,j7,Ext.put⟩
   ·rintro i σ H3 hi ⟨x,rfl,h3,e3⟩
    exact SqL.of (e3 _ _ hq2 (j4 hq2 hacc))
   ·rintro i v σ H3 hv ⟨x,rfl,h3,e3⟩
    obtain ⟨tt,htt,bt,rfl,hbt⟩:=jH.get r hv
    have hbt2:=s02 _ _ hbt
    have hi:=(List.getElem?_eq_some_iff.mp hv).1
    left
    refine ⟨bt,tt,rfl,e3 _ _ hbt2 (j4 hbt2 hacc),?_⟩
    refine ⟨_,h3,by rw [af,af,b0];exact jh (),_,rfl,?_,e3.trans Ext.put⟩
    rw [j7,bL,htt,aF,aF]
    rfl
   rintro σ H3 ⟨x,rfl,h3,e3⟩
   rw [cN ()] at h3
   have s3:jn H2 H3:=λc o hc=>e3 c o hc (j4 hc hacc)
   have hl3:=s3 _ _ h2
   left
   refine ⟨acc,ts.map good,rfl,SqL.of h3,?_⟩
   left
   refine .inr ⟨_,rfl,?_⟩
   rw [show ((ts.map good).all λb=>b)=ts.all good by rw [fi];rfl]
   cases eg:ts.all good with
   | true =>
    refine ⟨_,_,_,_,rfl,rfl,SqL.of hl3,rfl,?_⟩
    exact kn (if_pos eg) H3 (s02.trans s3)
   | false =>
    refine ⟨_,_,_,_,rfl,rfl,SqL.of hl3,rfl,?_⟩
    exact kw "BadRound" (if_neg (by rw [eg];exact au)) tn H3 (s3 _ _ (s2 _ _ h1)) (s02.trans s3)
  | tell y r t =>
   obtain ⟨ha,ht⟩:=D
   left
   refine ⟨by show 2<=sizeLine;decide,λtp H1 n1 h1 s1=>?_⟩
   refine ⟨tp,_,rfl,.inr (SqT.of h1),rfl,rfl,?_⟩
   have ha1:=s1 _ _ ha
   left
   refine ⟨by show 2<=sizeLine;decide,λtp2 H2 n2 h2 s2=>?_⟩
   refine ⟨tp2,_,rfl,.inr (SqT.of h2),rfl,rfl,?_⟩
   have s02:=s1.trans s2
   have ha2:=s02 _ _ ha
   left
   refine .inr ⟨_,rfl,?_⟩
   left
   refine qH (λy0=>?_) (λy0=>?_)
   rotate_left
   ·left
    refine zw ?_
    left
    exact ⟨by show 2<=sizeLine;decide,λt9 H9 n9 h9 s9=>kw "BadYear" (by exact if_neg (λz=>())) t9 H9 h9 (s02.trans s9)⟩
   left
   refine xz (λy1=>?_) (λy1=>?_)
   ·left
    exact ⟨by show 2<=sizeLine;decide,λt9 H9 n9 h9 s9=>kw "BadYear" (by exact if_neg (λz=>())) t9 H9 h9 (s02.trans s9)⟩
   have hy:(0<=y/\y<=99):=⟨(),()⟩
   have ht2:=s02 _ _ ht
   left
   refine ⟨t,r,rfl,ht2,?_⟩
   cases eg:good r with
   | false =>
    left
    exact ⟨by show 2<=sizeLine;decide,λt9 H9 n9 h9 s9=>kw "BadWeather" (by show ↥30=_;rw [if_pos hy,if_neg (by rw [eg];exact au)]) t9 H9 h9 (s02.trans s9)⟩
   | true =>
    left
    exact kn (by show ↥30=_;rw [if_pos hy,if_pos eg]) _ s02
  | plain y =>
   have ha:H a=some (.tup [.str "plain",.int y]):=D
   left
   refine ⟨by show 2<=sizeLine;decide,λtp H1 n1 h1 s1=>?_⟩
   refine ⟨tp,_,rfl,.inr (SqT.of h1),rfl,rfl,?_⟩
   have ha1:=s1 _ _ ha
   left
   refine ⟨by show 2<=sizeLine;decide,λtp2 H2 n2 h2 s2=>?_⟩
   refine ⟨tp2,_,rfl,.inr (SqT.of h2),rfl,rfl,?_⟩
   have s02:=s1.trans s2
   have ha2:=s02 _ _ ha
   left
   refine .inr ⟨_,rfl,?_⟩
   left
   refine qH (λy0=>?_) (λy0=>?_)
   rotate_left
   ·left
    refine zw ?_
    left
    exact ⟨by show 2<=sizeLine;decide,λt9 H9 n9 h9 s9=>kw "BadYear" (by exact if_neg (λz=>())) t9 H9 h9 (s02.trans s9)⟩
   left
   refine xz (λy1=>?_) (λy1=>?_)
   ·left
    exact ⟨by show 2<=sizeLine;decide,λt9 H9 n9 h9 s9=>kw "BadYear" (by exact if_neg (λz=>())) t9 H9 h9 (s02.trans s9)⟩
   have hy:(0<=y/\y<=99):=⟨(),()⟩
   have S2:=S.same s02
   left
   refine ⟨sd,.ref c.sg,rfl,hsg S2,?_⟩
   left
   refine ⟨c.sg,_,rfl,.inl ⟨_,.inl y,S2.sg,rfl,rfl⟩,?_⟩
   rw [wS]
   by_cases hm:y∈c.sk.map (·.1)
   ·rw [decide_eq_true hm]
    left
    exact kn (by show ↥30=_;rw [if_pos hy,if_pos hm]) _ s02
   ·rw [decide_eq_false hm]
    left
    exact ⟨by show 2<=sizeLine;decide,λt9 H9 n9 h9 s9=>kw "NotTold" (by show ↥30=_;rw [if_pos hy,if_neg hm]) t9 H9 h9 (s02.trans s9)⟩
  | surge l y m =>
   have ha:H a=some (.tup [.str "surge",.int l,.int y,.int m]):=D
   left
   refine ⟨by show 2<=sizeLine;decide,λtp H1 n1 h1 s1=>?_⟩
   refine ⟨tp,_,rfl,.inr (SqT.of h1),rfl,rfl,?_⟩
   have ha1:=s1 _ _ ha
   left
   have S1:=S.same s1
   have noL:(¬(0<=l/\l< ↥59))->vF c (.surge l y m)=some ("NoLane" : Str):=λz=>if_neg z
   refine qH (λl0=>?_) (λl0=>?_)
   rotate_left
   ·left
    refine zw ?_
    left
    exact ⟨by show 2<=sizeLine;decide,λt9 H9 n9 h9 s9=>kw "NoLane" (noL ()) t9 H9 h9 (s1.trans s9)⟩
   left
   refine ⟨sd,.ref c.gl,rfl,hgd S1,?_⟩
   left
   refine ⟨c.gl,_,rfl,.inl (SqL.of S1.gl),?_⟩
   rw [hzl]
   left
   refine xz (λl1=>?_) (λl1=>?_)
   ·left
    exact ⟨by show 2<=sizeLine;decide,λt9 H9 n9 h9 s9=>kw "NoLane" (noL ()) t9 H9 h9 (s1.trans s9)⟩
   have hl:0<=l/\l< ↥59:=⟨l0,()⟩
   left
   refine ⟨by show 2<=sizeLine;decide,λtp2 H2 n2 h2 s2=>?_⟩
   refine ⟨tp2,_,rfl,.inr (SqT.of h2),rfl,rfl,?_⟩
   have s02:=s1.trans s2
   have ha2:=s02 _ _ ha
   left
   refine .inr ⟨_,rfl,?_⟩
   left
   refine qH (λy0=>?_) (λy0=>?_)
   rotate_left
   ·left
    refine zw ?_
    left
    exact ⟨by show 2<=sizeLine;decide,λt9 H9 n9 h9 s9=>kw "BadYear" ↥87 t9 H9 h9 (s02.trans s9)⟩
   left
   refine xz (λy1=>?_) (λy1=>?_)
   ·left
    exact ⟨by show 2<=sizeLine;decide,λt9 H9 n9 h9 s9=>kw "BadYear" ↥87 t9 H9 h9 (s02.trans s9)⟩
   have hy:(0<=y/\y<=99):=⟨(),()⟩
   left
   have noM:(¬(1<=m/\m<=9))->vF c (.surge l y m)=some ("BadSurge" : Str):=λz=>by
    show ↥30=_
    rw [if_pos hl,if_pos hy,if_neg z]
   refine qH (λm0=>?_) (λm0=>?_)
   rotate_left
   ·left
    refine zw ?_
    left
    exact ⟨by show 2<=sizeLine;decide,λt9 H9 n9 h9 s9=>kw "BadSurge" (noM ()) t9 H9 h9 (s02.trans s9)⟩
   left
   refine xz (λm1=>?_) (λm1=>?_)
   ·left
    exact ⟨by show 2<=sizeLine;decide,λt9 H9 n9 h9 s9=>kw "BadSurge" (noM ()) t9 H9 h9 (s02.trans s9)⟩
   left
   exact kn (by show ↥30=_;rw [if_pos hl,if_pos hy,if_pos ⟨(),()⟩]) _ s02
  | calm l y =>
   have ha:H a=some (.tup [.str "calm",.int l,.int y]):=D
   left
   refine ⟨by show 2<=sizeLine;decide,λtp H1 n1 h1 s1=>?_⟩
   refine ⟨tp,_,rfl,.inr (SqT.of h1),rfl,rfl,?_⟩
   have ha1:=s1 _ _ ha
   left
   have S1:=S.same s1
   have noL:(¬(0<=l/\l< ↥59))->vF c (.calm l y)=some ("NoLane" : Str):=λz=>if_neg z
   refine qH (λl0=>?_) (λl0=>?_)
   rotate_left
   ·left
    refine zw ?_
    left
    exact ⟨by show 2<=sizeLine;decide,λt9 H9 n9 h9 s9=>kw "NoLane" (noL ()) t9 H9 h9 (s1.trans s9)⟩
   left
   refine ⟨sd,.ref c.gl,rfl,hgd S1,?_⟩
   left
   refine ⟨c.gl,_,rfl,.inl (SqL.of S1.gl),?_⟩
   rw [hzl]
   left
   refine xz (λl1=>?_) (λl1=>?_)
   ·left
    exact ⟨by show 2<=sizeLine;decide,λt9 H9 n9 h9 s9=>kw "NoLane" (noL ()) t9 H9 h9 (s1.trans s9)⟩
   have hl:0<=l/\l< ↥59:=⟨l0,()⟩
   left
   refine ⟨by show 2<=sizeLine;decide,λtp2 H2 n2 h2 s2=>?_⟩
   refine ⟨tp2,_,rfl,.inr (SqT.of h2),rfl,rfl,?_⟩
   have s02:=s1.trans s2
   have ha2:=s02 _ _ ha
   left
   refine .inr ⟨_,rfl,?_⟩
   left
   refine qH (λy0=>?_) (λy0=>?_)
   rotate_left
   ·left
    refine zw ?_
    left
    exact ⟨by show 2<=sizeLine;decide,λt9 H9 n9 h9 s9=>kw "BadYear" ↥87 t9 H9 h9 (s02.trans s9)⟩
   left
   refine xz (λy1=>?_) (λy1=>?_)
   ·left
    exact ⟨by show 2<=sizeLine;decide,λt9 H9 n9 h9 s9=>kw "BadYear" ↥87 t9 H9 h9 (s02.trans s9)⟩
   have hy:(0<=y/\y<=99):=⟨(),()⟩
   have S2:=S.same s02
   left
   have hi:l.toNat<c.lds.length:=()
   have hxl:c.lds[l.toNat]? = some ↥74:=by rw [ao,ag hi];rfl
   refine ⟨sd,.ref c.ll,rfl,hlp S2,?_⟩
   left
   refine ⟨_,_,_,_,rfl,rfl,SqL.of S2.ll,qV (v:=V.ref (↥74).1) l0 (by rw [aq,hxl];rfl),?_⟩
   left
   refine ⟨_,_,rfl,.inl ⟨_,.inl y,S2.ld _ (ar hxl),rfl,rfl⟩,?_⟩
   rw [gj]
   by_cases hm:y∈ (↥74).2.map (·.1)
   ·rw [decide_eq_true hm]
    left
    exact kn (by show ↥30=_;rw [if_pos hl,if_pos hy,if_pos hm]) _ s02
   ·rw [decide_eq_false hm]
    left
    exact ⟨by show 2<=sizeLine;decide,λt9 H9 n9 h9 s9=>kw "NotTold" (by show ↥30=_;rw [if_pos hl,if_pos hy,if_neg hm]) t9 H9 h9 (s02.trans s9)⟩
noncomputable def QW (g:IceG):DeedD->Option Str
 | .turn ts=>if gr ts=true then none else some "BadRound"
 | .tell y r _=>if 0<=y/\y<=99 then (if good r=true then none else some "BadWeather") else some "BadYear"
 | .plain y=>if 0<=y/\y<=99 then (if (qm g.kvs (.inl y)).isSome=true then none else some "NotTold") else some "BadYear"
 | .surge l y m=>if 0<=l/\l< ↥18 then (if 0<=y/\y<=99 then (if 1<=m/\m<=9 then none else some "BadSurge") else some "BadYear") else some "NoLane"
 | .calm l y=>if 0<=l/\l< ↥18 then (if 0<=y/\y<=99 then (if (qm (g.lds.getD l.toNat (0,[])).2 (.inl y)).isSome=true then none else some "NotTold") else some "BadYear") else some "NoLane"
noncomputable def XN (H:Hp) (g:IceG):DeedD->IceG->Prop
 | .turn ts,g'=>∃cy xs,H cy=none/\g'={ g with cy:=cy,ys:=xs,rows:=ts }
 | .tell y _ t,g'=>g'={ g with kvs:=qu g.kvs (.inl y) (.ref t) }
 | .plain y,g'=>g'={ g with kvs:=zk g.kvs (.inl y) }
 | .surge l y m,g'=>∃a kvs,g.lds[l.toNat]? = some (a,kvs)/\g'={ g with lds:=x8 g.lds l.toNat (qu kvs (.inl y) (.int m)) }
 | .calm l y,g'=>∃a kvs,g.lds[l.toNat]? = some (a,kvs)/\g'={ g with lds:=x8 g.lds l.toNat (zk kvs (.inl y)) }
noncomputable def FrI (p:Addr) (g:IceG) (H H':Hp):Prop:=∀a u,H a=some u->a≠p->a≠g.ye->(∀x∈g.lds,a≠x.1)->H' a=some u
noncomputable def GX (C:Addr):Sp:=λvs H Q _=>∃(p a:Addr) (g:IceG) (d:DeedD),vs=[.ref p,.ref a]/\IceAt C H p g/\g.lds.length=g.slopes.length/\(∀x∈g.lds,x.1≠g.ye)/\(g.lds.map (·.1)).Nodup/\(∀x∈g.lds,x.2.length<=1000)/\g.kvs.length<=1000/\xP H a d /\
 (QW g d=none->∀g' H',XN H g d g'->IceAt C H' p g'->FrI p g H H'->Q .non H')/\∀w,QW g d=some w->∀t H',H' t=some (.tup [.str "no",.str w])->jn H H'->Q (.ref t) H'
theorem qd:FnScope ["_law_ice","_law_deed","_law_found","_law_handed","_law_e"] ["_law_ice","_law_deed"] (ja yu):=by walk_at "s"
theorem YL {CR:Addr}(nb:Nb2 mg) (cl_Ice:Cls K C) (e_FirnError:mg "FirnError" = some (.ref CF)) (mR:cc K (.ref CR) (.ref CF)=some true) (mW:cc K (.ref CW) (.ref CF)=some true) (mY:cc K (.ref CY) (.ref CF)=some true) (mS:cc K (.ref CS) (.ref CF)=some true) (mN:cc K (.ref CN) (.ref CF)=some true) (mO:cc K (.ref CO) (.ref CF)=some true)
  (kR:KindK K Cs CR 1) (kW:KindK K Cs CW 2) (kY:KindK K Cs CY 3) (kS:KindK K Cs CS 4) (kN:KindK K Cs CN 9) (kO:KindK K Cs CO 12)
  (c_Ice__turn:CalMX P w K mg base 4 C "turn" ["self","rows"] (U5 C CR)) (c_Ice__tell:CalMX P w K mg base 2 C "tell" ["self","year","row"] (Zs C CY CW)) (c_Ice__plain:CalMX P w K mg base 2 C "plain" ["self","year"] (Y4 C CY CO)) (c_Ice__surge:CalMX P w K mg base 2 C "surge" ["self","lane","year","many"] (JI C CN CY CS)) (c_Ice__calm:CalMX P w K mg base 2 C "calm" ["self","lane","year"] (VH C CN CY CO)) (c_law_kinds:CalH P w K mg base 1 "_law_kinds" ["_law_e"] (Yi K Cs))
  (F:Fun K "_law_ice_do" "_law_ice_do" yu f fd):FnOk P w K mg base CX0 5 f fd ["_law_ice","_law_deed"] (GX C):=by
 refine F.ok qd ↥12 ↥0
 ·obtain ⟨p,a,g,d,rfl,_⟩:=h
  rfl
 ·obtain ⟨p,a,g,d,rfl,I,hll,hn,nd,hk,hk2,D,kn,kw⟩:=h
  refine ⟨_,(j8 (jA 2 qd.nd vn)
   (j8 (U2 (i:=4) K rfl rfl e_FirnError rfl qd.nd rfl rfl (λpn J=>(jb (jF (jr qC ↥8 jc (jB _)) (j8 (jA 3 qd.nd (jL (jN K) rfl nb.b_list bo (j2 ↥8 j5)))
   (j8 (jA 2 qd.nd (zf (pv 0) cl_Ice c_Ice__turn (hr.mono ⋯) ux (j2 (pv 3) j5)))
   (jb (jU (vm K bR bN bO qL (pv 3) (j2 (jx (j2 j6 (j2 j6 (j2 j6 j5)))) j5)))))) (jb (jF (jr qC ↥8 jc (jB _)) (jb (jA 2 qd.nd (zf (pv 0) cl_Ice c_Ice__tell (hr.mono ⋯) ux (j2 ↥8 (j2 ↥8 j5))))) (jb (jF (jr qC ↥8 jc (jB _)) (jb (jA 2 qd.nd (zf (pv 0) cl_Ice c_Ice__plain (hr.mono ⋯) ux (j2 ↥8 j5)))) (jb (jF (jr qC ↥8 jc (jB _)) (jb (jA 2 qd.nd (zf (pv 0) cl_Ice c_Ice__surge (hr.mono ⋯) ux (j2 ↥8 (j2 ↥8 (j2 ↥8 j5)))))) (jb (jA 2 qd.nd (zf (pv 0) cl_Ice c_Ice__calm (hr.mono ⋯) ux (j2 ↥8 (j2 ↥8 j5)))))))))))))) (λa oe pn=>(jb (jA 2 qd.nd (W6 c_law_kinds (hr.mono (j:=1) ⋯).dp (hr.mono (j:=1) ⋯).un rfl (aD _ (List.mem_singleton.mpr rfl)) rfl (j2 (pv 4) j5))))))
   (jb (jk (pv 2))))),?_⟩
  cases d with
  | turn ts =>
   obtain ⟨q,xs,ha,hq,r,l1,l2⟩:=D
   have hxl:xs.length=ts.length:=aZ r
   left
   refine ⟨q,xs,rfl,.inl (SqL.of hq),λhd H1 n1 h1 s1=>?_⟩
   have I1:=I.same s1
   left
   refine ⟨p,g.dx,_,rfl,I1.ob,qa ∅,?_⟩
   left
   refine ⟨p,hd,g,xs,ts,rfl,I1,h1,jH.imp r λ_ _ h=>s1 _ _ h,(),λH2 cy hg hcy e2 I2=>?_,λH1' hg s1'=>⟨mR,λa' oe eo ha'=>?_⟩⟩
   ·have hdp:hd≠p:=(j4 I.ob n1).symm
    have h2:=e2 _ _ h1 hdp
    left
    refine ⟨.inl ⟨rfl,_,SqL.of h2⟩,?_⟩
    left
    refine ⟨by show 3<=sizeLine;decide,λtq H3 htq htq3 s3=>?_⟩
    refine ⟨_,_,_,rfl,rfl,s3 _ _ h2,jh (),?_⟩
    have nH:∀{b:Addr} {u v:HO},H3 b=some u->b≠hd->(upd H3 hd v) b=some u:=λh n=>by rw [j9 n];exact h
    have up:∀b u,H b=some u->b≠p->(upd H3 hd (.lst (xs++[V.ref tq]))) b=some u:=λb u h n=>nH (s3 _ _ (e2 _ _ (s1 _ _ h) n)) (j4 h n1)
    have pne:(upd H3 hd (.lst (xs++[V.ref tq]))) p=some (.ins C g.dx (xM g.va cy g.sl g.ye g.le)):=nH (s3 _ _ I2.ob) hdp.symm
    have cyh:cy≠hd:=(j4 h1 hcy).symm
    left
    exact kn (if_pos hg) _ _ ⟨cy,xs,s1.free hcy,rfl⟩ (I.cycle up pne (nH (s3 _ _ I2.cy) cyh) (jH.imp I2.rows λ_ _ h=>nH (s3 _ _ h) (jg h h2 ↥4))) (λb u h n1' n2' n3'=>up b u h n1')
   ·left
    refine ⟨_,eo,CR,1,rfl,rfl,kR,λt2 H2 ht2 s2=>?_⟩
    show wE (uq 2) _ _ _
    left
    exact kw "BadRound" (if_neg (by rw [hg];exact au)) t2 H2 ht2 ((s1.trans s1').trans s2)
  | tell y r t =>
   obtain ⟨ha,ht⟩:=D
   left
   refine ⟨p,g.dx,_,rfl,I.ob,qa ∅,?_⟩
   left
   refine ⟨p,t,g,y,r,rfl,I,hn,ht,hk2,λH1 y0 y1 hg e1 I1=>?_,λhb=>⟨mY,λa' oe eo ha'=>?_⟩,λy0 y1 hg=>⟨mW,λa' oe eo ha'=>?_⟩⟩
   ·left
    exact kn (by show ↥30=_;rw [if_pos (show 0<=y/\y<=99 from ⟨y0,y1⟩),if_pos hg]) _ H1 rfl I1 (λb u h n1 n2 n3=>e1 _ _ h n2)
   ·left
    refine ⟨_,eo,CY,3,rfl,rfl,kY,λt2 H2 ht2 s2=>?_⟩
    show wE (uq 2) _ _ _
    left
    exact kw "BadYear" (if_neg ()) t2 H2 ht2 (s2)
   ·left
    refine ⟨_,eo,CW,2,rfl,rfl,kW,λt2 H2 ht2 s2=>?_⟩
    show wE (uq 2) _ _ _
    left
    exact kw "BadWeather" (by show ↥30=_;rw [if_pos (show 0<=y/\y<=99 from ⟨y0,y1⟩),if_neg (by rw [hg];exact au)]) t2 H2 ht2 (s2)
  | plain y =>
   have ha:H a=some (.tup [.str "plain",.int y]):=D
   left
   refine ⟨p,g.dx,_,rfl,I.ob,qa ∅,?_⟩
   left
   refine ⟨p,g,y,rfl,I,hn,λH1 y0 y1 hs e1 I1=>?_,λhb=>⟨mY,λa' oe eo ha'=>?_⟩,λy0 y1 hv=>⟨mO,λa' oe eo ha'=>?_⟩⟩
   ·left
    exact kn (by show ↥30=_;rw [if_pos (show 0<=y/\y<=99 from ⟨y0,y1⟩),if_pos hs]) _ H1 rfl I1 (λb u h n1 n2 n3=>e1 _ _ h n2)
   ·left
    refine ⟨_,eo,CY,3,rfl,rfl,kY,λt2 H2 ht2 s2=>?_⟩
    show wE (uq 2) _ _ _
    left
    exact kw "BadYear" (if_neg ()) t2 H2 ht2 (s2)
   ·left
    refine ⟨_,eo,CO,12,rfl,rfl,kO,λt2 H2 ht2 s2=>?_⟩
    show wE (uq 2) _ _ _
    left
    exact kw "NotTold" (by show ↥30=_;rw [if_pos (show 0<=y/\y<=99 from ⟨y0,y1⟩),if_neg (by rw [hv];exact au)]) t2 H2 ht2 (s2)
  | surge l y m =>
   have ha:H a=some (.tup [.str "surge",.int l,.int y,.int m]):=D
   left
   refine ⟨p,g.dx,_,rfl,I.ob,qa ∅,?_⟩
   left
   refine ⟨p,g,l,y,m,rfl,I,hll,hn,nd,hk,λH1 a' kvs l0 l1 y0 y1 m0 m1 hl e1 I1=>?_,λhb=>⟨mN,λa' oe eo ha'=>?_⟩,λl0 l1 hb=>⟨mY,λa' oe eo ha'=>?_⟩,λl0 l1 y0 y1 hb=>⟨mS,λa' oe eo ha'=>?_⟩⟩
   ·left
    exact kn (by show ↥30=_;rw [if_pos (show 0<=l/\l< ↥18 from ⟨l0,l1⟩),if_pos (show 0<=y/\y<=99 from ⟨y0,y1⟩),if_pos (show 1<=m/\m<=9 from ⟨m0,m1⟩)]) _ H1 ⟨a',kvs,hl,rfl⟩ I1 (λb u h n1 n2 n3=>e1 _ _ h (n3 _ (ar hl)))
   ·left
    refine ⟨_,eo,CN,9,rfl,rfl,kN,λt2 H2 ht2 s2=>?_⟩
    show wE (uq 2) _ _ _
    left
    exact kw "NoLane" (if_neg ()) t2 H2 ht2 (s2)
   ·left
    refine ⟨_,eo,CY,3,rfl,rfl,kY,λt2 H2 ht2 s2=>?_⟩
    show wE (uq 2) _ _ _
    left
    exact kw "BadYear" (by show ↥30=_;rw [if_pos (show 0<=l/\l< ↥18 from ⟨l0,l1⟩),if_neg ()]) t2 H2 ht2 (s2)
   ·left
    refine ⟨_,eo,CS,4,rfl,rfl,kS,λt2 H2 ht2 s2=>?_⟩
    show wE (uq 2) _ _ _
    left
    exact kw "BadSurge" (by show ↥30=_;rw [if_pos (show 0<=l/\l< ↥18 from ⟨l0,l1⟩),if_pos (show 0<=y/\y<=99 from ⟨y0,y1⟩),if_neg ()]) t2 H2 ht2 (s2)
  | calm l y =>
   have ha:H a=some (.tup [.str "calm",.int l,.int y]):=D
   left
   refine ⟨p,g.dx,_,rfl,I.ob,qa ∅,?_⟩
   left
   refine ⟨p,g,l,y,rfl,I,hll,hn,nd,λH1 a' kvs l0 l1 y0 y1 hl hs e1 I1=>?_,λhb=>⟨mN,λa' oe eo ha'=>?_⟩,λl0 l1 hb=>⟨mY,λa' oe eo ha'=>?_⟩,λb' kvs l0 l1 y0 y1 hl hv=>⟨mO,λa' oe eo ha'=>?_⟩⟩
   ·left
    exact kn (by show ↥30=_;rw [if_pos (show 0<=l/\l< ↥18 from ⟨l0,l1⟩),if_pos (show 0<=y/\y<=99 from ⟨y0,y1⟩),if_pos (by rw [ao,hl];exact hs)]) _ H1 ⟨a',kvs,hl,rfl⟩ I1 (λb u h n1 n2 n3=>e1 _ _ h (n3 _ (ar hl)))
   ·left
    refine ⟨_,eo,CN,9,rfl,rfl,kN,λt2 H2 ht2 s2=>?_⟩
    show wE (uq 2) _ _ _
    left
    exact kw "NoLane" (if_neg ()) t2 H2 ht2 (s2)
   ·left
    refine ⟨_,eo,CY,3,rfl,rfl,kY,λt2 H2 ht2 s2=>?_⟩
    show wE (uq 2) _ _ _
    left
    exact kw "BadYear" (by show ↥30=_;rw [if_pos (show 0<=l/\l< ↥18 from ⟨l0,l1⟩),if_neg ()]) t2 H2 ht2 (s2)
   ·left
    refine ⟨_,eo,CO,12,rfl,rfl,kO,λt2 H2 ht2 s2=>?_⟩
    show wE (uq 2) _ _ _
    left
    exact kw "NotTold" (by show ↥30=_;rw [if_pos (show 0<=l/\l< ↥18 from ⟨l0,l1⟩),if_pos (show 0<=y/\y<=99 from ⟨y0,y1⟩),if_neg (by rw [ao,hl];show ¬(qm kvs (.inl y)).isSome=true;rw [hv];exact au)]) t2 H2 ht2 (s2)
theorem XT (p q sg gl ll q2:Addr):qu (scK p q sg gl ll) (.inr "rows") (.ref q2)=scK p q2 sg gl ll:=by
 unfold qu scK
 rw [if_pos (by simp [tE])]
 simp only [aV,fh]
 rw [if_neg (show ¬ ↥62=aM (ai "rows") by decide +kernel),if_pos trivial,if_neg (show ¬(aM (ai "single"):Key)=aM (ai "rows") by decide +kernel),if_neg (show ¬(aM (ai "grounds"):Key)=aM (ai "rows") by decide +kernel),if_neg (show ¬(aM (ai "leaps"):Key)=aM (ai "rows") by decide +kernel)]
theorem Zo (p q sg gl ll s2:Addr):qu (scK p q sg gl ll) (.inr "single") (.ref s2)=scK p q s2 gl ll:=by
 unfold qu scK
 rw [if_pos (by simp [tE])]
 simp only [aV,fh]
 rw [if_neg (show ¬ ↥62=aM (ai "single") by decide +kernel),if_neg (show ¬(aM (ai "rows"):Key)=aM (ai "single") by decide +kernel),if_pos trivial,if_neg (show ¬(aM (ai "grounds"):Key)=aM (ai "single") by decide +kernel),if_neg (show ¬(aM (ai "leaps"):Key)=aM (ai "single") by decide +kernel)]
theorem V7 (p q sg gl ll l2:Addr):qu (scK p q sg gl ll) (.inr "leaps") (.ref l2)=scK p q sg gl l2:=by
 unfold qu scK
 rw [if_pos (by simp [tE])]
 simp only [aV,fh]
 rw [if_neg (show ¬ ↥62=aM (ai "leaps") by decide +kernel),if_neg (show ¬(aM (ai "rows"):Key)=aM (ai "leaps") by decide +kernel),if_neg (show ¬(aM (ai "single"):Key)=aM (ai "leaps") by decide +kernel),if_neg (show ¬(aM (ai "grounds"):Key)=aM (ai "leaps") by decide +kernel),if_pos trivial]
noncomputable def Uf:Sp:=λvs H Q _=>∃(sd:Addr) (c:ScN),vs=[.ref sd]/\ScAt H sd c/\c.lds.length<=100 /\
 ∀(s2 q2 g2 l2:Addr) (as:List Addr) (H':Hp),H s2=none->H q2=none->H g2=none->H l2=none->(∀a∈as,H a=none)->as.Nodup->g2∉as->q2≠l2->as.length=c.lds.length->H' s2=some (.dK (scK c.p q2 g2 c.gl l2))->H' q2=some (.lst c.ys)->H' g2=some (.dK (c.sk.map kvA))->H' l2=some (.lst (as.map V.ref))->(∀(i:Nat) a,as[i]? = some a->∃x,c.lds[i]? = some x/\H' a=some (.dK (x.2.map kvI)))->s2∉as->s2≠g2->jn H H'->Q (.ref s2) H'
theorem zT:FnScope ["_law_scene_here","_law_other"] ["_law_scene_here"] (ja qX):=by walk_at "s"
theorem UG (nb:Nb2 mg) (b_dict:mg "dict" = none) (F:Fun K "_law_scene_copy" "_law_scene_copy" qX f fd):FnOk P w K mg base CX0 1 f fd ["_law_scene_here"] Uf:=by
 refine F.ok zT ↥12 ↥0
 ·obtain ⟨sd,c,rfl,_⟩:=h
  rfl
 ·obtain ⟨sd,c,rfl,S,h100,k⟩:=h
  have dg:∀{H':Hp} {a:Addr} (p q sg gl ll:Addr),H' a=some (.dK (scK p q sg gl ll))->qc H' a (.str "rows") (some (.ref q))/\qc H' a (.str "single") (some (.ref sg))/\qc H' a (.str "leaps") (some (.ref ll)):=λp q sg gl ll h=>⟨by rw [<- uk p q sg gl ll];exact qc.k (k:=.inr "rows") h,by rw [<- qP p q sg gl ll];exact qc.k (k:=.inr "single") h,by rw [<- zE p q sg gl ll];exact qc.k (k:=.inr "leaps") h⟩
  refine ⟨_,(j8 (jA 1 zT.nd (jL (zH K rfl) rfl b_dict df ↥29))
   (j8 (xh (jE hr) (pv 1) jc (jL (jN K) rfl nb.b_list bo (j2 ↥16 j5)) rfl)
   (j8 (xh (jE hr) (pv 1) jc (jL (zH K rfl) rfl b_dict df (j2 ↥16 j5)) rfl)
   (j8 (xh (jE hr) (pv 1) jc (jX (osc:=(ja qX)) (ON:=["_law_scene_here","_law_other"]) (N:=["_law_leaps"]) (own:=1) (caps:=[]) ⟨rfl,∅,∅,∅,rfl,∅⟩ rfl rfl rfl (qi K ↥16) (λ_ _ _ _ _=>(jm (i:=0) (show b8 (["_law_leaps"]:List Str) by decide +kernel) rfl (bf rfl))) ↥24 (λ_ _ _ _ _=>(jL (zH K rfl) rfl b_dict df ↥29))) rfl)
   (jb (jk (pv 1))))))),?_⟩
  left
  refine ⟨sd,_,rfl,.inl S.sd,λs2 H1 hs2 hs21 s1=>?_⟩
  left
  refine ⟨sd,_,rfl,(dg _ _ _ _ _ (s1 _ _ S.sd)).1,?_⟩
  left
  refine ⟨c.q,_,rfl,.inl (SqL.of (s1 _ _ S.q)),λq2 H2 hq2 hq22 t2=>?_⟩
  left
  have s12:=s1.trans t2
  refine ⟨s2,_,rfl,vG.k (k:=.inr "rows") (t2 _ _ hs21) (by show 5<sizeLine;decide),?_⟩
  rw [XT]
  have q2s:q2≠s2:=(j4 hs21 hq2).symm
  have h2:(upd H2 s2 (.dK (scK c.p q2 c.sg c.gl c.ll))) s2=some (.dK (scK c.p q2 c.sg c.gl c.ll)):=j7
  have hq2':(upd H2 s2 (.dK (scK c.p q2 c.sg c.gl c.ll))) q2=some (.lst c.ys):=by rw [j9 q2s];exact hq22
  have o2:jn H (upd H2 s2 (.dK (scK c.p q2 c.sg c.gl c.ll))):=λa o h=>by rw [j9 (j4 h hs2)];exact s12 _ _ h
  generalize upd H2 s2 (.dK (scK c.p q2 c.sg c.gl c.ll))=H3 at *
  have hq0:H q2=none:=s1.free hq2
  left
  refine ⟨sd,_,rfl,(dg _ _ _ _ _ (o2 _ _ S.sd)).2.1,?_⟩
  left
  refine ⟨c.sg,_,rfl,(S.same o2).sg,λg2 H4 hg2 hg24 s4=>?_⟩
  left
  refine ⟨s2,_,rfl,vG.k (k:=.inr "single") (s4 _ _ h2) (by show 5<sizeLine;decide),?_⟩
  rw [Zo]
  have g2s:g2≠s2:=(j4 h2 hg2).symm
  have g20:H g2=none:=o2.free hg2
  have h4:(upd H4 s2 (.dK (scK c.p q2 g2 c.gl c.ll))) s2=some (.dK (scK c.p q2 g2 c.gl c.ll)):=j7
  have hq4:(upd H4 s2 (.dK (scK c.p q2 g2 c.gl c.ll))) q2=some (.lst c.ys):=by rw [j9 q2s];exact s4 _ _ hq2'
  have hg4:(upd H4 s2 (.dK (scK c.p q2 g2 c.gl c.ll))) g2=some (.dK (c.sk.map kvA)):=by rw [j9 g2s];exact hg24
  have o4:jn H (upd H4 s2 (.dK (scK c.p q2 g2 c.gl c.ll))):=λa o h=>by rw [j9 (j4 h hs2)];exact s4 _ _ (o2 _ _ h)
  clear hq2' h2 hg24
  generalize upd H4 s2 (.dK (scK c.p q2 g2 c.gl c.ll))=H5 at *
  have S5:=S.same o4
  left
  refine ⟨sd,_,rfl,(dg _ _ _ _ _ S5.sd).2.2,?_⟩
  left
  refine ⟨⟨_,SqL.of S5.ll⟩,λl2 hl2=>?_⟩
  refine jT (K:=K) (a:=c.ll) (xs:=c.lds.map λx=>V.ref x.1) (acc:=l2) (λi σ H6=>∃(x:Option V) (as:List Addr),σ=[x]/\H6 l2=some (.lst (as.map V.ref))/\as.length=i/\as.Nodup/\(∀a∈as,H5 a=none/\a≠l2)/\(∀(j:Nat) a,as[j]? = some a->∃x,c.lds[j]? = some x/\H6 a=some (.dK (x.2.map kvI)))/\Ext l2 H5 H6) ?_ ?_ ?_ ?_
  ·exact ⟨none,[],rfl,j7,rfl,.nil,(λa h=>by cases h),(λj a h=>by cases h),Ext.put⟩
  ·rintro i σ H6 hi ⟨x,as,rfl,h6,hl,nd,hf,hv,e6⟩
   exact SqL.of (e6 _ _ S5.ll (j4 S5.ll hl2))
  ·rintro i v σ H6 hvi ⟨x,as,rfl,h6,hl,nd,hf,hv,e6⟩
   rw [aq] at hvi
   obtain ⟨y,hy,rfl⟩:=Option.map_eq_some_iff.mp hvi
   have hi:=(↥51).1
   have s6:jn H5 H6:=λc o hc=>e6 c o hc (j4 hc hl2)
   left
   refine ⟨y.1,_,rfl,(S5.same s6).ld y (ar hy),λd H7 hd hd7 s7=>?_⟩
   have dl:d≠l2:=(j4 h6 hd).symm
   refine ⟨_,s7 _ _ h6,by rw [af];exact jh (),_,as++[d],rfl,(by rw [j7,aF];rfl),(by rw [ay,hl];rfl),vE nd λz=>?_,λa ha=>?_,λj a ha=>?_,λc o hc n=>by rw [j9 n];exact s7 _ _ (e6 c o hc n)⟩
   ·obtain ⟨j,hj,ej⟩:=List.mem_iff_getElem.mp z
    obtain ⟨_,_,h⟩:=hv j d (by rw [ag hj,ej])
    rw [hd] at h
    cases h
   ·rcases List.mem_append.mp ha with z | z
    ·exact hf a z
    ·rw [List.mem_singleton.mp z]
     exact ⟨s6.free hd,dl⟩
   ·by_cases hj:j<as.length
    ·rw [cj hj] at ha
     obtain ⟨x,h1,h2⟩:=hv j a ha
     have hm:=hf a (ar ha)
     exact ⟨x,h1,by rw [j9 hm.2];exact s7 _ _ h2⟩
    ·rw [c7 ()] at ha
     have hj0:j-as.length=0:=by
      have:=(List.getElem?_eq_some_iff.mp ha).1
      rw [b7] at this
      omega
     rw [hj0] at ha
     cases ha
     refine ⟨y,by rw [show j=i by omega];exact hy,?_⟩
     rw [j9 dl]
     exact hd7
  rintro σ H6 ⟨x,as,rfl,h6,hl,nd,hf,hv,e6⟩
  rw [af] at hl
  have s6:jn H5 H6:=λc o hc=>e6 c o hc (j4 hc hl2)
  left
  refine ⟨s2,_,rfl,vG.k (k:=.inr "leaps") (s6 _ _ h4) (by show 5<sizeLine;decide),?_⟩
  rw [V7]
  have nas:∀{a:Addr} {o:HO},H5 a=some o->a∉as:=λh z=>by have:=(hf _ z).1;rw [h] at this;cases this
  have l2s:l2≠s2:=(j4 h4 hl2).symm
  left
  refine k s2 q2 g2 l2 as _ hs2 hq0 g20 (o4.free hl2) (λa ha=>o4.free (hf a ha).1) nd (nas hg4) (j4 hq4 hl2) hl j7 ?_ ?_ ?_ (λi a ha=>?_) (nas h4) g2s.symm λa o h=>?_
  ·rw [j9 q2s];exact s6 _ _ hq4
  ·rw [j9 g2s];exact s6 _ _ hg4
  ·rw [j9 l2s];exact h6
  ·obtain ⟨x,h1,h2⟩:=hv i a ha
   refine ⟨x,h1,?_⟩
   have as2:a≠s2:=λz=>by subst z;exact nas h4 (ar ha)
   rw [j9 as2]
   exact h2
  ·rw [j9 (j4 h hs2)]
   exact s6 _ _ (o4 _ _ h)
noncomputable def y4 {α:Type}(l:List (Int×α)) (y:Int):List (Int×α):=l.filter λz=>decide (z.1≠y)
theorem vy {α:Type}(f:α->V) (l:List (Int×α)) (y:Int):zk (l.map λz=>↥54) (.inl y)=(y4 l y).map λz=>↥54:=by
 unfold zk y4
 rw [List.filter_map]
 congr 1
 refine List.filter_congr λz _=>?_
 show decide ((dU z.1:Key)≠dU y)=decide (z.1≠y)
 exact decide_eq_decide.mpr ⟨λh e=>h (by rw [e]),λh e=>h (dG e)⟩
theorem uW {α:Type}{l:List (Int×α)}{y:Int}{z:Int×α}(h:z∈y4 l y):z∈l:=(List.mem_filter.mp h).1
theorem wo {α:Type}{l:List (Int×α)}{y:Int}(h:(l.map (·.1)).Nodup):((y4 l y).map (·.1)).Nodup:=h.sublist (List.filter_sublist.map _)
noncomputable def x6 (c:ScN) (q2 g2 l2:Addr) (as:List Addr):ScN:={ c with q:=q2,sg:=g2,ll:=l2,lds:=as.zip ↥79 }
theorem VB {c:ScN}{as:List Addr}(hl:as.length=c.lds.length) {i:Nat}(h: (↥58).lds[i]? = some x):as[i]? = some x.1/\∃y,c.lds[i]? = some y/\y.2=x.2:=by
 have h:(as.zip ↥79)[i]? = some x:=h
 rw [dz,aq] at h
 obtain ⟨y,hy,e⟩:=Option.map_eq_some_iff.mp h.2
 exact ⟨h.1,y,hy,e⟩
theorem wk {c:ScN}{as:List Addr}(hl:as.length=c.lds.length): (↥58).lds.map (·.1)=as:=by
 show (as.zip ↥79).map oP=as
 rw [List.map_fst_zip]
 rw [af]
 omega
theorem Z3 {H':Hp}{as:List Addr}(S:ScAt H sd c) (hl:as.length=c.lds.length) (h1:H' s2=some (.dK (scK c.p q2 g2 c.gl l2))) (h2:H' q2=some (.lst c.ys)) (h3:H' g2=some (.dK (c.sk.map kvA))) (h4:H' l2=some (.lst (as.map V.ref))) (h5:∀(i:Nat) a,as[i]? = some a->∃x,c.lds[i]? = some x/\H' a=some (.dK (x.2.map kvI))) (s:jn H H'):ScAt H' s2 ↥58:=by
 refine ⟨h1,s _ _ S.p,(S.same s).rv,h2,(S.same s).r3,s _ _ S.gl,(S.same s).gi,?_,.inl h3,(S.same s).sk,λx hx=>?_⟩
 ·show H' l2=some (.lst ((↥58).lds.map λx=>V.ref x.1))
  have e:=congrArg (iX V.ref) (wk (q2:=q2) (g2:=g2) (l2:=l2) hl)
  rw [bF] at e
  rw [h4,<- e]
  rfl
 ·obtain ⟨i,hi⟩:=List.mem_iff_getElem?.mp hx
  obtain ⟨ha,y,hy,e⟩:=VB hl hi
  obtain ⟨z,hz,h6⟩:=h5 i _ ha
  rw [hy] at hz
  cases hz
  rw [<- e]
  exact .inl h6
noncomputable def skD (c:ScN):DeedD->List (Int×Addr)
 | .tell y _ t=>qQ c.sk y t
 | .plain y=>y4 c.sk y
 | _=>c.sk
noncomputable def ldD (c:ScN):DeedD->List (List (Int×Int))
 | .surge l y m=>(↥79).set l.toNat (qQ (↥74).2 y m)
 | .calm l y=>(↥79).set l.toNat (y4 (↥74).2 y)
 | _=>c.lds.map (·.2)
noncomputable def tsD (c:ScN):DeedD->List T3
 | .turn ts=>ts
 | _=>c.ts
structure NewS (H:Hp) (c:ScN) (d:DeedD) (c2:ScN):Prop where
 p:c2.p=c.p
 gl:c2.gl=c.gl
 zs:c2.zs=c.zs
 rs:c2.rs=c.rs
 ws:c2.ws=c.ws
 q:H c2.q=none
 sg:H c2.sg=none
 ll:H c2.ll=none
 ld:∀x∈c2.lds,H x.1=none
 ns:∀x∈c2.lds,x.1≠c2.sg
 nd:(c2.lds.map (·.1)).Nodup
 ts:c2.ts=tsD c d
 sk:c2.sk=skD c d
 lds:c2.lds.map (·.2)=ldD c d
theorem ScAt.sgl {sd:Addr}{c:ScN}{kvs:List (Key×V)}{sk':List (Int×Addr)}(S:ScAt H sd c) (h:H c.sg=some (.dK kvs)) (n:sd≠c.sg) (nl:∀x∈c.lds,x.1≠c.sg) (hg:∀z∈sk',∃t,H z.2=some (zM t)/\good t=true):ScAt (upd H c.sg (.dK (sk'.map kvA))) sd { c with sk:=sk' }:=by
 have nU:∀{b:Addr} {u v:HO},H b=some u->b≠c.sg->(upd H c.sg v) b=some u:=λh n=>by rw [j9 n];exact h
 have nd:∀{b:Addr} {u v:HO},H b=some u->(∀k,u≠.dK k)->(upd H c.sg v) b=some u:=λh' d=>nU h' (jg h' h (d _))
 refine ⟨nU S.sd n,nd S.p ↥1,S.rv.keep λa xs h'=>nd h' ↥1,nd S.q ↥1,jH.imp S.r3 λ_ _ h'=>nd h' ↥1,nd S.gl ↥1,Paired.mapP S.gi λ_ _ ⟨a,e,q⟩=>⟨a,e,nd q ↥1⟩,nd S.ll ↥1,.inl j7,λz hz=>?_,λx hx=>?_⟩
 ·obtain ⟨t,h1,h2⟩:=hg z hz
  exact ⟨t,nd h1 ↥1,h2⟩
 ·rcases S.ld x hx with h' | ⟨o,h'⟩
  ·exact .inl (nU h' (nl x hx))
  ·exact .inr ⟨o,nU h' (nl x hx)⟩
theorem ScAt.ldl {sd:Addr}{c:ScN}{i:Nat}{x:Addr×List (Int×Int)}{kvs:List (Key×V)}{ns:List (Int×Int)}(S:ScAt H sd c) (hx:c.lds[i]? = some x) (h:H x.1=some (.dK kvs)) (n:sd≠x.1) (nl:c.sg≠x.1) (nd':(c.lds.map (·.1)).Nodup):ScAt (upd H x.1 (.dK (ns.map kvI))) sd { c with lds:=c.lds.set i (x.1,ns) }:=by
 have nU:∀{b:Addr} {u v:HO},H b=some u->b≠x.1->(upd H x.1 v) b=some u:=λh n=>by rw [j9 n];exact h
 have nd:∀{b:Addr} {u v:HO},H b=some u->(∀k,u≠.dK k)->(upd H x.1 v) b=some u:=λh' d=>nU h' (jg h' h (d _))
 have hi:=(List.getElem?_eq_some_iff.mp hx).1
 refine ⟨nU S.sd n,nd S.p ↥1,S.rv.keep λa xs h'=>nd h' ↥1,nd S.q ↥1,jH.imp S.r3 λ_ _ h'=>nd h' ↥1,nd S.gl ↥1,Paired.mapP S.gi λ_ _ ⟨a,e,q⟩=>⟨a,e,nd q ↥1⟩,?_,?_,λz hz=>?_,λy hy=>?_⟩
 ·have e:(c.lds.set i (x.1,ns)).map (λx=>V.ref x.1)=c.lds.map λx=>V.ref x.1:=by
   rw [cY]
   refine dI λj=>?_
   rw [cQ]
   split
   ·next ej =>
    subst ej
    split
    ·rw [aq,hx]
     rfl
    ·next h'=>rw [af] at h';exact absurd hi h'
   ·rfl
  show (upd H x.1 _) c.ll=some (.lst ((c.lds.set i (x.1,ns)).map λx=>V.ref x.1))
  rw [e]
  exact nd S.ll ↥1
 ·rcases S.sg with h' | ⟨o,h'⟩
  ·exact .inl (nU h' nl)
  ·exact .inr ⟨o,nU h' nl⟩
 ·obtain ⟨t,h1,h2⟩:=S.sk z hz
  exact ⟨t,nd h1 ↥1,h2⟩
 ·obtain ⟨j,hj⟩:=List.mem_iff_getElem?.mp hy
  rw [cQ] at hj
  split at hj
  ·cases hj
   exact .inl j7
  ·next ej =>
   have hjl:=(List.getElem?_eq_some_iff.mp hj).1
   have ne:y.1≠x.1:=λe=>by
    have h1:(c.lds.map (·.1))[j]? = some y.1:=by rw [aq,hj];rfl
    have h2:(c.lds.map (·.1))[i]? = some x.1:=by rw [aq,hx];rfl
    rw [e,<- h2] at h1
    exact ej ((px (by rw [af];exact hjl) nd').mp h1).symm
   rcases S.ld y (ar hj) with h' | ⟨o,h'⟩
   ·exact .inl (nU h' ne)
   ·exact .inr ⟨o,nU h' ne⟩
theorem QF {l:List (Addr×List (Int×Int))}{i:Nat}{ns:List (Int×Int)}(h:l[i]? = some x):(l.set i (x.1,ns)).map (·.1)=l.map (·.1):=by
 rw [cY]
 refine dI λj=>?_
 rw [cQ]
 split
 ·next ej =>
  subst ej
  split
  ·rw [aq,h]
   rfl
  ·next h'=>rw [af] at h';exact absurd (List.getElem?_eq_some_iff.mp h).1 h'
 ·rfl
theorem ScAt.rwl {sd:Addr}{c:ScN}{ys:List V}{ts:List T3}(S:ScAt H sd c) (hq:H q3=some (.lst ys)) (r:jH H ys ts) (ns:c.sg≠sd) (nl:∀x∈c.lds,x.1≠sd):ScAt (upd H sd (.dK (scK c.p q3 c.sg c.gl c.ll))) sd { c with q:=q3,ys:=ys,ts:=ts }:=by
 have nU:∀{b:Addr} {u v:HO},H b=some u->b≠sd->(upd H sd v) b=some u:=λh n=>by rw [j9 n];exact h
 have nd:∀{b:Addr} {u v:HO},H b=some u->(∀k,u≠.dK k)->(upd H sd v) b=some u:=λh' d=>nU h' (jg h' S.sd (d _))
 refine ⟨j7,nd S.p ↥1,S.rv.keep λa xs h'=>nd h' ↥1,nd hq ↥1,jH.imp r λ_ _ h'=>nd h' ↥1,nd S.gl ↥1,Paired.mapP S.gi λ_ _ ⟨a,e,q⟩=>⟨a,e,nd q ↥1⟩,nd S.ll ↥1,?_,λz hz=>?_,λy hy=>?_⟩
 ·rcases S.sg with h' | ⟨o,h'⟩
  ·exact .inl (nU h' ns)
  ·exact .inr ⟨o,nU h' ns⟩
 ·obtain ⟨t,h1,h2⟩:=S.sk z hz
  exact ⟨t,nd h1 ↥1,h2⟩
 ·rcases S.ld y hy with h' | ⟨o,h'⟩
  ·exact .inl (nU h' (nl y hy))
  ·exact .inr ⟨o,nU h' (nl y hy)⟩
noncomputable def VJ:Sp:=λvs H Q _=>∃(sd a:Addr) (c:ScN) (d:DeedD),vs=[.ref sd,.ref a]/\ScAt H sd c/\c.lds.length=c.ws.length/\c.lds.length<=100/\c.sk.length<=900/\(∀x∈c.lds,x.2.length<=900)/\xP H a d/\vF c d=none /\
 ∀(s2:Addr) (c2:ScN) (H':Hp),NewS H c d c2->ScAt H' s2 c2->H s2=none->jn H H'->Q (.ref s2) H'
theorem yP:FnScope ["_law_scene_here","_law_deed"] ["_law_scene_here","_law_deed"] (ja zI):=by walk_at "s"
theorem Xd (nb:Nb2 mg) (c_law_scene_copy:Cal P w K mg base 1 "_law_scene_copy" ["_law_scene_here"] Uf)
  (F:Fun K "_law_ice_step" "_law_ice_step" zI f fd):FnOk P w K mg base CX0 2 f fd ["_law_scene_here","_law_deed"] VJ:=by
 refine F.ok yP ↥12 ↥0
 ·obtain ⟨sd,a,c,d,rfl,_⟩:=h
  rfl
 ·obtain ⟨sd,a,c,d,rfl,S,hld,l100,sk9,ld9,D,due,k⟩:=h
  refine ⟨_,(j8 (jA 0 yP.nd (je c_law_scene_copy (hr.mono ⋯) rfl ↥29))
   (j8 (jF (jr qC ↥8 jc (jB _)) (jb (xh (jE hr) (pv 0) jc (jL (jN K) rfl nb.b_list bo (j2 ↥8 j5)) rfl)) (jb (jF (jr qC ↥8 jc (jB _)) (jb (xh (jE hr) ↥16 ↥8 ↥8 rfl)) (jb (jF (jr qC ↥8 jc (jB _)) (jb (jU (QB ↥16 ↥8 ⟨rfl,rfl,rfl,rfl⟩))) (jb (jF (jr qC ↥8 jc (jB _)) (jb (xh (jE hr) (jj (jf K) ↥16 ↥8 (λ_ _=>rfl)) ↥8 ↥8 rfl)) (jb (jU (QB (jj (jf K) ↥16 ↥8 (λ_ _=>rfl)) ↥8 ⟨rfl,rfl,rfl,rfl⟩))))))))))
   (jb (jk (pv 0))))),?_⟩
  left
  refine ⟨sd,c,rfl,S,l100,λs2 q2 g2 l2 as H1 ns2 nq2 ng2 nl2 nas ndas ga ql hal hs2 hq2 hg2 hl2 has sas sg2 s1=>?_⟩
  have S1:=Z3 S hal hs2 hq2 hg2 hl2 has s1
  have S0:=S.same s1
  have hcl:=wk (c:=c) (q2:=q2) (g2:=g2) (l2:=l2) hal
  have lns:∀x∈ (↥58).lds,x.1∈as:=λx hx=>by rw [<- hcl];exact List.mem_map.mpr ⟨x,hx,rfl⟩
  have nlg:∀x∈ (↥58).lds,x.1≠ (↥58).sg:=λx hx e=>ga (by rw [<- show x.1=g2 from e];exact lns x hx)
  have nls:∀x∈ (↥58).lds,x.1≠s2:=λx hx e=>sas (e ▸ lns x hx)
  have hlf:∀x∈ (↥58).lds,H x.1=none:=λx hx=>nas _ (lns x hx)
  have hndl:((↥58).lds.map (·.1)).Nodup:=by rw [hcl];exact ndas
  have hl2': (↥58).lds.map (·.2)=c.lds.map (·.2):=by
   show (as.zip ↥79).map oQ=_
   rw [lQ]
   rw [af]
   omega
  have hsg1:qc H1 s2 (.str "single") (some (.ref g2)):=by rw [<- qP c.p q2 g2 c.gl l2];exact qc.k (k:=.inr "single") hs2
  have hlp1:qc H1 s2 (.str "leaps") (some (.ref l2)):=by rw [<- zE c.p q2 g2 c.gl l2];exact qc.k (k:=.inr "leaps") hs2
  cases d with
  | turn ts =>
   obtain ⟨q,xs,ha,hq,r,tl1,tl2⟩:=D
   have ha1:=s1 _ _ ha
   left
   refine ⟨q,xs,rfl,.inl (SqL.of (s1 _ _ hq)),λq3 H2 nq3 hq3 s2'=>?_⟩
   left
   have hs22:=s2' _ _ hs2
   refine ⟨s2,_,rfl,vG.k (k:=.inr "rows") hs22 (by show 5<sizeLine;decide),?_⟩
   rw [XT]
   have S2:=S1.same s2'
   have S3:=S2.rwl hq3 (jH.imp r λ_ _ h=>s2' _ _ (s1 _ _ h)) sg2.symm nls
   left
   exact k s2 { x6 c q2 g2 l2 as with q:=q3,ys:=xs,ts:=ts } _ ⟨rfl,rfl,rfl,rfl,rfl,s1.free nq3,ng2,nl2,hlf,nlg,hndl,rfl,rfl,hl2'⟩ S3 ns2 (λb u h=>by rw [j9 (j4 h ns2)];exact s2' _ _ (s1 _ _ h))
  | tell y r t =>
   obtain ⟨ha,ht⟩:=D
   have ha1:=s1 _ _ ha
   left
   refine ⟨s2,.ref g2,rfl,hsg1,?_⟩
   left
   refine ⟨g2,_,rfl,vG.k (k:=.inl y) hg2 (by rw [af];exact jh ()),?_⟩
   have ep:qu (c.sk.map kvA) (.inl y) (.ref t)=(qQ c.sk y t).map kvA:=zA V.ref c.sk y t
   rw [ep]
   have hgr:good r=true:=by
    cases eg:good r with
    | true=>rfl
    | false =>
     have due:(if 0<=y/\y<=99 then (if good r=true then none else some _) else some _)=(none:Option Str):=due
     rw [eg] at due
     split at due <;> cases due
   have S2:=S1.sgl (sk':=qQ c.sk y t) hg2 sg2 nlg (λz hz=>by
    rcases yh hz with h | rfl
    ·exact S0.sk z h
    ·exact ⟨r,s1 _ _ ht,hgr⟩)
   left
   exact k s2 { x6 c q2 g2 l2 as with sk:=qQ c.sk y t } _ ⟨rfl,rfl,rfl,rfl,rfl,nq2,ng2,nl2,hlf,nlg,hndl,rfl,rfl,hl2'⟩ S2 ns2 (λb u h=>by rw [j9 (j4 h ng2)];exact s1 _ _ h)
  | plain y =>
   have ha1:H1 a=some (.tup [.str "plain",.int y]):=s1 _ _ D
   left
   refine ⟨s2,.ref g2,rfl,hsg1,?_⟩
   left
   refine ⟨.inl ⟨_,.inl hg2⟩,?_⟩
   left
   have hm:y∈c.sk.map (·.1):=by
    by_cases hm:y∈c.sk.map (·.1)
    ·exact hm
    ·have due:(if 0<=y/\y<=99 then (if y∈c.sk.map (·.1) then none else some _) else some _)=(none:Option Str):=due
     rw [if_neg hm] at due
     split at due <;> cases due
   obtain ⟨v,hv⟩:=Option.isSome_iff_exists.mp ((wS c.sk y).trans (decide_eq_true hm))
   refine ⟨_,.inl y,v,hg2,rfl,hv,?_⟩
   rw [show zk (c.sk.map kvA) (.inl y)=(y4 c.sk y).map kvA from vy V.ref c.sk y]
   have S2:=S1.sgl (sk':=y4 c.sk y) hg2 sg2 nlg (λz hz=>S0.sk z (uW hz))
   left
   exact k s2 { x6 c q2 g2 l2 as with sk:=y4 c.sk y } _ ⟨rfl,rfl,rfl,rfl,rfl,nq2,ng2,nl2,hlf,nlg,hndl,rfl,rfl,hl2'⟩ S2 ns2 (λb u h=>by rw [j9 (j4 h ng2)];exact s1 _ _ h)
  | surge l y m =>
   have ha1:H1 a=some (.tup [.str "surge",.int l,.int y,.int m]):=s1 _ _ D
   left
   refine ⟨s2,.ref l2,rfl,hlp1,?_⟩
   left
   have due':=due
   have hl:0<=l/\l< ↥59:=by
    by_cases hl:0<=l/\l< ↥59
    ·exact hl
    ·have due:(if 0<=l/\l< ↥59 then _ else some _)=(none:Option Str):=due
     rw [if_neg hl] at due
     cases due
   have hi:l.toNat<c.lds.length:=()
   obtain ⟨xa,hxa⟩:∃xa,as[l.toNat]? = some xa:=⟨_,ag ()⟩
   obtain ⟨x,hx,hxH⟩:=has _ _ hxa
   have hgx:c.lds.getD l.toNat (0,[])=x:=by rw [ao,hx];rfl
   have hx9:=ld9 _ (ar hx)
   have hcx: (↥58).lds[l.toNat]? = some (xa,x.2):=by
    show (as.zip ↥79)[l.toNat]? = _
    rw [dz,aq,hx]
    exact ⟨hxa,rfl⟩
   have hxm:=ar hcx
   refine ⟨_,_,_,_,rfl,rfl,SqL.of hl2,qV (v:=V.ref xa) hl.1 (by rw [aq,hxa];rfl),?_⟩
   left
   refine ⟨xa,_,rfl,vG.k (k:=.inl y) hxH (by rw [af];exact jh ()),?_⟩
   rw [show qu (x.2.map kvI) (.inl y) (.int m)=(qQ x.2 y m).map kvI from zA V.int x.2 y m]
   have S2:=S1.ldl (ns:=qQ x.2 y m) hcx hxH (nls _ hxm).symm (nlg _ hxm).symm hndl
   left
   refine k s2 { x6 c q2 g2 l2 as with lds:=(↥58).lds.set l.toNat (xa,qQ x.2 y m) } _ ⟨rfl,rfl,rfl,rfl,rfl,nq2,ng2,nl2,λz hz=>?_,λz hz=>?_,?_,rfl,rfl,?_⟩ S2 ns2 (λb u h=>by rw [j9 (j4 h (hlf _ hxm))];exact s1 _ _ h)
   ·rcases cn hz with h | rfl
    ·exact hlf _ h
    ·exact hlf (xa,x.2) hxm
   ·rcases cn hz with h | rfl
    ·exact nlg _ h
    ·exact nlg (xa,x.2) hxm
   ·rw [QF hcx]
    exact hndl
   ·show ((↥58).lds.set l.toNat _).map (·.2)=(↥79).set l.toNat _
    rw [cY,hl2',hgx]
  | calm l y =>
   have ha1:H1 a=some (.tup [.str "calm",.int l,.int y]):=s1 _ _ D
   left
   refine ⟨s2,.ref l2,rfl,hlp1,?_⟩
   left
   have due':=due
   have hl:0<=l/\l< ↥59:=by
    by_cases hl:0<=l/\l< ↥59
    ·exact hl
    ·have due:(if 0<=l/\l< ↥59 then _ else some _)=(none:Option Str):=due
     rw [if_neg hl] at due
     cases due
   have hi:l.toNat<c.lds.length:=()
   obtain ⟨xa,hxa⟩:∃xa,as[l.toNat]? = some xa:=⟨_,ag ()⟩
   obtain ⟨x,hx,hxH⟩:=has _ _ hxa
   have hgx:c.lds.getD l.toNat (0,[])=x:=by rw [ao,hx];rfl
   have hx9:=ld9 _ (ar hx)
   have hcx: (↥58).lds[l.toNat]? = some (xa,x.2):=by
    show (as.zip ↥79)[l.toNat]? = _
    rw [dz,aq,hx]
    exact ⟨hxa,rfl⟩
   have hxm:=ar hcx
   refine ⟨_,_,_,_,rfl,rfl,SqL.of hl2,qV (v:=V.ref xa) hl.1 (by rw [aq,hxa];rfl),?_⟩
   left
   refine ⟨.inl ⟨_,.inl hxH⟩,?_⟩
   left
   have hm:y∈x.2.map (·.1):=by
    by_cases hm:y∈x.2.map (·.1)
    ·exact hm
    ·have due:(if 0<=l/\l< ↥59 then (if 0<=y/\y<=99 then (if y∈ (↥74).2.map (·.1) then none else some _) else some _) else some _)=(none:Option Str):=due
     rw [hgx,if_pos hl,if_neg hm] at due
     split at due <;> cases due
   obtain ⟨v,hv⟩:=Option.isSome_iff_exists.mp ((gj x.2 y).trans (decide_eq_true hm))
   refine ⟨_,.inl y,v,hxH,rfl,hv,?_⟩
   rw [show zk (x.2.map kvI) (.inl y)=(y4 x.2 y).map kvI from vy V.int x.2 y]
   have S2:=S1.ldl (ns:=y4 x.2 y) hcx hxH (nls _ hxm).symm (nlg _ hxm).symm hndl
   left
   refine k s2 { x6 c q2 g2 l2 as with lds:=(↥58).lds.set l.toNat (xa,y4 x.2 y) } _ ⟨rfl,rfl,rfl,rfl,rfl,nq2,ng2,nl2,λz hz=>?_,λz hz=>?_,?_,rfl,rfl,?_⟩ S2 ns2 (λb u h=>by rw [j9 (j4 h (hlf _ hxm))];exact s1 _ _ h)
   ·rcases cn hz with h | rfl
    ·exact hlf _ h
    ·exact hlf (xa,x.2) hxm
   ·rcases cn hz with h | rfl
    ·exact nlg _ h
    ·exact nlg (xa,x.2) hxm
   ·rw [QF hcx]
    exact hndl
   ·show ((↥58).lds.set l.toNat _).map (·.2)=(↥79).set l.toNat _
    rw [cY,hl2',hgx]
structure Pr (C L b sd p:Addr) (c:ScN) (g:IceG) (H:Hp):Prop where
 B:jG L H b
 S:ScAt H sd c
 I:IceAt C H p g
 O:ScOk b c
 k:Lk c g
 va:g.va≠b
 cy:g.cy≠b
 sl:g.sl≠b
 le:g.le≠b
 zs:V.ref b∉g.zs
 ad:∀a,(a=g.ye\/∃x∈g.lds,x.1=a)->a≠sd/\¬c.D a
theorem Pr.same {b sd p:Addr}{c:ScN}{g:IceG}(P:Pr C L b sd p c g H) (s:jn H H'):Pr C L b sd p c g H':=⟨P.B.same s,P.S.same s,P.I.same s,P.O,P.k,P.va,P.cy,P.sl,P.le,P.zs,P.ad⟩
theorem Pr.box {b sd p:Addr}{c:ScN}{g:IceG}(P:Pr C L b sd p c g H) (B:jG L H' b) (X:Ext b H H'):Pr C L b sd p c g H':=by
 have kt:=xL P.B X
 obtain ⟨ns,a0,r0,c0,d0,hb,_⟩:=P.B
 have nl:∀{a:Addr} {u:HO},H a=some u->(∀xs,u≠.lst xs)->H' a=some u:=λh d=>X _ _ h (jg h hb (d _))
 refine ⟨B,P.S.ext P.O ⟨ns,a0,r0,c0,d0,hb,‹_›⟩ X,⟨nl P.I.ob ↥1,X _ _ P.I.va P.va,P.I.rs.keep kt,X _ _ P.I.cy P.cy,jH.imp P.I.rows λ_ _ h=>kt _ _ h,X _ _ P.I.sl P.sl,?_,nl P.I.ye ↥1,X _ _ P.I.le P.le,λx hx=>nl (P.I.lds x hx) ↥1⟩,P.O,P.k,P.va,P.cy,P.sl,P.le,P.zs,P.ad⟩
 exact pmM P.I.slopes λv hv w ⟨a,e,h⟩=>⟨a,e,X _ _ h λz=>P.zs (by rw [<- z,<- e];exact hv)⟩
theorem Pr.due {c:ScN}{g:IceG}(k:Lk c g) (hld:c.lds.length=c.ws.length) (d:DeedD) (hd:∀ts,d = .turn ts->gr ts=ts.all good):QW g d=vF c d:=by
 have hsl:g.slopes.length=c.ws.length:=by rw [k.sl,af]
 cases d with
 | turn ts =>
  simp only [QW,vF]
  rw [hd ts rfl]
 | tell y r t=>rfl
 | plain y =>
  simp only [QW,vF]
  rw [k.kv,wS]
  by_cases hm:y∈c.sk.map (·.1)
  ·rw [decide_eq_true hm,if_pos rfl,if_pos hm]
  ·rw [decide_eq_false hm,if_neg au,if_neg hm]
 | surge l y m =>
  simp only [QW,vF]
  rw [hsl]
 | calm l y =>
  simp only [QW,vF]
  rw [hsl]
  by_cases hl:0<=l/\l< ↥59
  ·rw [if_pos hl,if_pos hl]
   have hi:l.toNat<g.lds.length:=by rw [k.ll];omega
   obtain ⟨y',hy',e⟩:=k.ld l.toNat _ (ag hi)
   have e1:(g.lds.getD l.toNat (0,[])).2=y'.2.map kvI:=by rw [ao,ag hi];exact e
   have e2:c.lds.getD l.toNat (0,[])=y':=by rw [ao,hy'];rfl
   rw [e1,e2,gj]
   by_cases hm:y∈y'.2.map (·.1)
   ·rw [decide_eq_true hm,if_pos rfl,if_pos hm]
   ·rw [decide_eq_false hm,if_neg au,if_neg hm]
  ·rw [if_neg hl,if_neg hl]
theorem Pr.done {b sd p:Addr}{c:ScN}{g:IceG}(P:Pr C L b sd p c g H) (f:FrI p g H H1):jG L H1 b/\ScAt H1 sd c:=by
 have at_:∀{a:Addr} {u:HO},H a=some u->(∀x y z,u≠.ins x y z)->(∀k,u≠.dK k)->H1 a=some u:=λh d1 d2=>f _ _ h (jg h P.I.ob (d1 _ _ _)) (jg h P.I.ye (d2 _)) λx hx=>jg h (P.I.lds x hx) (d2 _)
 have dk:∀{a:Addr} {k:List (Key×V)},H a=some (.dK k)->(a=sd\/c.D a)->H1 a=some (.dK k):=λ{a k} h n=>by
  have na:∀{e:Addr},(e=g.ye\/∃x∈g.lds,x.1=e)->a≠e:=λ{e} he z=>by
   have:=P.ad e he
   rcases n with n | n
   ·exact this.1 (z.symm.trans n)
   ·exact this.2 (z ▸ n)
  exact f _ _ h (jg h P.I.ob ↥4) (na (.inl rfl)) λx hx=>na (.inr ⟨x,hx,rfl⟩)
 have kt:jw H H1:=λa xs h=>at_ h ↥9 ↥1
 have rd:∀{a:Addr} {k:List (Key×V)},Rd H a (.dK k)->c.D a->Rd H1 a (.dK k):=λh n=>by
  rcases h with h | ⟨o,h⟩
  ·exact .inl (dk h (.inr n))
  ·exact .inr ⟨o,at_ h ↥9 ↥1⟩
 refine ⟨?_,dk P.S.sd (.inl rfl),at_ P.S.p ↥9 ↥1,P.S.rv.keep kt,at_ P.S.q ↥9 ↥1,jH.imp P.S.r3 λ_ _ h=>kt _ _ h,at_ P.S.gl ↥9 ↥1,Paired.mapP P.S.gi λ_ _ ⟨a,e,q⟩=>⟨a,e,at_ q ↥9 ↥1⟩,at_ P.S.ll ↥9 ↥1,rd P.S.sg (.inl rfl),λz hz=>?_,λx hx=>rd (P.S.ld x hx) (.inr ⟨x,hx,rfl⟩)⟩
 ·obtain ⟨ns,a,r,c',d,h1,h2,h3,h4⟩:=P.B
  exact ⟨ns,a,r,c',d,at_ h1 ↥9 ↥1,h2,at_ h3 ↥9 ↥1,h4⟩
 ·obtain ⟨t,h1,h2⟩:=P.S.sk z hz
  exact ⟨t,kt _ _ h1,h2⟩
theorem U4 {y:Int}(h:vF c (.tell y r t)=none):0<=y/\y<=99:=by
 by_cases z:0<=y/\y<=99
 ·exact z
 ·have h:(if 0<=y/\y<=99 then _ else some _)=(none:Option Str):=h
  rw [if_neg z] at h
  cases h
theorem V3 {l y m:Int}(h:vF c (.surge l y m)=none):(0<=l/\l< ↥59)/\(0<=y/\y<=99)/\1<=m/\m<=9:=by
 have h:(if 0<=l/\l< ↥59 then (if 0<=y/\y<=99 then (if 1<=m/\m<=9 then none else some _) else some _) else some _)=(none:Option Str):=h
 by_cases z1:0<=l/\l< ↥59
 ·rw [if_pos z1] at h
  by_cases z2:0<=y/\y<=99
  ·rw [if_pos z2] at h
   by_cases z3:1<=m/\m<=9
   ·exact ⟨z1,z2,z3⟩
   ·rw [if_neg z3] at h
    cases h
  ·rw [if_neg z2] at h
   cases h
 ·rw [if_neg z1] at h
  cases h
theorem Q7 {F G:List (Int×Int)->Prop}{c:ScN}{d:DeedD}(h:∀x∈c.lds,F x.2) (fg:∀v,F v->G v) (hs:∀l y m,d = .surge l y m->∀v,F v->G (qQ v y m)) (hc:∀l y,d = .calm l y->∀v,F v->G (y4 v y)) (h0:F []):∀v∈ldD c d,G v:=by
 have old:∀v∈c.lds.map (·.2),G v:=λv hv=>by
  obtain ⟨x,hx,rfl⟩:=List.mem_map.mp hv
  exact fg _ (h x hx)
 have get:∀i,F (c.lds.getD i (0,[])).2:=λi=>by
  rw [ao]
  cases e:c.lds[i]? with
  | none=>exact h0
  | some x=>exact h x (ar e)
 cases d with
 | turn ts=>exact old
 | tell y r t=>exact old
 | plain y=>exact old
 | surge l y m =>
  intro v hv
  rcases cn hv with z | rfl
  ·exact old v z
  ·exact hs l y m rfl _ (get _)
 | calm l y =>
  intro v hv
  rcases cn hv with z | rfl
  ·exact old v z
  ·exact hc l y rfl _ (get _)
theorem ZK {F:List (Int×Int)->Prop}{c:ScN}{d:DeedD}(h:∀x∈c.lds,F x.2) (hs:∀l y m,d = .surge l y m->∀v,F v->F (qQ v y m)) (hc:∀l y,d = .calm l y->∀v,F v->F (y4 v y)) (h0:F []):∀v∈ldD c d,F v:=Q7 h (λ_ h=>h) hs hc h0
theorem Ut (c:ScN) (d:DeedD):(ldD c d).length=c.lds.length:=by
 cases d <;> simp [ldD]
theorem YN {c:ScN}(O:ScOk b c) (N:NewS H c d c2) (B:jG L H b) (due:vF c d=none) (hd:∀ts,d = .turn ts->gr ts=true) (hk:c.sk.length+1<=40) (hm:∀x∈c.lds,x.2.length+1<=40):ScOk b c2:=by
 have all2:∀{F:List (Int×Int)->Prop},(∀v∈ldD c d,F v)->∀x∈c2.lds,F x.2:=λh x hx=>h _ (by rw [<- N.lds];exact List.mem_map.mpr ⟨x,hx,rfl⟩)
 have hts:1<=c2.ts.length/\c2.ts.length<=12/\c2.ts.all good=true:=by
  rw [N.ts]
  cases d with
  | turn ts =>
   have:=hd ts rfl
   unfold gr at this
   obtain ⟨h1,h2⟩:=Bool.and_eq_true_iff.mp this
   have h1:=of_decide_eq_true h1
   exact ⟨by show 1<=ts.length;omega,by show ts.length<=12;omega,h2⟩
  | tell y r t=>exact ⟨O.t1,O.t2,O.tg⟩
  | plain y=>exact ⟨O.t1,O.t2,O.tg⟩
  | surge l y m=>exact ⟨O.t1,O.t2,O.tg⟩
  | calm l y=>exact ⟨O.t1,O.t2,O.tg⟩
 have hsk:(c2.sk.map (·.1)).Nodup/\(∀z∈c2.sk,0<=z.1/\z.1<=99)/\c2.sk.length<=40:=by
  rw [N.sk]
  cases d with
  | tell y r t =>
   refine ⟨yp O.k1,λz hz=>?_,aE (zg _ _ _) hk⟩
   rcases yh hz with h | rfl
   ·exact O.k2 z h
   ·exact U4 due
  | plain y=>exact ⟨wo O.k1,λz hz=>O.k2 z (uW hz),aE (bI _ _) O.k3⟩
  | turn ts=>exact ⟨O.k1,O.k2,O.k3⟩
  | surge l y m=>exact ⟨O.k1,O.k2,O.k3⟩
  | calm l y=>exact ⟨O.k1,O.k2,O.k3⟩
 refine ⟨by rw [N.rs];exact O.gr,by rw [N.rs];exact O.l1,by rw [N.rs];exact O.l8,hts.1,hts.2.1,hts.2.2,by rw [N.rs,N.ws];exact O.ro,?_,N.nd,N.ns,by rw [N.p];exact O.pb,B.ne N.q,by rw [N.gl];exact O.gb,B.ne N.ll,by rw [N.zs];exact O.zb,hsk.1,hsk.2.1,hsk.2.2,?_,?_,?_⟩
 ·have:=congrArg iq N.lds
  rw [af,Ut] at this
  rw [this,N.ws]
  exact O.ldl
 ·exact all2 (F:=λv=>(v.map (·.1)).Nodup) (ZK O.m1 (λ_ _ _ _ v h=>yp h) (λ_ _ _ v h=>wo h) .nil)
 ·refine all2 (F:=λv=>∀z∈v,0<=z.1/\z.1<=99/\1<=z.2/\z.2<=9) (ZK O.m2 (λl y m e v h z hz=>?_) (λ_ _ _ v h z hz=>h z (uW hz)) (λz hz=>nomatch hz))
  subst e
  obtain ⟨_,h2,h3⟩:=V3 due
  rcases yh hz with q | rfl
  ·exact h z q
  ·exact ⟨h2.1,h2.2,h3.1,h3.2⟩
 ·exact all2 (F:=λv=>v.length<=40) (Q7 (F:=λv=>v.length+1<=40) hm (λv h=>pz h) (λ_ _ _ _ v h=>aE (zg _ _ _) h) (λ_ _ _ v h=>aE (bI _ _) (pz h)) ⋯)
theorem Gz (k:Lk c g):g.lds.map (·.2)=(↥79).map (iX kvI):=by
 refine dI λi=>?_
 rw [aq,aq,aq]
 cases e:g.lds[i]? with
 | none =>
  rw [List.getElem?_eq_none_iff] at e
  rw [List.getElem?_eq_none_iff.mpr (by rw [<- k.ll];exact e)]
  rfl
 | some x =>
  obtain ⟨y,hy,h⟩:=k.ld i x e
  rw [hy]
  show some x.2=some (y.2.map kvI)
  rw [h]
theorem Gq {c:ScN}{g:IceG}(e:g.lds.map (·.2)=(↥79).map (iX kvI)):g.lds.length=c.lds.length/\∀(l:Nat) x,g.lds[l]? = some x->∃y,c.lds[l]? = some y/\x.2=y.2.map kvI:=by
 refine ⟨?_,λl x hx=>?_⟩
 ·have:=congrArg iq e
  rw [af,af,af] at this
  exact this
 ·have h:=congrArg (λs=>s[l]?) e
  rw [aq,aq,aq,hx] at h
  cases hy:c.lds[l]? with
  | none=>rw [hy] at h;cases h
  | some y =>
   rw [hy] at h
   exact ⟨y,rfl,aI h⟩
theorem Ji (l:List ↥44) (n:Nat) (kvs:List (Key×V)):(x8 l n kvs).map (·.1)=l.map (·.1):=by
 unfold x8
 rw [cY]
 refine dI λj=>?_
 rw [cQ]
 split
 ·next ej =>
  subst ej
  split
  ·next h =>
   rw [af] at h
   rw [aq,ao,ag h]
   rfl
  ·next h =>
   rw [List.getElem?_eq_none_iff.mpr ()]
 ·rfl
theorem UI (k:Lk c g) (N:NewS H1 c d c2) (G:XN H g d g'):Lk c2 g':=by
 have hl:=Gz k
 have gets:∀{n:Nat} {a:Addr} {kvs:List (Key×V)},g.lds[n]? = some (a,kvs)->kvs=(c.lds.getD n (0,[])).2.map kvI:=λ{n a kvs} h=>by
  obtain ⟨y,hy,e⟩:=k.ld n _ h
  rw [ao,hy]
  exact e
 have fin:∀{g'':IceG},g''.rs=g.rs->g''.slopes=g.slopes->g''.ye=g.ye->g''.rows=tsD c d->g''.kvs=(skD c d).map kvA->g''.lds.map (·.1)=g.lds.map (·.1)->g''.lds.map (·.2)=(ldD c d).map (iX kvI)->Lk c2 g'':=λ{g''} e1 e2 e3 e4 e5 e6 e7=>by
  rw [<- N.lds] at e7
  obtain ⟨h1,h2⟩:=Gq e7
  refine ⟨by rw [e1,N.rs];exact k.rs,by rw [e4,N.ts],by rw [e2,N.ws,N.rs];exact k.sl,by rw [e5,N.sk],h1,h2,λx hx=>?_,by rw [e6];exact k.nd⟩
  rw [e3]
  have:x.1∈g.lds.map (·.1):=by rw [<- e6];exact List.mem_map.mpr ⟨x,hx,rfl⟩
  obtain ⟨z,hz,e⟩:=List.mem_map.mp this
  rw [<- e]
  exact k.ny z hz
 cases d with
 | turn ts =>
  obtain ⟨cy,xs,_,rfl⟩:=G
  exact fin rfl rfl rfl rfl k.kv rfl hl
 | tell y r t =>
  cases G
  exact fin rfl rfl rfl k.rows (by show qu g.kvs _ _=_;rw [k.kv];exact zA V.ref c.sk y t) rfl hl
 | plain y =>
  cases G
  exact fin rfl rfl rfl k.rows (by show zk g.kvs _=_;rw [k.kv];exact vy V.ref c.sk y) rfl hl
 | surge l y m =>
  obtain ⟨a,kvs,ha,rfl⟩:=G
  refine fin rfl rfl rfl k.rows k.kv (Ji _ _ _) ?_
  show (x8 g.lds l.toNat _).map (·.2)=((↥79).set l.toNat _).map (iX kvI)
  unfold x8
  rw [cY,cY,hl,gets ha]
  congr 1
  exact zA V.int (↥74).2 y m
 | calm l y =>
  obtain ⟨a,kvs,ha,rfl⟩:=G
  refine fin rfl rfl rfl k.rows k.kv (Ji _ _ _) ?_
  show (x8 g.lds l.toNat _).map (·.2)=((↥79).set l.toNat _).map (iX kvI)
  unfold x8
  rw [cY,cY,hl,gets ha]
  congr 1
  exact vy V.int (↥74).2 y
theorem V5 (G:XN H g d g'):g'.va=g.va/\g'.sl=g.sl/\g'.le=g.le/\g'.zs=g.zs/\(g'.cy=g.cy\/H g'.cy=none):=by
 cases d with
 | turn ts =>
  obtain ⟨cy,xs,h,rfl⟩:=G
  exact ⟨rfl,rfl,rfl,rfl,.inr h⟩
 | tell y r t =>
  cases G
  exact ⟨rfl,rfl,rfl,rfl,.inl rfl⟩
 | plain y =>
  cases G
  exact ⟨rfl,rfl,rfl,rfl,.inl rfl⟩
 | surge l y m =>
  obtain ⟨a,kvs,_,rfl⟩:=G
  exact ⟨rfl,rfl,rfl,rfl,.inl rfl⟩
 | calm l y =>
  obtain ⟨a,kvs,_,rfl⟩:=G
  exact ⟨rfl,rfl,rfl,rfl,.inl rfl⟩
theorem Pr.next {b sd p:Addr}{c:ScN}{g:IceG}(P:Pr C L b sd p c g H) (G:XN H g d g') (I1:IceAt C H1 p g') (f:FrI p g H H1) (N:NewS H1 c d c2) (S2:ScAt H2 s2 c2) (n2:H1 s2=none) (s:jn H1 H2) (due:vF c d=none) (hd:∀ts,d = .turn ts->gr ts=true) (hk:c.sk.length+1<=40) (hm:∀x∈c.lds,x.2.length+1<=40):Pr C L b s2 p c2 g' H2:=by
 have B1:=(P.done f).1
 obtain ⟨e1,e2,e3,e4,e5⟩:=V5 G
 refine ⟨B1.same s,S2,I1.same s,YN P.O N B1 due hd hk hm,UI P.k N G,by rw [e1];exact P.va,?_,by rw [e2];exact P.sl,by rw [e3];exact P.le,by rw [e4];exact P.zs,λa ha=>?_⟩
 ·rcases e5 with e | e
  ·rw [e]
   exact P.cy
  ·exact P.B.ne e
 ·obtain ⟨u,hu⟩:∃u,H1 a=some u:=by
   rcases ha with rfl | ⟨x,hx,rfl⟩
   ·exact ⟨_,I1.ye⟩
   ·exact ⟨_,I1.lds x hx⟩
  refine ⟨j4 hu n2,λz=>?_⟩
  rcases z with z | ⟨x,hx,z⟩
  ·rw [z,N.sg] at hu
   cases hu
  ·rw [<- z,N.ld x hx] at hu
   cases hu
theorem Pr.fb {C L b sd p:Addr}{c:ScN}{g:IceG}{H H':Hp}(P:Pr C L b sd p c g H) (f:Fr3 (λa=>a=b) c.D H H') (B:jG L H' b) (S:ScAt H' sd c):Pr C L b sd p c g H':=by
 obtain ⟨ns,a0,r0,c0,d0,hb,_⟩:=P.B
 have at_:∀{a:Addr} {u:HO},H a=some u->a≠b->(∀k,u≠.dK k)->H' a=some u:=λh n d=>f.at h n d
 have nl:∀{a:Addr} {u:HO},H a=some u->(∀xs,u≠.lst xs)->(∀k,u≠.dK k)->H' a=some u:=λh d1 d2=>at_ h (jg h hb (d1 _)) d2
 have dk:∀{a:Addr} {k:List (Key×V)},H a=some (.dK k)->¬c.D a->H' a=some (.dK k):=λ{a k} h n=>by
  rcases f a _ h (jg h hb (by walk_at "z")) with z | ⟨m,_⟩
  ·exact z
  ·exact absurd m n
 have kt:jw H H':=λa xs h=>nl h ↥1 ↥1
 refine ⟨B,S,⟨nl P.I.ob ↥1 ↥1,at_ P.I.va P.va ↥1,P.I.rs.keep kt,at_ P.I.cy P.cy ↥1,jH.imp P.I.rows λ_ _ h=>kt _ _ h,at_ P.I.sl P.sl ↥1,?_,dk P.I.ye (P.ad _ (.inl rfl)).2,at_ P.I.le P.le ↥1,λx hx=>dk (P.I.lds x hx) (P.ad _ (.inr ⟨x,hx,rfl⟩)).2⟩,P.O,P.k,P.va,P.cy,P.sl,P.le,P.zs,P.ad⟩
 exact pmM P.I.slopes λv hv w ⟨a,e,h⟩=>⟨a,e,at_ h (λz=>P.zs (by rw [<- z,<- e];exact hv)) ↥1⟩
theorem xP.up {H':Hp}(D:xP H a d) (h:∀b u,H b=some u->(∀k,u≠.dK k)->(∀x y z,u≠.ins x y z)->H' b=some u):xP H' a d:=by
 have kt:jw H H':=λb xs q=>h _ _ q ↥1 ↥9
 cases d with
 | turn ts =>
  obtain ⟨q,xs,h1,h2,h3,h4,h5⟩:=D
  exact ⟨q,xs,kt _ _ h1,h _ _ h2 ↥1 ↥9,jH.imp h3 λ_ _ q=>kt _ _ q,h4,h5⟩
 | tell y r t=>exact ⟨kt _ _ D.1,kt _ _ D.2⟩
 | plain y=>exact kt _ _ D
 | surge l y m=>exact kt _ _ D
 | calm l y=>exact kt _ _ D
theorem xP.gr {ts:List T3}(D:xP H a (.turn ts)):gr ts=ts.all good:=by
 obtain ⟨q,xs,_,_,_,h4,h5⟩:=D
 show (decide (1<=(ts.length:Int)/\(ts.length:Int)<=12) && ts.all good)=_
 rw [decide_eq_true ⟨(),()⟩]
 rfl
noncomputable def xv (g:IceG) (a:Addr):Prop:=a=g.ye\/∃x∈g.lds,x.1=a
noncomputable def NT (b p:Addr) (g:IceG) (a:Addr):Prop:=a=b\/a=p\/xv g a
theorem QN {g g':IceG}(h1:g'.ye=g.ye) (h2:g'.lds.map (·.1)=g.lds.map (·.1)) (a:Addr):xv g' a↔xv g a:=by
 have e:∀l:List ↥44,(∃x∈l,x.1=a)↔a∈l.map (·.1):=λl=>⟨λ⟨x,hx,e⟩=>e ▸ bY hx,λh=>by obtain ⟨x,hx,e⟩:=List.mem_map.mp h;exact ⟨x,hx,e⟩⟩
 unfold xv
 rw [h1,e,e,h2]
theorem Jg {l:List ↥44}{n:Nat}{a:Addr}{u:List (Key×V)}(h:l[n]? = some (a,u)):(x8 l n v).map (·.1)=l.map (·.1):=by
 unfold x8
 rw [ao,h]
 exact JT h
theorem Jd (G:XN H g d g') (a:Addr):xv g' a↔xv g a:=by
 cases d with
 | turn ts =>
  obtain ⟨cy,xs,h,rfl⟩:=G
  exact sR
 | tell y r t =>
  cases G
  exact sR
 | plain y =>
  cases G
  exact sR
 | surge l y m =>
  obtain ⟨a',kvs,h,rfl⟩:=G
  refine QN ?_ ?_ a
  ·rfl
  ·exact Jg h
 | calm l y =>
  obtain ⟨a',kvs,h,rfl⟩:=G
  refine QN ?_ ?_ a
  ·rfl
  ·exact Jg h
theorem Qn {b p:Addr}{g:IceG}{M:Addr->Prop}{H H1 H2 H3 H5:Hp}(F1:Fr3 (λa=>a=b) M H H1) (s2:jn H1 H2) (f3:FrI p g H2 H3) (s:jn H3 H5):Fr3 (NT b p g) M H H5:=λa o h n=>by
 have nb:¬a=b:=λz=>n (.inl z)
 have np:a≠p:=λz=>n (.inr (.inl z))
 have ny:a≠g.ye:=λz=>n (.inr (.inr (.inl z)))
 have nl:∀x∈g.lds,a≠x.1:=λx hx z=>n (.inr (.inr (.inr ⟨x,hx,z.symm⟩)))
 rcases F1 a o h nb with q | ⟨m,ob,kvs,e,q⟩
 ·exact .inl (s _ _ (f3 _ _ (s2 _ _ q) np ny nl))
 ·exact .inr ⟨m,ob,kvs,e,s _ _ (f3 _ _ (s2 _ _ q) np ny nl)⟩
theorem YY (f:Fr3 (NT b p g) M H H5) (B:jG L H5 b) (I:IceAt C H5 p g') (hm:∀a,xv g' a↔xv g a) {a:Addr}(h:H a=some u):∃v,H5 a=some v:=by
 by_cases z:NT b p g a
 ·rcases z with rfl | rfl | z
  ·obtain ⟨ns,x,r,c',d,h1,_⟩:=B
   exact ⟨_,h1⟩
  ·exact ⟨_,I.ob⟩
  ·rcases (hm a).mpr z with rfl | ⟨x,hx,rfl⟩
   ·exact ⟨_,I.ye⟩
   ·exact ⟨_,I.lds x hx⟩
 ·rcases f a u h z with q | ⟨_,ob,kvs,_,q⟩
  ·exact ⟨_,q⟩
  ·exact ⟨_,q⟩
noncomputable def kI (C:Addr):Sp:=λvs H Q _=>∃(L b sd p:Addr) (c:ScN) (g:IceG) (n:Nat),vs=[.ref b,.ref p,.ref sd]/\Pr C L b sd p c g H/\1<=c.ws.length/\c.ws.length<=6/\n+1<=40/\c.sk.length<=n/\(∀x∈c.lds,x.2.length<=n) /\
 ∀(s2:Addr) (c2:ScN) (g2:IceG) (H':Hp),Pr C L b s2 p c2 g2 H'->c2.ws=c.ws->c2.rs=c.rs->c2.sk.length<=n+1->(∀x∈c2.lds,x.2.length<=n+1)->(∀a,xv g2 a↔xv g a)->Fr3 (NT b p g) c.D H H'->(∀a,c2.D a->c.D a\/H a=none)->Q (.ref s2) H'
theorem UW (c:ScN) (d:DeedD):(skD c d).length<=c.sk.length+1:=by
 cases d with
 | tell y r t=>exact zg _ _ _
 | plain y=>exact eV (bI _ _)
 | turn ts=>exact dH _
 | surge l y m=>exact dH _
 | calm l y=>exact dH _
theorem zj:FnScope ["_law_box_here","_law_ice","_law_scene_here","_law_deed","_law_due"] ["_law_box_here","_law_ice","_law_scene_here"] (ja zB):=by walk_at "s"
theorem XE (nb:Nb2 mg) (c_law_ice_deed:Cal P w K mg base 5 "_law_ice_deed" ["_law_box_here","_law_scene_here"] U7) (c_law_ice_due:Cal P w K mg base 2 "_law_ice_due" ["_law_scene_here","_law_deed"] Vs) (c_law_ice_do:Cal P w K mg base 5 "_law_ice_do" ["_law_ice","_law_deed"] (GX C)) (c_law_alike:Cal P w K mg base 6 "_law_alike" ["_law_found","_law_due"] (YG 5)) (c_law_ice_step:Cal P w K mg base 2 "_law_ice_step" ["_law_scene_here","_law_deed"] VJ)
  (F:Fun K "_law_ice_turn" "_law_ice_turn" zB f fd):FnOk P w K mg base CX0 7 f fd ["_law_box_here","_law_ice","_law_scene_here"] (kI C):=by
 refine F.ok zj ↥12 ↥0
 ·obtain ⟨L,b,sd,p,c,g,n,rfl,_⟩:=h
  rfl
 ·obtain ⟨L,b,sd,p,c,g,n,rfl,P,hw1,hw6,hn,hsk,hlds,k⟩:=h
  refine ⟨_,(j8 (jA 3 zj.nd (je c_law_ice_deed (hr.mono ⋯) rfl (j2 (pv 0) ↥89)))
   (j8 (jA 4 zj.nd (je c_law_ice_due (hr.mono ⋯) rfl (j2 (pv 2) (j2 (pv 3) j5))))
   (j8 (jF (qt (qU (je c_law_alike (hr.mono ⋯) rfl (j2 (je c_law_ice_do (hr.mono ⋯) rfl (j2 (pv 1) (j2 (pv 3) j5))) (j2 (pv 4) j5))))) (jb (jk vn)) jo)
   (j8 (jF (jr JO (pv 4) vn (jB _)) (jb (jk (je c_law_ice_step (hr.mono ⋯) rfl (j2 (pv 2) (j2 (pv 3) j5))))) jo)
   (jb (jk (pv 2))))))),?_⟩
  left
  refine ⟨L,b,sd,c,rfl,P.B,P.S,P.O,hw1,hw6,(),λx hx=>by have:=hlds x hx;omega,λa d H1 na D1 B1 S1 F1=>?_⟩
  have P1:=P.fb F1 B1 S1
  have hll:g.lds.length=g.slopes.length:=by rw [P.k.ll,P.O.ldl,P.k.sl,af]
  have hkv:g.kvs.length<=1000:=by rw [P.k.kv,af];omega
  have hg9:∀x∈g.lds,x.2.length<=1000:=λx hx=>by
   obtain ⟨i,hi⟩:=List.mem_iff_getElem?.mp hx
   obtain ⟨y,hy,e⟩:=P.k.ld i x hi
   have:=hlds y (ar hy)
   rw [e,af]
   omega
  have hdue:QW g d=vF c d:=Pr.due P.k P.O.ldl d λts e=>by subst e;exact D1.gr
  left
  refine ⟨sd,a,c,d,rfl,S1,P.O.ldl,D1,λhd0 H2 s2=>?_,λwd hwd t H2 ht s2=>?_⟩
  ·have P2:=P1.same s2
   have D2:xP H2 a d:=D1.up λb u h _ _=>s2 _ _ h
   left
   refine ⟨p,a,g,d,rfl,P2.I,hll,P.k.ny,P.k.nd,hg9,hkv,D2,λhg0 g' H3 G I3 f3=>?_,λw' hw'=>absurd (hw'.symm.trans (hdue.trans hd0)) ↥4⟩
   have D3:xP H3 a d:=D2.up λb' u h d1 d2=>f3 _ _ h (jg h P2.I.ob (d2 _ _ _)) (jg h P2.I.ye (d1 _)) λx hx=>jg h (P2.I.lds x hx) (d1 _)
   obtain ⟨B3,S3⟩:=P2.done f3
   left
   refine ⟨_,_,.none,rfl,.non,.non,rfl,λH4 s4=>?_⟩
   left
   have D4:xP H4 a d:=D3.up λb' u h _ _=>s4 _ _ h
   refine ⟨sd,a,c,d,rfl,S3.same s4,P.O.ldl,by rw [P.O.ldl];omega,(),(λx hx=>by have:=hlds x hx;omega),D4,hd0,λs5 c2 H5 N S5 n5 s5'=>?_⟩
   left
   have f4:FrI p g H2 H4:=λb' u h q1 q2 q3=>s4 _ _ (f3 b' u h q1 q2 q3)
   refine k s5 c2 g' H5 (P2.next G (I3.same s4) f4 N S5 n5 s5' hd0 (λts e=>?_) () (λx hx=>by have:=hlds x hx;omega)) N.ws N.rs ?_ ?_ (Jd G) (Qn F1 s2 f3 (s4.trans s5')) λz hz=>.inr ?_
   ·subst e
    have h0:(if ts.all good=true then none else some _)=(none:Option Str):=hd0
    rw [D1.gr]
    cases eg:ts.all good with
    | true=>rfl
    | false =>
     rw [eg,if_neg au] at h0
     cases h0
   ·rw [N.sk]
    exact aE (UW c d) ()
   ·intro x hx
    exact Q7 (F:=λv=>v.length<=n) (G:=λv=>v.length<=n+1) hlds (λv h=>eV h) (λ_ _ _ _ v h=>aE (zg _ _ _) (dj h)) (λ_ _ _ v h=>eV (aE (bI _ _) h)) (aP _) x.2 (by rw [<- N.lds];exact List.mem_map.mpr ⟨x,hx,rfl⟩)
   ·have hz4:H4 z=none:=by
     rcases hz with rfl | ⟨x,hx,rfl⟩
     ·exact N.sg
     ·exact N.ld x hx
    cases e:H z with
    | none=>rfl
    | some u =>
     obtain ⟨v,hv⟩:=YY (Qn F1 s2 f3 s4) (B3.same s4) (I3.same s4) (Jd G) e
     rw [hz4] at hv
     cases hv
  ·have P2:=P1.same s2
   have D2:xP H2 a d:=D1.up λb u h _ _=>s2 _ _ h
   left
   refine ⟨p,a,g,d,rfl,P2.I,hll,P.k.ny,P.k.nd,hg9,hkv,D2,λhg0=>absurd (hwd.symm.trans (hdue.symm.trans hg0)) ↥4,λw' hw' t3 H3 ht3 s3=>?_⟩
   obtain rfl:w'=wd:=aI (hw'.symm.trans (hdue.trans hwd))
   left
   refine ⟨_,_,.tuple [.str "no",.str w'],rfl,.tup ht3 (.cons (.str _) (.cons (.str _) .nil)),.tup (s3 _ _ ht) (.cons (.str _) (.cons (.str _) .nil)),rfl,λH4 s4=>?_⟩
   left
   exact k sd c g H4 (P2.same (s3.trans s4)) rfl rfl () (λx hx=>eV (hlds x hx)) (λ_=>sR) (Qn (p:=p) (g:=g) F1 s2 (λa u h _ _ _=>s3 _ _ h) s4) (λz hz=>.inl hz)
theorem Pr.start {b sd p:Addr}{c:ScN}{g:IceG}(W:Lw C L b sd p c g H0 H) (k:Lk c g):Pr C L b sd p c g H:=by
 have nb:∀{a:Addr},H0 a=none->a≠b:=λh=>W.B0.ne h
 refine ⟨W.B,W.S,W.I,W.O,k,nb W.F.va,nb W.F.cy,nb W.F.sl,nb W.F.le,λz=>nb (W.F.zs b z) rfl,λa ha=>?_⟩
 have h0:H0 a=none:=by
  rcases ha with rfl | ⟨x,hx,rfl⟩
  ·exact W.F.ye
  ·exact W.F.lds x hx
 refine ⟨λz=>?_,λz=>?_⟩
 ·have:=W.S0.sd
  rw [<- z,h0] at this
  cases this
 ·obtain ⟨o,h⟩:=W.S0.inD z
  rw [h0] at h
  cases h
noncomputable def we (H:Hp) (sk:List (Int×Addr)) (out:List V) (ks:List Int):Prop:=d8 (λv (y:Int)=>∃b r,v=V.ref b/\H b=some (.tup [.int y,.ref r])/\qm (sk.map kvA) (.inl y)=some (.ref r)) out ks
theorem we.same {sk:List (Int×Addr)}{out:List V}(h:we H sk out ks) (s:jn H H'):we H' sk out ks:=Paired.mapP h λ_ _ ⟨b,r,e,q,z⟩=>⟨b,r,e,s _ _ q,z⟩
theorem uT:∀(sk:List (Int×Addr)) (y:Int),y∈sk.map (·.1)->∃r,qm (sk.map kvA) (.inl y)=some (.ref r)
 | [],y,h=>by cases h
 | q::r,y,h=>by
  rw [aV]
  by_cases e:q.1=y
  ·subst e
   exact ⟨q.2,xc⟩
  ·have h':y∈r.map (·.1):=by
    rcases List.mem_cons.mp h with z | z
    ·exact absurd z.symm e
    ·exact z
   obtain ⟨a,ih⟩:=uT r y h'
   exact ⟨a,(jz (λw=>e (dG w))).trans ih⟩
theorem JQ:∀{sk:List (Int×Addr)}{y:Int}{r:Addr},qm (sk.map kvA) (.inl y)=some (.ref r)->∃z∈sk,z.2=r
 | [],y,r,h=>by cases h
 | q::t,y,r,h=>by
  rw [aV] at h
  by_cases e:q.1=y
  ·subst e
   have h2:qm (kvA q::t.map kvA) (.inl q.1)=some (.ref q.2):=xc
   rw [h2] at h
   exact ⟨q,aO ..,V.ref.inj (aI h)⟩
  ·obtain ⟨z,hz,ez⟩:=JQ ((jz (λw=>e (dG w))).symm.trans h)
   exact ⟨z,aH _ hz,ez⟩
noncomputable def Y3 (C:Addr):Sp:=λvs H Q _=>∃(p:Addr) (g:IceG) (sk:List (Int×Addr)),vs=[.ref p]/\IceAt C H p g/\g.kvs=sk.map kvA/\sk.length<64 /\
 ∀o H' out (ks:List Int),H o=none->H' o=some (.lst out)->we H' sk out ks->jn H H'->ks.Perm (sk.map (·.1))->ks.Pairwise (· <= ·)->Q (.ref o) H'
theorem Q6:FnScope ["self"] ["self"] (ja zR):=by walk_at "s"
theorem Qo (nb:Nb2 mg) (T:IceC K C) (F:Fun K "told" "Ice.told" zR f fd):FnOk P w K mg base CX0 2 f fd ["self"] (Y3 C):=by
 refine F.ok Q6 ↥12 ↥0
 ·obtain ⟨p,g,sk,rfl,_⟩:=h
  rfl
 ·obtain ⟨p,g,sk,rfl,I,ek,h64,k⟩:=h
  have hm:H g.ye=some (.dK (sk.map kvA)):=by rw [<- ek];exact I.ye
  refine ⟨_,(jb (jk (jX (osc:=(ja zR)) (ON:=["self"]) (N:=["year","self"]) (own:=1) (caps:=[0]) ⟨rfl,∅,∅,∅,rfl,∅⟩ rfl rfl rfl (qi K (jd (ui K rfl) rfl nb.b_sorted iu (j2 (jV K (pv 0)) j5))) (λ_ _ _ _ _=>(jm (i:=0) (show b8 (["year","self"]:List Str) by decide +kernel) rfl (bf rfl))) ↥24 (λ_ _ _ _ _=>(jx (j2 (pv 0) (j2 (jy (jE hr) (jV K (pv 1)) (pv 0) (λ_ _=>rfl)) j5))))))),?_⟩
  left
  refine ⟨p,C,g.dx,_,_,rfl,I.ob,T.cl,T.nY,xm _ _ _ _ _,?_⟩
  left
  refine ⟨g.ye,sk.map kvA,sk.map (·.1),rfl,hm,by rw [bF,bF];rfl,by rw [af];exact h64,λo H1 ks ho ho1 s1 hp hs=>?_⟩
  have hkl:ks.length<64:=by rw [hp.length_eq,af];exact h64
  refine ⟨o,rfl,⟨_,SqL.of ho1⟩,λacc hacc=>?_⟩
  refine jT (K:=K) (a:=o) (xs:=ks.map V.int) (acc:=acc) (λi σ H2=>∃(x:Option V) (out:List V),σ=[x,some (.ref p)]/\H2 acc=some (.lst out)/\out.length=i/\we H2 sk out (ks.take i)/\Ext acc H1 H2) ?_ ?_ ?_ ?_
  ·exact ⟨none,[],rfl,j7,rfl,.nil,Ext.put⟩
  ·rintro i σ H2 hi ⟨x,out,rfl,h2,hz,r2,e2⟩
   exact SqL.of (e2 _ _ ho1 (j4 ho1 hacc))
  ·rintro i v σ H2 hv ⟨x,out,rfl,h2,hz,r2,e2⟩
   obtain ⟨y,rfl,hy⟩:=yq hv
   have hiy:=(↥51).1
   have hyn:y∈sk.map (·.1):=hp.mem_iff.mp (ar hy)
   obtain ⟨rr,hrr⟩:=uT sk y hyn
   have t2:jn H H2:=λc o hc=>e2 _ _ (s1 _ _ hc) (j4 (s1 _ _ hc) hacc)
   have I2:=I.same t2
   left
   refine ⟨p,C,g.dx,_,_,rfl,I2.ob,T.cl,T.nY,xm _ _ _ _ _,?_⟩
   left
   refine ⟨g.ye,.ref rr,rfl,by rw [<- hrr];exact qc.k (k:=.inl y) (t2 _ _ hm),?_⟩
   left
   refine ⟨by show 2<=sizeLine;decide,λb H3 hb hb3 s3=>?_⟩
   have h3:=s3 _ _ h2
   have bacc:b≠acc:=(j4 h2 hb).symm
   refine ⟨out,h3,jh (),some (.int y),out++[.ref b],rfl,j7,by rw [ay,hz];rfl,?_,λc o hc n=>by rw [j9 n];exact s3 _ _ (e2 c o hc n)⟩
   rw [bL,hy]
   exact cE (Paired.mapP r2 λv m ⟨c,r,e,q,z⟩=>⟨c,r,e,by rw [j9 (jg (s3 _ _ q) h3 ↥4)];exact s3 _ _ q,z⟩) ⟨b,rr,rfl,by rw [j9 bacc];exact hb3,hrr⟩
  ·rintro σ H2 ⟨x,out,rfl,h2,hz,r2,e2⟩
   rw [af,bc] at r2
   exact k acc H2 out ks (s1.free hacc) h2 r2 (λc o hc=>e2 _ _ (s1 _ _ hc) (j4 (s1 _ _ hc) hacc)) hp hs
noncomputable def dR (r:Rch):PyData:=.tuple [.int r.1,.tuple (r.2.map om)]
noncomputable def d3 (t:T3):PyData:=.tuple [.int t.1,.int t.2.1,.int t.2.2]
theorem dlV :∀{xs:List V}{rs:List Rch},qf H xs rs->DatL H xs (rs.map dR)
 | _,_,.nil=>.nil
 | _,_,.cons ⟨q,g,e,hq,hg⟩ t=>by
  subst e
  exact .cons (.tup hq (.cons (.int _) (.cons (.tup hg (DatL.ints _)) .nil))) (dlV t)
theorem dl3 :∀{xs:List V}{ts:List T3},jH H xs ts->DatL H xs (ts.map d3)
 | _,_,.nil=>.nil
 | _,_,.cons ⟨q,e,hq⟩ t=>by
  subst e
  exact .cons (.tup hq (.cons (.int _) (.cons (.int _) (.cons (.int _) .nil)))) (dl3 t)
theorem WY {rs:List Rch}(h:∀r∈rs,r.2.length<=12):(rs.map dR).all (qM 3)=true:=by
 rw [bB]
 intro x hx
 obtain ⟨r,hr,rfl⟩:=List.mem_map.mp hx
 refine Je (by show 2<=1000;decide) ?_
 rw [di,di,Je (by rw [af];have:=h r hr;omega) kL]
 rfl
theorem WH {ts:List T3}{n:Nat}:(ts.map d3).all (qM (n+2))=true:=by
 rw [bB]
 intro x hx
 obtain ⟨r,hr,rfl⟩:=List.mem_map.mp hx
 rfl
theorem XI {H:Hp}{sk:List (Int×Addr)}(hsk:∀z∈sk,∃t,H z.2=some (zM t)/\good t=true):∀{out:List V}{ks:List Int},we H sk out ks->∃ds:List PyData,ds.all (qM 3)=true/\ds.length=ks.length/\∀out',we H sk out' ks->DatL H out' ds
 | _,_,.nil=>⟨[],rfl,rfl,λout' h=>by cases h;exact .nil⟩
 | _,y::ks,.cons ⟨b,r,e,h,hv⟩ t=>by
  obtain ⟨ds,h1,h2,h3⟩:=XI hsk t
  obtain ⟨z,hz,rfl⟩:=JQ hv
  obtain ⟨tt,ht,_⟩:=hsk z hz
  refine ⟨.tuple [.int y,d3 tt]::ds,by rw [di,h1];rfl,by rw [bb,h2,bb],λout' h'=>?_⟩
  cases h' with
  | cons q t' =>
   obtain ⟨b',r',e',h'',hv'⟩:=q
   rw [hv] at hv'
   cases hv'
   subst e'
   exact .cons (.tup h'' (.cons (.int _) (.cons (.tup ht (.cons (.int _) (.cons (.int _) (.cons (.int _) .nil)))) .nil))) (h3 _ t')
noncomputable def d2 (q:Int×Int):PyData:=.tuple [.int q.1,.int q.2]
theorem dl2 {H:Hp}:∀{xs:List V}{ms:List (Int×Int)},d8 (λv (m:Int×Int)=>∃b,v=V.ref b/\H b=some (.tup [.int m.1,.int m.2])) xs ms->DatL H xs (ms.map d2)
 | _,_,.nil=>.nil
 | _,_,.cons ⟨q,e,hq⟩ t=>by
  subst e
  exact .cons (.tup hq (.cons (.int _) (.cons (.int _) .nil))) (dl2 t)
theorem Wu {ms:List (Int×Int)}{n:Nat}:(ms.map d2).all (qM (n+2))=true:=by
 rw [bB]
 intro x hx
 obtain ⟨r,hr,rfl⟩:=List.mem_map.mp hx
 rfl
theorem Zx {as bs:List Int}(p:as.Perm bs) (ha:as.Pairwise (· <= ·)) (hb:bs.Pairwise (· <= ·)):as=bs:=List.Perm.eq_of_pairwise (le:=λa b=>a<=b) (λa b _ _ h1 h2=>Int.le_antisymm h1 h2) ha hb p
noncomputable def QU (H:Hp) (sk:List (Int×Addr)) (wr:List (Int×T3)):Prop:=d8 (λ(z:Int×Addr) (q:Int×T3)=>z.1=q.1/\H z.2=some (zM q.2)) sk wr
theorem QU.of {H:Hp}:∀{sk:List (Int×Addr)},(∀z∈sk,∃t,H z.2=some (zM t)/\good t=true)->∃wr,QU H sk wr
 | [],_=>⟨[],.nil⟩
 | z::r,h=>by
  obtain ⟨t,ht,_⟩:=h z (aO ..)
  obtain ⟨wr,hw⟩:=QU.of (sk:=r) λu hu=>h u (aH _ hu)
  exact ⟨(z.1,t)::wr,.cons ⟨rfl,ht⟩ hw⟩
noncomputable def Zv (wr:List (Int×T3)) (ts:List T3) (y:Int):T3 :=
 match wr.find? λq=>decide (q.1=y) with
 | some q=>q.2
 | none=>ts.getD (y % (ts.length:Int)).toNat (0,0,0)
theorem wX {H:Hp}:∀{sk:List (Int×Addr)}{wr:List (Int×T3)},QU H sk wr->∀y:Int,
  (∃a q,qm (sk.map kvA) (.inl y)=some (.ref a)/\(wr.find? λq=>decide (q.1=y))=some q/\H a=some (zM q.2))\/(qm (sk.map kvA) (.inl y)=none/\(wr.find? λq=>decide (q.1=y))=none)
 | _,_,.nil,y=>.inr ⟨rfl,rfl⟩
 | z::sk,q::wr,.cons ⟨e,h⟩ r,y=>by
  rw [aV]
  by_cases c:z.1=y
  ·subst c
   exact .inl ⟨z.2,q,xc,by rw [mi (by rw [decide_eq_true e.symm])],h⟩
  ·have e1:qm (kvA z::sk.map kvA) (.inl y)=qm (sk.map kvA) (.inl y):=jz λw=>c (dG w)
   have e2:((q::wr).find? λq=>decide (q.1=y))=wr.find? λq=>decide (q.1=y):=mj (by rw [decide_eq_false (by rw [<- e];exact c)];exact au)
   rw [e1,e2]
   exact wX r y
theorem VO (r:jH H ys ts) (h1:1<=ts.length) (y:Int):∃a,atI ys (y % (ys.length:Int))=some (.ref a)/\H a=some (zM (ts.getD (y % (ts.length:Int)).toNat (0,0,0))):=by
 have hl:ys.length=ts.length:=r.length
 have n0:(0:Int)<ts.length:=()
 have m0:=fI y (show (ts.length:Int)≠0 by omega)
 have m1:=eB y n0
 have hi:(y % (ts.length:Int)).toNat<ys.length:=()
 obtain ⟨t,ht,a,ea,ha⟩:=r.get (ag hi)
 refine ⟨a,?_,?_⟩
 ·rw [hl]
  exact qV m0 (by rw [ag hi,ea])
 ·rw [ao,ht]
  exact ha
noncomputable def We (C:Addr):Sp:=λvs H Q _=>∃(p:Addr) (g:IceG) (y:Int) (sk:List (Int×Addr)) (wr:List (Int×T3)),vs=[.ref p,.int y]/\IceAt C H p g/\g.kvs=sk.map kvA/\QU H sk wr/\1<=g.rows.length/\g.rows.length<=1000/\∀t,H t=some (zM (Zv wr g.rows y))->Q (.ref t) H
theorem QJ:FnScope ["self","year"] ["self","year"] (ja vS):=by walk_at "s"
theorem QR (nb:Nb2 mg) (T:IceC K C) (F:Fun K "sky" "Ice.sky" vS f fd):FnOk P w K mg base CX0 1 f fd ["self","year"] (We C):=by
 refine F.ok QJ ↥12 ↥0
 ·obtain ⟨p,g,y,sk,wr,rfl,_⟩:=h
  rfl
 ·obtain ⟨p,g,y,sk,wr,rfl,I,ek,hw,h1,h2,k⟩:=h
  have hye:H g.ye=some (.dK (sk.map kvA)):=by rw [<- ek];exact I.ye
  obtain ⟨ra,hra,hrow⟩:=VO I.rows h1 y
  refine ⟨_,(jb (jk (VQ (jE hr) (jV K (pv 0)) (pv 1) (jj (jf K) (jV K (pv 0)) (jv zh (pv 1) (jd (ji K) rfl nb.b_len aR (j2 (jV K (pv 0)) j5))) (λ_ _=>rfl)) ⟨rfl,rfl,rfl,rfl⟩))),?_⟩
  left
  refine ⟨p,C,g.dx,_,_,rfl,I.ob,T.cl,T.nY,xm _ _ _ _ _,?_⟩
  left
  refine ⟨.inl ⟨_,.inl hye⟩,?_⟩
  left
  refine ⟨p,C,g.dx,_,_,rfl,I.ob,T.cl,T.nC,yF _ _ _ _ _,?_⟩
  left
  refine ⟨p,C,g.dx,_,_,rfl,I.ob,T.cl,T.nC,yF _ _ _ _ _,?_⟩
  left
  refine ⟨g.cy,_,rfl,.inl (SqL.of I.cy),?_⟩
  have hl:g.ys.length=g.rows.length:=I.rows.length
  left
  refine ⟨_,_,_,_,rfl,rfl,SqL.of I.cy,hra,?_⟩
  rcases wX hw y with ⟨a,q,e1,e2,h⟩ | ⟨e1,e2⟩
  ·refine ⟨some (.ref a),by rw [<- e1];exact qc.k (k:=.inl y) hye,?_⟩
   exact k a (by unfold Zv;rw [e2];exact h)
  ·refine ⟨none,by rw [<- e1];exact qc.k (k:=.inl y) hye,?_⟩
   exact k ra (by unfold Zv;rw [e2];exact hrow)
noncomputable def VR:Sp:=λvs H Q _=>∃(sd:Addr) (c:ScN) (y:Int) (wr:List (Int×T3)),vs=[.ref sd,.int y]/\ScAt H sd c/\QU H c.sk wr/\1<=c.ts.length/\c.ts.length<=1000/\∀t,H t=some (zM (Zv wr c.ts y))->Q (.ref t) H
theorem Z1:FnScope ["_law_scene_here","_law_year_here"] ["_law_scene_here","_law_year_here"] (ja uU):=by walk_at "s"
theorem Wi (nb:Nb2 mg) (F:Fun K "_law_row" "_law_row" uU f fd):FnOk P w K mg base CX0 1 f fd ["_law_scene_here","_law_year_here"] VR:=by
 refine F.ok Z1 ↥12 ↥0
 ·obtain ⟨sd,c,y,wr,rfl,_⟩:=h
  rfl
 ·obtain ⟨sd,c,y,wr,rfl,S,hw,h1,h2,k⟩:=h
  refine ⟨_,(j8 (jF (gf (Gv (jE hr) (pv 1) ↥16) ↥35) (jb (jk (jy (jE hr) ↥16 (pv 1) (λ_ _=>rfl)))) jo)
   (jb (jk (jj (jf K) ↥16 (jv zh (pv 1) (jd (ji K) rfl nb.b_len aR (j2 ↥16 j5))) (λ_ _=>rfl))))),?_⟩
  obtain ⟨ra,hra,hrow⟩:=VO S.r3 h1 y
  left
  refine ⟨sd,.ref c.sg,rfl,by rw [<- qP c.p c.q c.sg c.gl c.ll];exact qc.k (k:=.inr "single") S.sd,?_⟩
  rcases wX hw y with ⟨a,q,e1,e2,h⟩ | ⟨e1,e2⟩
  ·refine ⟨c.sg,some (.ref a),rfl,.inl ⟨_,.inl y,S.sg,rfl,e1.symm⟩,?_⟩
   left
   refine ⟨sd,.ref c.sg,rfl,by rw [<- qP c.p c.q c.sg c.gl c.ll];exact qc.k (k:=.inr "single") S.sd,?_⟩
   left
   refine ⟨c.sg,.ref a,rfl,.inl ⟨_,.inl y,S.sg,rfl,e1.symm⟩,?_⟩
   exact k a (by unfold Zv;rw [e2];exact h)
  ·refine ⟨c.sg,none,rfl,.inl ⟨_,.inl y,S.sg,rfl,e1.symm⟩,?_⟩
   have hl:c.ys.length=c.ts.length:=S.r3.length
   left
   refine ⟨sd,.ref c.q,rfl,by rw [<- uk c.p c.q c.sg c.gl c.ll];exact qc.k (k:=.inr "rows") S.sd,?_⟩
   left
   refine ⟨sd,.ref c.q,rfl,by rw [<- uk c.p c.q c.sg c.gl c.ll];exact qc.k (k:=.inr "rows") S.sd,?_⟩
   left
   refine ⟨c.q,_,rfl,.inl (SqL.of S.q),?_⟩
   left
   refine ⟨_,_,_,_,rfl,rfl,SqL.of S.q,hra,?_⟩
   exact k ra (by unfold Zv;rw [e2];exact hrow)
noncomputable def kA (C CY:Addr):Sp:=λvs H Q E=>∃(p:Addr) (g:IceG) (y:Int) (sk:List (Int×Addr)) (wr:List (Int×T3)),vs=[.ref p,.int y]/\IceAt C H p g/\g.kvs=sk.map kvA/\QU H sk wr/\1<=g.rows.length/\g.rows.length<=1000/\(0<=y->y<=10 ^ 40->∀t,H t=some (zM (Zv wr g.rows y))->Q (.ref t) H)/\(y<0\/10 ^ 40<y->E (.ref CY) none H)
theorem wF:FnScope ["self","year"] ["self","year"] (ja zJ):=by walk_at "s"
theorem wB (cl_Ice:Cls K C) (c_Ice__sky:CalM P w K mg base 1 C "sky" ["self","year"] (We C)) (c_check_asked:CalX P w K mg base 1 "check_asked" ["year"] (ug CY)) (F:Fun K "weather" "Ice.weather" zJ f fd):FnOk P w K mg base (CX1 P w) 2 f fd ["self","year"] (kA C CY):=by
 refine Fun.okX F wF ↥12 ↥0
 ·obtain ⟨p,g,y,sk,wr,rfl,_⟩:=h
  rfl
 ·obtain ⟨p,g,y,sk,wr,rfl,I,ek,hw,h1,h2,k,kx⟩:=h
  refine ⟨_,(j8 (jU (zO c_check_asked (hr.mono ⋯) xE rfl ↥71))
   (jb (jk (pe_m (pv 0) cl_Ice c_Ice__sky (hr.mono ⋯) ↥71)))),?_⟩
  left
  refine ⟨λy0 y1=>?_,λhb=>kx hb⟩
  left
  refine ⟨p,g.dx,_,rfl,I.ob,qa ∅,?_⟩
  left
  exact ⟨p,g,y,sk,wr,rfl,I,ek,hw,h1,h2,λt ht=>k y0 y1 t ht⟩
theorem zy:∀{l:List Int},l.Pairwise (· <= ·)->l.Nodup->l.Pairwise (· < ·)
 | [],_,_=>.nil
 | x::r,p,n=>by
  rw [ow] at p ⊢
  obtain ⟨n1,n2⟩:=List.nodup_cons.mp n
  refine ⟨λy hy=>?_,zy p.2 n2⟩
  have:=p.1 y hy
  have:x≠y:=λe=>n1 (e ▸ hy)
  omega
theorem wq:∀{xs ys:List (Int×Int)},xs.Perm ys->(xs.map (·.1)).Pairwise (· < ·)->(ys.map (·.1)).Pairwise (· < ·)->xs=ys
 | [],ys,p,_,_=>p.nil_eq
 | x::r,[],p,_,_=>absurd p.length_eq (by simp)
 | x::r,y::t,p,hx,hy=>by
  rw [aV,ow] at hx hy
  have e:x=y:=by
   rcases List.mem_cons.mp (p.mem_iff.mpr (aO (a:=y) (l:=t))) with e | e
   ·exact e.symm
   ·rcases List.mem_cons.mp (p.mem_iff.mp (aO (a:=x) (l:=r))) with e2 | e2
    ·exact e2
    ·have a:=hx.1 _ (bY e)
     have b:=hy.1 _ (bY e2)
     omega
  subst e
  rw [wq (oj p) hx.2 hy.2]
noncomputable def wf (C:Addr):Sp:=λvs H Q _=>∃(b p sd:Addr) (c:ScN) (g:IceG),vs=[.ref p,.ref sd]/\IceAt C H p g/\ScAt H sd c/\ScOk b c/\Lk c g/\∀H',jn H H'->Q (.bl true) H'
theorem qR:FnScope ["_law_ice","_law_scene_here","_law_told","_law_lane","_law_leaps"] ["_law_ice","_law_scene_here"] (ja qJ):=by walk_at "s"
theorem gR (nb:Nb2 mg) (cl_Ice:Cls K C) (c_law_alike:Cal P w K mg base 6 "_law_alike" ["_law_found","_law_due"] (YG 5)) (c_Ice__reaches:CalM P w K mg base 1 C "reaches" ["self"] (wW C)) (c_Ice__rows:CalM P w K mg base 1 C "rows" ["self"] (Yn C)) (c_Ice__many:CalM P w K mg base 1 C "many" ["self"] (Y2 C)) (c_Ice__told:CalM P w K mg base 2 C "told" ["self"] (Y3 C)) (c_Ice__surges:CalMX P w K mg base 2 C "surges" ["self","lane"] (JA C CN))
  (F:Fun K "_law_ice_stands" "_law_ice_stands" qJ f fd):FnOk P w K mg base CX0 7 f fd ["_law_ice","_law_scene_here"] (wf C):=by
 refine F.ok qR ↥12 ↥0
 ·obtain ⟨b,p,sd,c,g,rfl,_⟩:=h
  rfl
 ·obtain ⟨b,p,sd,c,g,rfl,I,S,O,kk,k⟩:=h
  have hsg:∀{H':Hp},ScAt H' sd c->qc H' sd (.str "single") (some (.ref c.sg)):=λS'=>by rw [<- qP c.p c.q c.sg c.gl c.ll];exact qc.k (k:=.inr "single") S'.sd
  have hrw:∀{H':Hp},ScAt H' sd c->qc H' sd (.str "rows") (some (.ref c.q)):=λS'=>by rw [<- uk c.p c.q c.sg c.gl c.ll];exact qc.k (k:=.inr "rows") S'.sd
  have hre:∀{H':Hp},ScAt H' sd c->qc H' sd (.str "reaches") (some (.ref c.p)):=λS'=>by rw [<- gg c.p c.q c.sg c.gl c.ll];exact qc.k (k:=.inr "reaches") S'.sd
  have hlp:∀{H':Hp},ScAt H' sd c->qc H' sd (.str "leaps") (some (.ref c.ll)):=λS'=>by rw [<- zE c.p c.q c.sg c.gl c.ll];exact qc.k (k:=.inr "leaps") S'.sd
  have k3:=O.k3
  have hsl:g.slopes.length=c.ws.length:=by rw [kk.sl,af]
  have hll:g.lds.length=g.slopes.length:=by rw [kk.ll,O.ldl,hsl]
  have hldl:=O.ldl
  refine ⟨_,(j8 (ut (j:=2) (osc:=(ja qJ)) (ON:=["_law_ice","_law_scene_here","_law_told","_law_lane","_law_leaps"]) (N:=["_law_year_here","_law_scene_here"]) (own:=1) (caps:=[1]) ⟨rfl,∅,∅,∅,rfl,∅⟩ qR.nd rfl (bf rfl) rfl rfl rfl (qi K (jd (uu K rfl) rfl nb.b_sorted iu (j2 ↥42 j5))) (λ_ _ _ _ _=>(jm (i:=0) (show b8 (["_law_year_here","_law_scene_here"]:List Str) by decide +kernel) rfl (bf rfl))) ↥24 (λ_ _ _ _ _=>(jx (j2 (pv 0) (j2 (jy (jE hr) ↥42 (pv 0) (λ_ _=>rfl)) j5)))))
   (j8 (jF (qt (qU (je c_law_alike (hr.mono ⋯) rfl (j2 (jD (j2 (Ju (pv 0) cl_Ice c_Ice__reaches (hr.mono ⋯)) (j2 (Ju (pv 0) cl_Ice c_Ice__rows (hr.mono ⋯)) (j2 (Ju (pv 0) cl_Ice c_Ice__told (hr.mono ⋯)) j5)))) (j2 (jD (j2 ↥42 (j2 ↥42 ↥89))) j5))))) (jb (jk vO)) jo)
   (j8 (xk bC rfl (wO K rfl nb.b_enumerate (j2 ↥42 j5)) (xQ (n:=2) K rfl (jO (jm (i:=3) qR.nd rfl (bf rfl)) (jO (jm (i:=4) qR.nd rfl (ib rfl)) xD))) (jb (jF (qt (qU (je c_law_alike (hr.mono ⋯) rfl (j2 (zf (pv 0) cl_Ice c_Ice__surges (hr.mono ⋯) vk (j2 (pv 3) j5)) (j2 (jX (osc:=(ja qJ)) (ON:=["_law_ice","_law_scene_here","_law_told","_law_lane","_law_leaps"]) (N:=["_law_year_here","_law_leaps"]) (own:=1) (caps:=[4]) ⟨rfl,∅,∅,∅,rfl,∅⟩ rfl rfl rfl (qi K (jd (uu K rfl) rfl nb.b_sorted iu (j2 (pv 4) j5))) (λ_ _ _ _ _=>(jm (i:=0) (show b8 (["_law_year_here","_law_leaps"]:List Str) by decide +kernel) rfl (bf rfl))) ↥24 (λ_ _ _ _ _=>(jx (j2 (pv 0) (j2 (jy (jE hr) (pv 1) (pv 0) (λ_ _=>rfl)) j5))))) j5))))) (jb (jk vO)) jo)))
   (jb (jk (je c_law_alike (hr.mono ⋯) rfl (j2 (Ju (pv 0) cl_Ice c_Ice__many (hr.mono ⋯)) (j2 (jd (ji K) rfl nb.b_len aR (j2 ↥42 j5)) j5)))))))),?_⟩
  left
  refine ⟨sd,.ref c.sg,rfl,hsg S,?_⟩
  left
  refine ⟨c.sg,c.sk.map kvA,c.sk.map (·.1),rfl,S.sg,by rw [bF,bF];rfl,by rw [af];omega,λo H1 ks ho ho1 s1 hp hs=>?_⟩
  have hkl:ks.length<64:=by rw [hp.length_eq,af];omega
  refine ⟨o,rfl,⟨_,SqL.of ho1⟩,λacc hacc=>?_⟩
  refine jT (K:=K) (a:=o) (xs:=ks.map V.int) (acc:=acc) (λi σ H2=>∃(x:Option V) (out:List V),σ=[x,some (.ref sd)]/\H2 acc=some (.lst out)/\out.length=i/\we H2 c.sk out (ks.take i)/\Ext acc H1 H2) ?_ ?_ ?_ ?_
  ·exact ⟨none,[],rfl,j7,rfl,.nil,Ext.put⟩
  ·rintro i σ H2 hi ⟨x,out,rfl,h2,hz,r2,e2⟩
   exact SqL.of (e2 _ _ ho1 (j4 ho1 hacc))
  ·rintro i v σ H2 hv ⟨x,out,rfl,h2,hz,r2,e2⟩
   obtain ⟨y,rfl,hy⟩:=yq hv
   have hiy:=(↥51).1
   have hyn:y∈c.sk.map (·.1):=hp.mem_iff.mp (ar hy)
   obtain ⟨rr,hrr⟩:=uT c.sk y hyn
   have t2:jn H H2:=λc o hc=>e2 _ _ (s1 _ _ hc) (j4 (s1 _ _ hc) hacc)
   have S2:=S.same t2
   left
   refine ⟨sd,.ref c.sg,rfl,hsg S2,?_⟩
   left
   refine ⟨c.sg,.ref rr,rfl,.inl ⟨_,.inl y,S2.sg,rfl,hrr.symm⟩,?_⟩
   left
   refine ⟨by show 2<=sizeLine;decide,λb H3 hb hb3 s3=>?_⟩
   have h3:=s3 _ _ h2
   have bacc:b≠acc:=(j4 h2 hb).symm
   refine ⟨out,h3,jh (),some (.int y),out++[.ref b],rfl,j7,by rw [ay,hz];rfl,?_,λc o hc n=>by rw [j9 n];exact s3 _ _ (e2 c o hc n)⟩
   rw [bL,hy]
   exact cE (Paired.mapP r2 λv m ⟨c,r,e,q,z⟩=>⟨c,r,e,by rw [j9 (jg (s3 _ _ q) h3 ↥4)];exact s3 _ _ q,z⟩) ⟨b,rr,rfl,by rw [j9 bacc];exact hb3,hrr⟩
  rintro σ H2 ⟨x,out,rfl,h2,hz,r2,e2⟩
  rw [af,bc] at r2
  have s2:jn H H2:=λc o hc=>e2 _ _ (s1 _ _ hc) (j4 (s1 _ _ hc) hacc)
  have I2:=I.same s2
  have S2:=S.same s2
  clear e2 hacc ho1 s1 hz
  left
  refine ⟨p,g.dx,_,rfl,I2.ob,qa ∅,?_⟩
  left
  refine ⟨p,g,rfl,I2,λl1 H3 hl1 hl13 s3=>?_⟩
  left
  refine ⟨p,g.dx,_,rfl,(I2.same s3).ob,qa ∅,?_⟩
  left
  refine ⟨p,g,rfl,I2.same s3,λl2 H4 hl2 hl24 s4=>?_⟩
  have s24:=s3.trans s4
  left
  refine ⟨p,g.dx,_,rfl,(I2.same s24).ob,qa ∅,?_⟩
  left
  refine ⟨p,g,c.sk,rfl,I2.same s24,kk.kv,(),λl3 H5 out3 ks3 hl3 hl35 r3 s5 hp3 hs3=>?_⟩
  obtain rfl:ks3=ks:=Zx (hp3.trans hp.symm) hs3 hs
  left
  refine ⟨by show 3<=sizeLine;decide,λa1 H6 ha1 ha16 s6=>?_⟩
  have s26:=s24.trans (s5.trans s6)
  have S6:=S2.same s26
  have I6:=I2.same s26
  left
  refine ⟨sd,.ref c.p,rfl,hre S6,?_⟩
  left
  refine ⟨sd,.ref c.q,rfl,hrw S6,?_⟩
  left
  refine ⟨by show 3<=sizeLine;decide,λa2 H7 ha2 ha27 s7=>?_⟩
  have S7:=S6.same s7
  have I7:=I6.same s7
  obtain ⟨ds,hds,lds,hdat⟩:=XI S7.sk ((r2.same s26).same s7)
  have t1:=O.t1
  have t2:=O.t2
  have l8:=O.l8
  have hsm:qM 5 (.list [.list (c.rs.map dR),.list (c.ts.map d3),.list ds])=true:=by
   refine zt (by show 3<=1000;decide) ?_
   rw [di,di,di,zt (by rw [af];omega) (WY λr hr=>wM O.gr r hr),zt (by rw [af];omega) WH,zt () hds]
   rfl
  have f57:=s6.trans s7
  have d1:Dat H7 (.ref a1) (.list [.list (c.rs.map dR),.list (c.ts.map d3),.list ds]):=by
   refine .lst (s7 _ _ ha16) (.cons (.lst (f57 _ _ (s5 _ _ (s4 _ _ hl13))) ?_) (.cons (.lst (f57 _ _ (s5 _ _ hl24)) ?_) (.cons (.lst (f57 _ _ hl35) (hdat _ (r3.same f57))) .nil)))
   ·rw [<- kk.rs]
    exact dlV I7.rs
   ·rw [<- kk.rows]
    exact dl3 I7.rows
  have d2':Dat H7 (.ref a2) (.list [.list (c.rs.map dR),.list (c.ts.map d3),.list ds]):=.lst ha27 (.cons (.lst S7.p (dlV S7.rv)) (.cons (.lst S7.q (dl3 S7.r3)) (.cons (.lst (s7 _ _ (s26 _ _ h2)) (hdat _ ((r2.same s26).same s7))) .nil)))
  left
  refine ⟨_,_,_,rfl,d1,d2',hsm,λH8 s8=>?_⟩
  have s08:=s2.trans (s26.trans (s7.trans s8))
  clear d1 d2' hsm hdat hds lds r2 r3 I7 S7 I6 S6 I2 S2
  have S8:=S.same s08
  left
  refine ⟨sd,.ref c.ll,rfl,hlp S8,?_⟩
  left
  refine ⟨⟨_,SqL.of S8.ll⟩,?_⟩
  refine kU (K:=K) (a:=c.ll) (xs:=c.lds.map λx=>V.ref x.1) (λj σ H5=>∃v3 v4:Option V,σ=[some (.ref p),some (.ref sd),some (.ref acc),v3,v4]/\jn H H5) ?_ ?_ ?_ ?_
  ·exact ⟨_,_,rfl,s08⟩
  ·rintro j σ H9 hj ⟨v3,v4,rfl,s9⟩
   exact SqL.of (S.same s9).ll
  ·rintro j v σ H9 t hv ⟨v3,v4,rfl,s9⟩ ht
   rw [aq] at hv
   obtain ⟨⟨da',dn'⟩,hy,ev⟩:=Option.map_eq_some_iff.mp hv
   subst ev
   have hj:=(↥51).1
   obtain ⟨wy,da,dn,LF⟩:=kk.lane O (ln:=(j:Int)) () ()
   have hcd:=LF.cd
   rw [bz,hy] at hcd
   obtain ⟨rfl,rfl⟩:da'=da/\dn'=dn:=by
    have:=aI hcd
    exact ⟨congrArg oP this,congrArg oQ this⟩
   have s10:=s9.trans (jn.new (o:=.tup [.int j,.ref da']) ht)
   left
   refine ⟨t,_,rfl,SqT.of j7,rfl,?_⟩
   refine ⟨_,_,rfl,_,_,rfl,rfl,?_⟩
   generalize upd H9 t (.tup [.int j,.ref da'])=H10 at *
   have hm:=ar hy
   obtain ⟨_,_,⟨da2,hda2⟩,dnd,d64,_⟩:=LF.at_
   left
   refine ⟨p,g.dx,_,rfl,(I.same s10).ob,qa ∅,?_⟩
   left
   refine ⟨p,g,(j:Int),rfl,I.same s10,hll,(λhb=>absurd hb ()),λ_ _=>⟨da2,dn',hda2,dnd,d64,λo1 H11 out1 ms ho1 ho11 hq1 s11 hp1 hs1=>?_⟩⟩
   have s011:=s10.trans s11
   have S11:=S.same s011
   left
   refine ⟨da',dn'.map kvI,dn'.map (·.1),rfl,S11.ld _ hm,by rw [bF,bF];rfl,by rw [af];exact d64,λo2 H12 kz ho2 ho22 s12 hp2 hs2=>?_⟩
   have hkz:kz.length<64:=by rw [hp2.length_eq,af];exact d64
   refine ⟨o2,rfl,⟨_,SqL.of ho22⟩,λac2 hac2=>?_⟩
   refine jT (K:=K) (a:=o2) (xs:=kz.map V.int) (acc:=ac2) (λi σ H2=>∃(x:Option V) (out:List V),σ=[x,some (.ref da')]/\H2 ac2=some (.lst out)/\out.length=i/\d8 (λv (m:Int×Int)=>∃b,v=V.ref b/\H2 b=some (.tup [.int m.1,.int m.2])) out ((kz.take i).map λy=>(y,qW dn' y))/\Ext ac2 H12 H2) ?_ ?_ ?_ ?_
   ·exact ⟨none,[],rfl,j7,rfl,.nil,Ext.put⟩
   ·rintro i σ H2 hi ⟨x,out,rfl,h2,hz,r2,e2⟩
    exact SqL.of (e2 _ _ ho22 (j4 ho22 hac2))
   ·rintro i v σ H2 hv ⟨x,out,rfl,h2,hz,r2,e2⟩
    obtain ⟨y,rfl,hy⟩:=yq hv
    have hiy:=(↥51).1
    have hyn:y∈dn'.map (·.1):=hp2.mem_iff.mp (ar hy)
    have t2:jn H11 H2:=λc o hc=>e2 _ _ (s12 _ _ hc) (j4 (s12 _ _ hc) hac2)
    left
    refine ⟨da',.int (qW dn' y),rfl,.inl ⟨_,.inl y,(S11.same t2).ld _ hm,rfl,(vB dn' y hyn).symm⟩,?_⟩
    left
    refine ⟨by show 2<=sizeLine;decide,λb H3 hb hb3 s3=>?_⟩
    have h3:=s3 _ _ h2
    have bacc:b≠ac2:=(j4 h2 hb).symm
    refine ⟨out,h3,jh (),some (.int y),out++[.ref b],rfl,j7,by rw [ay,hz];rfl,?_,λc o hc n=>by rw [j9 n];exact s3 _ _ (e2 c o hc n)⟩
    rw [qA (λy=>(y,qW dn' y)) kz i y hy]
    exact cE (Paired.mapP r2 λv m ⟨c,e,q⟩=>⟨c,e,by rw [j9 (jg (s3 _ _ q) h3 ↥4)];exact s3 _ _ q⟩) ⟨b,rfl,by rw [j9 bacc];exact hb3⟩
   rintro σ H2 ⟨x,out2,rfl,h2,hz,r2,e2⟩
   rw [af,bc] at r2
   have s112:jn H11 H2:=λc o hc=>e2 _ _ (s12 _ _ hc) (j4 (s12 _ _ hc) hac2)
   have hpz:(kz.map λy=>(y,qW dn' y)).Perm dn':=by
    have:=hp2.map λy=>(y,qW dn' y)
    rw [kJ dn' dnd] at this
    exact this
   have hkk:(kz.map λy=>(y,qW dn' y)).map (·.1)=kz:=by
    rw [bF]
    have:((λx:Int×Int=>x.1) ∘ λy=>(y,qW dn' y))=id:=rfl
    rw [this,lx]
   have ems:(kz.map λy=>(y,qW dn' y))=ms:=by
    refine wq (hpz.trans hp1.symm) ?_ ?_
    ·rw [hkk]
     exact zy hs2 (hp2.nodup_iff.mpr dnd)
    ·exact zy hs1 ((hp1.map (·.1)).nodup_iff.mpr dnd)
   rw [ems] at r2
   have hml:ms.length<64:=by rw [hp1.length_eq];exact d64
   left
   refine ⟨_,_,.list (ms.map d2),rfl,.lst (s112 _ _ ho11) (dl2 (Paired.mapP hq1 λ_ _ ⟨b,e,q⟩=>⟨b,e,s112 _ _ q⟩)),.lst h2 (dl2 r2),zt (by rw [af];omega) Wu,λH13 s13=>?_⟩
   left
   exact ⟨_,_,rfl,s011.trans (s112.trans s13)⟩
  ·rintro σ H9 ⟨v3,v4,rfl,s9⟩
   have S9:=S.same s9
   left
   refine ⟨p,g.dx,_,rfl,(I.same s9).ob,qa ∅,?_⟩
   left
   refine ⟨p,g,rfl,I.same s9,?_⟩
   left
   refine ⟨sd,.ref c.ll,rfl,hlp S9,?_⟩
   left
   refine ⟨c.ll,_,rfl,.inl (SqL.of S9.ll),?_⟩
   rw [af,show g.slopes.length=c.lds.length by omega]
   left
   refine ⟨_,_,.int _,rfl,.int _,.int _,rfl,λH10 s10=>?_⟩
   exact k H10 (s9.trans s10)
theorem ZZ {l:List (Int×Addr)}(h:scK p q sg gl ll=l.map kvA):False:=by
 cases l with
 | nil=>cases h
 | cons a r=>exact absurd (congrArg oP (eN h).1) ↥4
theorem ZJ {l:List (Int×Int)}(h:scK p q sg gl ll=l.map kvI):False:=by
 cases l with
 | nil=>cases h
 | cons a r=>exact absurd (congrArg oP (eN h).1) ↥4
theorem Ym {H:Hp}{k:List (Key×V)}(h:H a=some (.dK (scK p q sg gl ll))) (r:Rd H a (.dK k)):scK p q sg gl ll=k:=by
 rcases r with r | ⟨o,r⟩
 ·rw [h] at r
  exact HO.dK.inj (aI r)
 ·rw [h] at r
  cases r
theorem ScAt.notD {sd p q sg gl ll:Addr}{c:ScN}(S:ScAt H sd c) (h:H a=some (.dK (scK p q sg gl ll))):¬c.D a:=λz=>by
 rcases z with rfl | ⟨x,hx,rfl⟩
 ·exact ZZ (Ym h S.sg)
 ·exact ZJ (Ym h (S.ld x hx))
theorem Qv (I:IceAt C H p g) (k:Lk c g) (h:H a=some (.dK (scK p' q sg gl ll))):¬xv g a:=λz=>by
 rcases z with rfl | ⟨x,hx,rfl⟩
 ·have:=Ym h (.inl I.ye)
  rw [k.kv] at this
  exact ZZ this
 ·obtain ⟨i,hi⟩:=List.mem_iff_getElem?.mp hx
  obtain ⟨y,hy,e⟩:=k.ld i x hi
  have:=Ym h (.inl (I.lds x hx))
  rw [e] at this
  exact ZJ this
theorem IceAt.mutK {p:_}{g:IceG}(I:IceAt C H p g) (m:xv g a):∃k,H a=some (.dK k):=by
 rcases m with rfl | ⟨x,hx,rfl⟩
 ·exact ⟨_,I.ye⟩
 ·exact ⟨_,I.lds x hx⟩
theorem ScAt.rdD {sd:Addr}{c:ScN}(S:ScAt H sd c) (h:c.D a):∃k,Rd H a (.dK k):=by
 rcases h with rfl | ⟨x,hx,rfl⟩
 ·exact ⟨_,S.sg⟩
 ·exact ⟨_,S.ld x hx⟩
inductive LstP (c:ScN) (g:IceG) (a:Addr):Prop
 | p:a=c.p->LstP c g a
 | q:a=c.q->LstP c g a
 | gl:a=c.gl->LstP c g a
 | ll:a=c.ll->LstP c g a
 | zs:V.ref a∈c.zs->LstP c g a
 | va:a=g.va->LstP c g a
 | cy:a=g.cy->LstP c g a
 | sl:a=g.sl->LstP c g a
 | le:a=g.le->LstP c g a
 | gz:V.ref a∈g.zs->LstP c g a
section
variable {C L b sd p:Addr}{c:ScN}{g:IceG}{H H':Hp}
theorem Pr.lst (P:Pr C L b sd p c g H) (h:LstP c g a):a≠b/\∃xs,H a=some (.lst xs):=by
 cases h with
 | p h=>exact h ▸ ⟨P.O.pb,_,P.S.p⟩
 | q h=>exact h ▸ ⟨P.O.qb,_,P.S.q⟩
 | gl h=>exact h ▸ ⟨P.O.gb,_,P.S.gl⟩
 | ll h=>exact h ▸ ⟨P.O.lb,_,P.S.ll⟩
 | zs h =>
  obtain ⟨w,a',e,q⟩:=pm P.S.gi _ h
  cases e
  exact ⟨λz=>P.O.zb (z ▸ h),_,q⟩
 | va h=>exact h ▸ ⟨P.va,_,P.I.va⟩
 | cy h=>exact h ▸ ⟨P.cy,_,P.I.cy⟩
 | sl h=>exact h ▸ ⟨P.sl,_,P.I.sl⟩
 | le h=>exact h ▸ ⟨P.le,_,P.I.le⟩
 | gz h =>
  obtain ⟨w,a',e,q⟩:=pm P.I.slopes _ h
  cases e
  exact ⟨λz=>P.zs (z ▸ h),_,q⟩
theorem Pr.keep {N:Addr->Prop}(P:Pr C L b sd p c g H) (f:Fr3 N M H H') (B:jG L H' b) (nT:∀a xs,H a=some (.tup xs)->¬N a) (nL:∀a,LstP c g a->¬N a) (np:¬N p) (ns:¬N sd) (ms:¬M sd) (nD:∀a,c.D a->¬N a) (nM:∀a,xv g a->¬N a/\¬M a):Pr C L b sd p c g H':=by
 have kt:jw H H':=λa xs h=>f.at h (nT a xs h) ↥1
 have li:∀{a:Addr} {xs:List V},H a=some (.lst xs)->LstP c g a->H' a=some (.lst xs):=λh n=>f.at h (nL _ n) ↥1
 have dk:∀{a:Addr} {k:List (Key×V)},H a=some (.dK k)->xv g a->H' a=some (.dK k):=λ{a k} h m=>by
  rcases f a _ h (nM a m).1 with z | ⟨m',_⟩
  ·exact z
  ·exact absurd m' (nM a m).2
 refine ⟨B,P.S.keep f nT ns ms (nL _ (.p rfl)) (nL _ (.q rfl)) (nL _ (.gl rfl)) (nL _ (.ll rfl)) (λa h=>nL _ (.zs h)) (nD _ (.inl rfl)) (λx hx=>nD _ (.inr ⟨x,hx,rfl⟩)),⟨f.at P.I.ob np ↥1,li P.I.va (.va rfl),P.I.rs.keep kt,li P.I.cy (.cy rfl),jH.imp P.I.rows λ_ _ h=>kt _ _ h,li P.I.sl (.sl rfl),?_,dk P.I.ye (.inl rfl),li P.I.le (.le rfl),λx hx=>dk (P.I.lds x hx) (.inr ⟨x,hx,rfl⟩)⟩,P.O,P.k,P.va,P.cy,P.sl,P.le,P.zs,P.ad⟩
 exact pmM P.I.slopes λv hv w ⟨a,e,h⟩=>⟨a,e,li h (.gz (e ▸ hv))⟩
theorem Pr.put {zn:List V}(P:Pr C L b sd p c g H) (hl:H ls=some (.lst (.ref x0::zn))) (nt:∀xs,H x0≠some (.tup xs)) (nl:∀xs,H x0≠some (.lst xs)) (nd:¬c.D x0) (nm:¬xv g x0) (X:Ext ls H H'):Pr C L b sd p c g H':=by
 have key:∀{xs:List V},H ls=some (.lst xs)->xs = .ref x0::zn:=λh=>by rw [hl] at h;exact (HO.lst.inj (aI h)).symm
 have rv:∀{xs:List V} {rs:List Rch},qf H xs rs->xs = .ref x0::zn->False:=λr e=>by
  subst e
  cases r with
  | cons h _ =>
   obtain ⟨q,g',e,hq,_⟩:=h
   cases e
   exact nt _ hq
 have r3:∀{xs:List V} {ts:List T3},jH H xs ts->xs = .ref x0::zn->False:=λr e=>by
  subst e
  cases r with
  | cons h _ =>
   obtain ⟨q,e,hq⟩:=h
   cases e
   exact nt _ hq
 have ri:∀{xs:List V} {ws:List (List Int)},yg H xs ws->xs = .ref x0::zn->False:=λr e=>by
  subst e
  cases r with
  | cons h _ =>
   obtain ⟨q,e,hq⟩:=h
   cases e
   exact nl _ hq
 have nin:∀{ns:List Int},ns.map V.int = .ref x0::zn->False:=λ{ns} e=>by
  cases ns with
  | nil=>cases e
  | cons a r=>exact absurd (eN e).1 ↥4
 have nL:∀a,LstP c g a->¬a=ls:=λa h e=>by
  subst e
  cases h with
  | p h=>subst h;exact rv P.S.rv (key P.S.p)
  | q h=>subst h;exact r3 P.S.r3 (key P.S.q)
  | gl h=>subst h;exact ri P.S.gi (key P.S.gl)
  | ll h =>
   subst h
   have e:=key P.S.ll
   cases el:c.lds with
   | nil=>rw [el] at e;cases e
   | cons y r =>
    rw [el,aV] at e
    exact nd (.inr ⟨y,by rw [el];exact aO ..,V.ref.inj (eN e).1⟩)
  | zs h =>
   obtain ⟨w,a',e,q⟩:=pm P.S.gi _ h
   cases e
   exact nin (key q)
  | va h=>subst h;exact rv P.I.rs (key P.I.va)
  | cy h=>subst h;exact r3 P.I.rows (key P.I.cy)
  | sl h=>subst h;exact ri P.I.slopes (key P.I.sl)
  | le h =>
   subst h
   have e:=key P.I.le
   cases el:g.lds with
   | nil=>rw [el] at e;cases e
   | cons y r =>
    rw [el,aV] at e
    exact nm (.inr ⟨y,by rw [el];exact aO ..,V.ref.inj (eN e).1⟩)
  | gz h =>
   obtain ⟨w,a',e,q⟩:=pm P.I.slopes _ h
   cases e
   exact nin (key q)
 have hB:jG L H' b:=by
  obtain ⟨ns,a0,r0,c0,d0,h1,h2,h3,h4⟩:=P.B
  refine jG.ext ⟨ns,a0,r0,c0,d0,h1,h2,h3,h4⟩ (λz=>?_) (λz=>?_) X
  ·subst z
   have:=key h1
   have:=V.ref.inj (eN this).1
   subst this
   exact nl _ h3
  ·subst z
   exact nin (key h3)
 exact P.keep (N:=λa=>a=ls) (M:=λ_=>False) (λa o h n=>.inl (X a o h n)) hB (λa xs h=>jg h hl ↥4) nL (jg P.I.ob hl ↥4) (jg P.S.sd hl ↥4) id (λa h=>by
  obtain ⟨k,r | ⟨o,r⟩⟩:=P.S.rdD h
  ·exact jg r hl ↥4
  ·exact jg r hl ↥4) λa m=>⟨by
   obtain ⟨k,r⟩:=P.I.mutK m
   exact jg r hl ↥4,id⟩
end
structure Pk where
 sd:Addr
 p:Addr
 c:ScN
 g:IceG
noncomputable abbrev PrK (C L b:Addr) (x:Pk) (H:Hp):Prop:=Pr C L b x.sd x.p x.c x.g H
structure Ap (x y:Pk):Prop where
 p:x.p≠y.p
 m:∀a,xv x.g a->¬xv y.g a/\¬y.c.D a
theorem PrK.other {b:Addr}{x:Pk}(X:PrK C L b x H) (Y:PrK C L b y H) (a1:Ap x y) (a2:Ap y x) (f:Fr3 (NT b x.p x.g) x.c.D H H') (B:jG L H' b):PrK C L b y H':=by
 obtain ⟨ns,a0,r0,c0,d0,hb,_⟩:=X.B
 refine Pr.keep Y f B (λa xs h z=>?_) (λa h z=>?_) (λz=>?_) (λz=>?_) (X.S.notD Y.S.sd) (λa h z=>?_) (λa m=>⟨λz=>?_,(a2.m a m).2⟩)
 ·rcases z with z | z | z
  ·exact X.B.ne_tup h z
  ·exact jg h X.I.ob ↥4 z
  ·obtain ⟨k,q⟩:=X.I.mutK z
   rw [h] at q
   cases q
 ·obtain ⟨nb,xs,h⟩:=Y.lst h
  rcases z with z | z | z
  ·exact nb z
  ·exact jg h X.I.ob ↥4 z
  ·obtain ⟨k,q⟩:=X.I.mutK z
   rw [h] at q
   cases q
 ·rcases z with z | z | z
  ·exact jg Y.I.ob hb ↥4 z
  ·exact a1.p z.symm
  ·obtain ⟨k,q⟩:=X.I.mutK z
   rw [Y.I.ob] at q
   cases q
 ·rcases z with z | z | z
  ·exact jg Y.S.sd hb ↥4 z
  ·exact jg Y.S.sd X.I.ob ↥4 z
  ·exact Qv X.I X.k Y.S.sd z
 ·obtain ⟨k,r⟩:=Y.S.rdD h
  rcases z with z | z | z
  ·rcases r with r | ⟨o,r⟩
   ·exact jg r hb ↥4 z
   ·exact jg r hb ↥4 z
  ·rcases r with r | ⟨o,r⟩
   ·exact jg r X.I.ob ↥4 z
   ·exact jg r X.I.ob ↥4 z
  ·exact (a1.m a z).2 h
 ·obtain ⟨k,r⟩:=Y.I.mutK m
  rcases z with z | z | z
  ·exact jg r hb ↥4 z
  ·exact jg r X.I.ob ↥4 z
  ·exact (a1.m a z).1 m
structure G4 (C L b:Addr) (F:Nat->Pk) (H:Hp):Prop where
 P:∀i,i<4->PrK C L b (F i) H
 A:∀i j,i<4->j<4->i≠j->Ap (F i) (F j)
theorem G4.same {b:Addr}{F:Nat->Pk}(G:G4 C L b F H) (s:jn H H'):G4 C L b F H':=⟨λi h=>(G.P i h).same s,G.A⟩
theorem G4.box {b:Addr}{F:Nat->Pk}(G:G4 C L b F H) (B:jG L H' b) (X:Ext b H H'):G4 C L b F H':=⟨λi h=>(G.P i h).box B X,G.A⟩
theorem G4.turn {b s2:Addr}{F:Nat->Pk}{i:Nat}(G:G4 C L b F H) (hi:i<4) (P2:Pr C L b s2 (F i).p c2 g2 H') (hm:∀a,xv g2 a↔xv (F i).g a) (f:Fr3 (NT b (F i).p (F i).g) (F i).c.D H H') (hD:∀a,c2.D a->(F i).c.D a\/H a=none):G4 C L b (λj=>if j=i then ⟨s2,(F i).p,c2,g2⟩ else F j) H':=by
 refine ⟨λj hj=>?_,λj l hj hl hn=>?_⟩
 ·show PrK C L b (if j=i then _ else _) H'
  by_cases e:j=i
  ·rw [if_pos e]
   exact P2
  ·rw [if_neg e]
   exact PrK.other (G.P i hi) (G.P j hj) (G.A i j hi hj (λz=>e z.symm)) (G.A j i hj hi e) f P2.B
 ·show Ap (if j=i then _ else _) (if l=i then _ else _)
  by_cases e:j=i
  ·rw [if_pos e,if_neg (λz=>hn (e.trans z.symm))]
   have A:=G.A i l hi hl (λz=>hn (e.trans z))
   exact ⟨A.p,λa m=>A.m a ((hm a).mp m)⟩
  ·rw [if_neg e]
   by_cases e2:l=i
   ·rw [if_pos e2]
    have A:=G.A j i hj hi e
    refine ⟨A.p,λa m=>⟨λz=>(A.m a m).1 ((hm a).mp z),λz=>?_⟩⟩
    rcases hD a z with z | z
    ·exact (A.m a m).2 z
    ·obtain ⟨k,q⟩:=(G.P j hj).I.mutK m
     rw [z] at q
     cases q
   ·rw [if_neg e2]
    exact G.A j l hj hl hn
theorem G4.put {b:Addr}{zn:List V}{F:Nat->Pk}(G:G4 C L b F H) (hl:H ls=some (.lst (.ref x0::zn))) (nt:∀xs,H x0≠some (.tup xs)) (nl:∀xs,H x0≠some (.lst xs)) (nd:∀i,i<4->¬(F i).c.D x0/\¬xv (F i).g x0) (X:Ext ls H H'):G4 C L b F H':=⟨λi h=>Pr.put (G.P i h) hl nt nl (nd i h).1 (nd i h).2 X,G.A⟩
theorem IceAt.tbl {p:Addr}{g:IceG}(I:IceAt C H p g) (T:qw H Pt) (X:Ext Pt H H'):IceAt C H' p g:=by
 obtain ⟨ps,hP⟩:=T.ne
 have n:∀{a:Addr} {o:HO},H a=some o->(∀ps,o≠.tbl ps)->H' a=some o:=λh q=>X _ _ h (jg h hP (q _))
 exact ⟨n I.ob ↥1,n I.va ↥1,I.rs.keep λa xs h=>n h ↥1,n I.cy ↥1,jH.imp I.rows λ_ _ h=>n h ↥1,n I.sl ↥1,Paired.mapP I.slopes λ_ _ ⟨a,e,q⟩=>⟨a,e,n q ↥1⟩,n I.ye ↥1,n I.le ↥1,λx hx=>n (I.lds x hx) ↥1⟩
theorem QC:∀{as:List Addr}{ys:List ↥44},as.length=ys.length->(iN (λa (y:Addr×List (Key×V))=>(a,y.2)) as ys).map (·.1)=as
 | [],[],_=>rfl
 | [],_::_,h=>by cases h
 | _::_,[],h=>by cases h
 | a::as,y::ys,h=>by
  rw [List.zipWith_cons_cons,aV,QC (Nat.succ.inj h)]
noncomputable def Vg (C Pt:Addr):Sp:=λvs H Q _=>∃(p:Addr) (g:IceG),vs=[.ref p]/\IceAt C H p g/\zm g.rs=true/\gr g.rows=true/\(∀r∈g.rs,r.2.length<=100)/\g.rs.length<=60/\g.rows.length<=1000/\g.lds.length<=100/\qw H Pt /\
 ∀p' H' g',IceAt C H' p' g'->IceFr H p' g'->Ext Pt H H'->qw H' Pt->g'.rs=g.rs->g'.rows=g.rows->(∃ws,qe g.rs ws/\g'.slopes=ws.map (jp g.rs))->g'.kvs=g.kvs->g'.lds.length=g.lds.length->(∀(i:Nat) x,g'.lds[i]? = some x->∃y,g.lds[i]? = some y/\x.2=y.2)->(∀x∈g'.lds,x.1≠g'.ye)->(g'.lds.map (·.1)).Nodup->Q (.ref p') H'
theorem uf:FnScope ["self","other"] ["self"] (ja zP):=by walk_at "s"
theorem Qd {CR:Addr}(nb:Nb2 mg) (b_dict:mg "dict" = none) (T:IceC K C) (cl_Ice:Cls K C) (c_Ice:MakX P w K mg base 8 C "Ice" ["self","reaches","rows"] (Z9 C CV CR Pt)) (F:Fun K "twin" "Ice.twin" zP f fd):FnOk P w K mg base CX0 10 f fd ["self"] (Vg C Pt):=by
 refine F.ok uf ↥12 ↥0
 ·obtain ⟨p,g,rfl,_⟩:=h
  rfl
 ·obtain ⟨p,g,rfl,I,hgv,hgr,h100,h60,h1000,hl100,hT,k⟩:=h
  refine ⟨_,(j8 (jA 1 uf.nd (ZV c_Ice (hr.mono ⋯) vk rfl (j2 (jV K (pv 0)) (j2 (jV K (pv 0)) j5))))
   (j8 (zU K (pv 1) (jL (zH K rfl) rfl b_dict df (j2 (jV K (pv 0)) j5)))
   (j8 (zU K (pv 1) (jX (osc:=(ja zP)) (ON:=["self","other"]) (N:=["leaps"]) (own:=1) (caps:=[]) ⟨rfl,∅,∅,∅,rfl,∅⟩ rfl rfl rfl (qi K (jV K (pv 0))) (λ_ _ _ _ _=>(jm (i:=0) (show b8 (["leaps"]:List Str) by decide +kernel) rfl (bf rfl))) ↥24 (λ_ _ _ _ _=>(jL (zH K rfl) rfl b_dict df ↥29))))
   (jb (jk (pv 1)))))),?_⟩
  left
  refine ⟨p,C,g.dx,_,_,rfl,I.ob,T.cl,T.nV,wv _ _ _ _ _,?_⟩
  left
  refine ⟨p,C,g.dx,_,_,rfl,I.ob,T.cl,T.nC,yF _ _ _ _ _,?_⟩
  left
  intro p' dx hp hd hdp
  have s:jn H (upd (upd H dx (.own p')) p' (.ins C dx [])):=λc u h=>by rw [j9 (j4 h hp),j9 (j4 h hd)];exact h
  refine ⟨p',dx,g.va,g.cy,g.xs,g.ys,g.rs,g.rows,rfl,j7,s _ _ I.va,I.rs.keep (jw.same s),s _ _ I.cy,jH.imp I.rows (λ_ _ q=>s _ _ q),h100,h60,h1000,hT.same s,λH1 g1 _ _ J e1 e2 e3 e4 T1=>?_,(λH' z _ _=>by rw [hgv] at z;cases z),(λH' _ z _ _=>by rw [hgr] at z;cases z)⟩
  have J:=J.made hp hd
  refine ⟨rfl,?_⟩
  have X1:Ext Pt H H1:=λc o h n=>J.keep c o h (j4 h hp) n
  have I1:=I.tbl hT X1
  have fr1:∀{a:Addr},H1 a=none->H a=none:=λ{a} h=>by
   cases e:H a with
   | none=>rfl
   | some o =>
    by_cases z:a=Pt
    ·obtain ⟨_,q⟩:=T1.ne
     rw [z,q] at h
     cases h
    ·rw [X1 a o e z] at h
     cases h
  left
  refine ⟨p,C,g.dx,_,_,rfl,I1.ob,T.cl,T.nY,xm _ _ _ _ _,?_⟩
  left
  refine ⟨g.ye,_,rfl,.inl I1.ye,λd H2 hd2 hd22 s2=>?_⟩
  have J2:=J.at_.same s2
  left
  refine ⟨p',C,g1.dx,_,rfl,J2.ob,T.cl,T.nY,by show 5<1000;decide,?_⟩
  rw [show jq "years" (V.ref d) (xM g1.va g1.cy g1.sl g1.ye g1.le)=xM g1.va g1.cy g1.sl d g1.le by rfl]
  have I2:=I1.same s2
  have dp:d≠p':=(j4 J.at_.ob hd2).symm
  have pp:p≠p':=j4 I.ob hp
  have n3:∀{a:Addr} {o v:HO},H2 a=some o->a≠p'->(upd H2 p' v) a=some o:=λh n=>by rw [j9 n];exact h
  have I3:IceAt C (upd H2 p' ↥83) p g:=by
   have n:∀{a:Addr} {o v:HO},H2 a=some o->(∀x y z,o≠.ins x y z)->(upd H2 p' v) a=some o:=λh q=>n3 h (jg h J2.ob (q _ _ _))
   exact ⟨n3 I2.ob pp,n I2.va ↥9,I2.rs.keep λa xs h=>n h ↥9,n I2.cy ↥9,jH.imp I2.rows λ_ _ h=>n h ↥9,n I2.sl ↥9,Paired.mapP I2.slopes λ_ _ ⟨a,e,q⟩=>⟨a,e,n q ↥9⟩,n I2.ye ↥9,n I2.le ↥9,λx hx=>n (I2.lds x hx) ↥9⟩
  have J3:IceAt C (upd H2 p' ↥83) p' { g1 with ye:=d,kvs:=g.kvs }:=by
   have n:∀{a:Addr} {o v:HO},H2 a=some o->(∀x y z,o≠.ins x y z)->(upd H2 p' v) a=some o:=λh q=>n3 h (jg h J2.ob (q _ _ _))
   exact ⟨j7,n J2.va ↥9,J2.rs.keep λa xs h=>n h ↥9,n J2.cy ↥9,jH.imp J2.rows λ_ _ h=>n h ↥9,n J2.sl ↥9,Paired.mapP J2.slopes λ_ _ ⟨a,e,q⟩=>⟨a,e,n q ↥9⟩,n3 hd22 dp,n J2.le ↥9,λx hx=>n (J2.lds x hx) ↥9⟩
  have X3:Ext Pt H (upd H2 p' ↥83):=λc o h n=>n3 (s2 _ _ (X1 c o h n)) (j4 h hp)
  have T3:qw (upd H2 p' ↥83) Pt:=yL (T1.same s2) J2.ob
  have d0:H d=none:=fr1 hd2
  clear n3 J2 I2 hd22 s2 hd2
  generalize upd H2 p' ↥83=H3 at *
  have fr3:∀{a:Addr},H3 a=none->H a=none:=λ{a} h=>by
   cases e:H a with
   | none=>rfl
   | some o =>
    by_cases z:a=Pt
    ·obtain ⟨_,q⟩:=T3.ne
     rw [z,q] at h
     cases h
    ·rw [X3 a o e z] at h
     cases h
  left
  refine ⟨p,C,g.dx,_,_,rfl,I3.ob,T.cl,T.nL,xK _ _ _ _ _,?_⟩
  left
  refine ⟨⟨_,SqL.of I3.le⟩,λl2 hl2=>?_⟩
  refine jT (K:=K) (a:=g.le) (xs:=g.lds.map λx=>V.ref x.1) (acc:=l2) (λi σ H6=>∃(x:Option V) (as:List Addr),σ=[x]/\H6 l2=some (.lst (as.map V.ref))/\as.length=i/\as.Nodup/\(∀a∈as,H3 a=none/\a≠l2)/\(∀(j:Nat) a,as[j]? = some a->∃x,g.lds[j]? = some x/\H6 a=some (.dK x.2))/\Ext l2 H3 H6) ?_ ?_ ?_ ?_
  ·exact ⟨none,[],rfl,j7,rfl,.nil,(λa h=>by cases h),(λj a h=>by cases h),Ext.put⟩
  ·rintro i σ H6 hi ⟨x,as,rfl,h6,hl,nd,hf,hv,e6⟩
   exact SqL.of (e6 _ _ I3.le (j4 I3.le hl2))
  ·rintro i v σ H6 hvi ⟨x,as,rfl,h6,hl,nd,hf,hv,e6⟩
   rw [aq] at hvi
   obtain ⟨y,hy,rfl⟩:=Option.map_eq_some_iff.mp hvi
   have hi:=(↥51).1
   have s6:jn H3 H6:=λc o hc=>e6 c o hc (j4 hc hl2)
   left
   refine ⟨y.1,_,rfl,.inl (s6 _ _ (I3.lds y (ar hy))),λd H7 hd hd7 s7=>?_⟩
   have dl:d≠l2:=(j4 h6 hd).symm
   refine ⟨_,s7 _ _ h6,by rw [af];exact jh (),_,as++[d],rfl,(by rw [j7,aF];rfl),(by rw [ay,hl];rfl),vE nd λz=>?_,λa ha=>?_,λj a ha=>?_,λc o hc n=>by rw [j9 n];exact s7 _ _ (e6 c o hc n)⟩
   ·obtain ⟨j,hj,ej⟩:=List.mem_iff_getElem.mp z
    obtain ⟨_,_,h⟩:=hv j d (by rw [ag hj,ej])
    rw [hd] at h
    cases h
   ·rcases List.mem_append.mp ha with z | z
    ·exact hf a z
    ·rw [List.mem_singleton.mp z]
     exact ⟨s6.free hd,dl⟩
   ·by_cases hj:j<as.length
    ·rw [cj hj] at ha
     obtain ⟨x,h1,h2⟩:=hv j a ha
     have hm:=hf a (ar ha)
     exact ⟨x,h1,by rw [j9 hm.2];exact s7 _ _ h2⟩
    ·rw [c7 ()] at ha
     have hj0:j-as.length=0:=by
      have:=(List.getElem?_eq_some_iff.mp ha).1
      rw [b7] at this
      omega
     rw [hj0] at ha
     cases ha
     refine ⟨y,by rw [show j=i by omega];exact hy,?_⟩
     rw [j9 dl]
     exact hd7
  rintro σ H6 ⟨x,as,rfl,h6,hl,nd,hf,hv,e6⟩
  rw [af] at hl
  have s6:jn H3 H6:=λc o hc=>e6 c o hc (j4 hc hl2)
  have J6:=J3.same s6
  left
  refine ⟨p',C,g1.dx,_,rfl,J6.ob,T.cl,T.nL,by show 5<1000;decide,?_⟩
  rw [show jq "leaps" (V.ref l2) (xM g1.va g1.cy g1.sl d g1.le)=xM g1.va g1.cy g1.sl d l2 by rfl]
  have nas:∀{a:Addr} {o:HO},H3 a=some o->a∉as:=λh z=>by have:=(hf _ z).1;rw [h] at this;cases this
  have l2p:l2≠p':=(j4 J3.ob hl2).symm
  have n7:∀{a:Addr} {o v:HO},H6 a=some o->a≠p'->(upd H6 p' v) a=some o:=λh n=>by rw [j9 n];exact h
  have n8:∀{a:Addr} {o v:HO},H6 a=some o->(∀x y z,o≠.ins x y z)->(upd H6 p' v) a=some o:=λh q=>n7 h (jg h J6.ob (q _ _ _))
  have elds:=QC (as:=as) (ys:=g.lds) hl
  have atl:∀(i:Nat) x,(iN (λa (y:Addr×List (Key×V))=>(a,y.2)) as g.lds)[i]? = some x->∃a y,as[i]? = some a/\g.lds[i]? = some y/\x=(a,y.2):=λi x h=>by
   rw [List.getElem?_zipWith] at h
   cases ea:as[i]? with
   | none=>rw [ea] at h;cases h
   | some a =>
    cases ey:g.lds[i]? with
    | none=>rw [ea,ey] at h;cases h
    | some y=>rw [ea,ey] at h;cases h;exact ⟨a,y,rfl,rfl,rfl⟩
  left
  refine k p' _ { g1 with ye:=d,kvs:=g.kvs,le:=l2,lds:=iN (λa (y:Addr×List (Key×V))=>(a,y.2)) as g.lds } ⟨j7,n8 J6.va ↥9,J6.rs.keep λa xs h=>n8 h ↥9,n8 J6.cy ↥9,jH.imp J6.rows λ_ _ h=>n8 h ↥9,n8 J6.sl ↥9,Paired.mapP J6.slopes λ_ _ ⟨a,e,q⟩=>⟨a,e,n8 q ↥9⟩,n8 J6.ye ↥9,?_,λx hx=>?_⟩ ⟨hp,J.va,J.cy,J.sl,d0,fr3 hl2,J.zs,λx hx=>?_⟩ (λc o h n=>n7 (s6 _ _ (X3 c o h n)) (j4 h hp)) (yL (T3.same s6) J6.ob) e1 e2 ?_ rfl ?_ (λi x hx=>?_) (λx hx=>?_) (by rw [elds];exact nd)
  ·show (upd H6 p' _) l2=some (.lst ((iN (λa (y:Addr×List (Key×V))=>(a,y.2)) as g.lds).map λx=>V.ref x.1))
   rw [j9 l2p,h6,<- elds,bF,elds]
   rfl
  ·obtain ⟨i,hi⟩:=List.mem_iff_getElem?.mp hx
   obtain ⟨a,y,ha,hy,rfl⟩:=atl i x hi
   obtain ⟨y',hy',q⟩:=hv i a ha
   rw [hy] at hy'
   cases hy'
   exact n8 q ↥9
  ·obtain ⟨i,hi⟩:=List.mem_iff_getElem?.mp hx
   obtain ⟨a,y,ha,hy,rfl⟩:=atl i x hi
   exact fr3 (hf a (ar ha)).1
  ·rw [<- e1]
   exact J.sl2
  ·show (iN (λa (y:Addr×List (Key×V))=>(a,y.2)) as g.lds).length=_
   rw [List.length_zipWith,hl,Nat.min_self]
  ·obtain ⟨a,y,ha,hy,rfl⟩:=atl i x hx
   exact ⟨y,hy,rfl⟩
  ·obtain ⟨i,hi⟩:=List.mem_iff_getElem?.mp hx
   obtain ⟨a,y,ha,hy,rfl⟩:=atl i x hi
   intro z
   exact nas J3.ye (z ▸ ar ha)
theorem ScAt.frO {Pt sd:Addr}{M:Addr->Prop}{H H':Hp}{c:ScN}(S:ScAt H sd c) (T:qw H Pt) (f:Fr3 (λa=>a=Pt) M H H') (ms:¬M sd):ScAt H' sd c:=by
 obtain ⟨ps,hP⟩:=T.ne
 have n:∀{a:Addr} {o:HO},H a=some o->(∀ps,o≠.tbl ps)->¬a=Pt:=λh q=>jg h hP (q _)
 have nr:∀{a:Addr} {kvs:List (Key×V)},Rd H a (.dK kvs)->¬a=Pt:=λh=>by
  rcases h with h | ⟨o,h⟩
  ·exact n h ↥1
  ·exact n h ↥1
 exact S.keep f (λa xs h=>n h ↥1) (n S.sd ↥1) ms (n S.p ↥1) (n S.q ↥1) (n S.gl ↥1) (n S.ll ↥1) (λa h=>by
  obtain ⟨w,a',e,q⟩:=pm S.gi _ h
  cases e
  exact n q ↥1) (nr S.sg) λx hx=>nr (S.ld x hx)
theorem jG.frO {L b Pt:Addr}{M:Addr->Prop}{H H':Hp}(B:jG L H b) (T:qw H Pt) (f:Fr3 (λa=>a=Pt) M H H'):jG L H' b:=by
 obtain ⟨ps,hP⟩:=T.ne
 obtain ⟨ns,a,r,c,d,h1,h2,h3,h4⟩:=B
 exact ⟨ns,a,r,c,d,f.at h1 (jg h1 hP ↥4) ↥1,h2,f.at h3 (jg h3 hP ↥4) ↥1,h4⟩
theorem Pr.tbl {b sd p Pt:Addr}{M:Addr->Prop}{c:ScN}{g:IceG}{H H':Hp}(P:Pr C L b sd p c g H) (T:qw H Pt) (f:Fr3 (λa=>a=Pt) M H H') (ms:¬M sd) (nM:∀a,xv g a->¬M a):Pr C L b sd p c g H':=by
 obtain ⟨ps,hP⟩:=T.ne
 refine P.keep f (jG.frO P.B T f) (λa xs h=>jg h hP ↥4) (λa h=>?_) (jg P.I.ob hP ↥4) (jg P.S.sd hP ↥4) ms (λa h=>?_) (λa m=>⟨?_,nM a m⟩)
 ·obtain ⟨_,xs,h⟩:=P.lst h
  exact jg h hP ↥4
 ·obtain ⟨k,r | ⟨o,r⟩⟩:=P.S.rdD h
  ·exact jg r hP ↥4
  ·exact jg r hP ↥4
 ·obtain ⟨k,r⟩:=P.I.mutK m
  exact jg r hP ↥4
theorem Ap.new {b:Addr}{x:Pk}(Y:PrK C L b y H) (hp:H x.p=none) (hm:∀a,xv x.g a->H a=none):Ap x y:=by
 refine ⟨λz=>?_,λa m=>⟨λz=>?_,λz=>?_⟩⟩
 ·have:=Y.I.ob
  rw [<- z,hp] at this
  cases this
 ·obtain ⟨k,q⟩:=Y.I.mutK z
  rw [hm a m] at q
  cases q
 ·obtain ⟨o,q⟩:=Y.S.inD z
  rw [hm a m] at q
  cases q
theorem Ap.old {b:Addr}{x:Pk}(Y:PrK C L b y H) (hp:H x.p=none) (hm:∀a,xv x.g a->H a=none) (hc:∀a,xv y.g a->¬x.c.D a):Ap y x:=by
 refine ⟨λz=>?_,λa m=>⟨λz=>?_,hc a m⟩⟩
 ·have:=Y.I.ob
  rw [z,hp] at this
  cases this
 ·obtain ⟨k,q⟩:=Y.I.mutK m
  rw [hm a z] at q
  cases q
theorem IceFr.mut {p:Addr}{g:IceG}(F:IceFr H p g):∀a,xv g a->H a=none:=λa m=>by
 rcases m with rfl | ⟨x,hx,rfl⟩
 ·exact F.ye
 ·exact F.lds x hx
theorem ZM {g':IceG}(k:Lk c g) (O:ScOk b c) (e1:g'.rs=g.rs) (e2:g'.rows=g.rows) (e3:∃ws,qe g.rs ws/\g'.slopes=ws.map (jp g.rs)) (e4:g'.kvs=g.kvs) (e5:g'.lds.length=g.lds.length) (e6:∀(i:Nat) x,g'.lds[i]? = some x->∃y,g.lds[i]? = some y/\x.2=y.2) (ny:∀x∈g'.lds,x.1≠g'.ye) (nd:(g'.lds.map (·.1)).Nodup):Lk c g':=by
 obtain ⟨ws,hR,es⟩:=e3
 rw [k.rs] at hR es
 obtain rfl:=hR.unique O.ro
 refine ⟨e1.trans k.rs,e2.trans k.rows,es,e4.trans k.kv,e5.trans k.ll,λl x hx=>?_,ny,nd⟩
 obtain ⟨y,hy,e⟩:=e6 l x hx
 obtain ⟨z,hz,e'⟩:=k.ld l y hy
 exact ⟨z,hz,e.trans e'⟩
theorem J4 {H:Hp}(h:H t=some (zM r)):Dat H (.ref t) (.tuple [.int r.1,.int r.2.1,.int r.2.2]):=.tup h (.cons (.int _) (.cons (.int _) (.cons (.int _) .nil)))
noncomputable def yR (F:Nat->Pk) (f:Pk->Addr):List V:=[.ref (f (F 0)),.ref (f (F 1)),.ref (f (F 2)),.ref (f (F 3))]
theorem yS {i:Int}(h0:0<=i) (h1:i<4):atI (yR F f) i=some (.ref (f (F i.toNat))):=by
 have:i=0\/i=1\/i=2\/i=3:=()
 rcases this with rfl | rfl | rfl | rfl <;> rfl
theorem Qx {i:Nat}(h:(yR F f)[i]? = some x):i<4/\x = .ref (f (F i)):=by
 match i,h with
 | 0,h=>exact ⟨(),(aI h).symm⟩
 | 1,h=>exact ⟨(),(aI h).symm⟩
 | 2,h=>exact ⟨(),(aI h).symm⟩
 | 3,h=>exact ⟨(),(aI h).symm⟩
 | i+4,h=>cases h
theorem W7 {i:Int}(h0:0<=i) (h1:i<4):ixN 4 i=some i.toNat:=by
 have:i=0\/i=1\/i=2\/i=3:=()
 rcases this with rfl | rfl | rfl | rfl <;> rfl
theorem VP {F:Nat->Pk}{i:Nat}(hi:i<4) (x:Pk):(yR F Pk.sd).set i (.ref x.sd)=yR (λj=>if j=i then x else F j) Pk.sd:=by
 have:i=0\/i=1\/i=2\/i=3:=()
 rcases this with rfl | rfl | rfl | rfl <;> rfl
theorem G3 {F:Nat->Pk}{i:Nat}(hi:i<4) (x:Pk) (h:x.p=(F i).p):yR (λj=>if j=i then x else F j) Pk.p=yR F Pk.p:=by
 have:i=0\/i=1\/i=2\/i=3:=()
 rcases this with rfl | rfl | rfl | rfl <;> (unfold yR;simp only [if_true,if_neg (show ¬(0:Nat)=1 by decide),if_neg (show ¬(0:Nat)=2 by decide),if_neg (show ¬(0:Nat)=3 by decide),if_neg (show ¬(1:Nat)=0 by decide),if_neg (show ¬(1:Nat)=2 by decide),if_neg (show ¬(1:Nat)=3 by decide),if_neg (show ¬(2:Nat)=0 by decide),if_neg (show ¬(2:Nat)=1 by decide),if_neg (show ¬(2:Nat)=3 by decide),if_neg (show ¬(3:Nat)=0 by decide),if_neg (show ¬(3:Nat)=1 by decide),if_neg (show ¬(3:Nat)=2 by decide),h])
theorem PrK.lstO {b:Addr}{x:Pk}{xs:List V}(X:PrK C L b x H) (f:Fr3 (NT b x.p x.g) M H H') (h:H a=some (.lst xs)) (n:a≠b):H' a=some (.lst xs):=by
 refine f.at h (λz=>?_) ↥1
 rcases z with z | z | z
 ·exact n z
 ·exact jg h X.I.ob ↥4 z
 ·obtain ⟨k,q⟩:=X.I.mutK z
  rw [h] at q
  cases q
theorem PrK.sdO {b:Addr}{x:Pk}(X:PrK C L b x H) (Y:PrK C L b y H) (f:Fr3 (NT b x.p x.g) x.c.D H H'):H' y.sd=some (.dK (scK y.c.p y.c.q y.c.sg y.c.gl y.c.ll)):=by
 obtain ⟨ns,a0,r0,c0,d0,hb,_⟩:=X.B
 have nz:¬NT b x.p x.g y.sd:=λz=>by
  rcases z with z | z | z
  ·exact jg Y.S.sd hb ↥4 z
  ·exact jg Y.S.sd X.I.ob ↥4 z
  ·exact Qv X.I X.k Y.S.sd z
 rcases f _ _ Y.S.sd nz with q | ⟨m,_⟩
 ·exact q
 ·exact absurd m (X.S.notD Y.S.sd)
structure G4L (C L b la ls:Addr) (F:Nat->Pk) (n:Nat) (H:Hp):Prop where
 G:G4 C L b F H
 hla:H la=some (.lst (yR F Pk.p))
 hls:H ls=some (.lst (yR F Pk.sd))
 ab:la≠b
 sb:ls≠b
 k:∀i,i<4->(F i).c.sk.length<=n/\∀x∈(F i).c.lds,x.2.length<=n
theorem xn:FnScope ["_law_script","_law_box_here","_law_scene_here","_law_other","_law_ice","_law_ices","_law_scenes","_law_turn","_law_at","_law_year_here","_law_one","_law_held","_law_lane","_law_ground_here"] ["_law_script"] (ja vM):=by walk_at "s"
theorem WP (nb:Nb2 mg) (cl_Ice:Cls K C) (e_Ice:mg "Ice" = some (.ref C)) (t_Ice:∀{H:Hp} {p dx:Addr} {fs:List (Str×V)},H p=some (.ins C dx fs)->TyOf K H (.ref p) (.ref C)) (k_Ice:aG K (.ref C) (.ref C)=some true)
  (c_law_box:Cal P w K mg base 1 "_law_box" ["_law_script"] (Vn K)) (c_law_take:Cal P w K mg base 2 "_law_take" ["_law_box_here","_law_size"] xG) (c_law_scene:Cal P w K mg base 5 "_law_scene" ["_law_box_here"] ZT) (c_law_made:Cal P w K mg base 10 "_law_made" ["_law_scene_here"] (VG C Pt))
  (c_law_year:Cal P w K mg base 3 "_law_year" ["_law_box_here"] JU) (c_law_row:Cal P w K mg base 1 "_law_row" ["_law_scene_here","_law_year_here"] VR) (c_law_alike:Cal P w K mg base 6 "_law_alike" ["_law_found","_law_due"] (YG 5)) (c_Ice__twin:CalM P w K mg base 10 C "twin" ["self"] (Vg C Pt)) (c_Ice__weather:CalMX P w K mg base 2 C "weather" ["self","year"] (kA C CY)) (c_Ice__length:CalMX P w K mg base 2 C "length" ["self","lane"] (Jb C CN)) (c_Ice__height:CalMX P w K mg base 3 C "height" ["self","lane","place"] (Jj C CN CP))
  (c_law_ice_stands:Cal P w K mg base 7 "_law_ice_stands" ["_law_ice","_law_scene_here"] (wf C)) (c_law_ice_turn:Cal P w K mg base 7 "_law_ice_turn" ["_law_box_here","_law_ice","_law_scene_here"] (kI C))
  (F:Fun K "law" "law" vM f fd):FnOk P w K mg base CX0 11 f fd ["_law_script"] (Z6 K Pt):=by
 refine F.ok xn ↥12 ↥0
 ·obtain ⟨a,ns,rfl,_⟩:=h
  rfl
 ·obtain ⟨a,ns,rfl,hS,h63,hPt,k⟩:=h
  have T0:qw H Pt:=.inl hPt
  refine ⟨_,(j8 (jA 1 xn.nd (je c_law_box (hr.mono ⋯) rfl ↥29))
   (j8 (jA 2 xn.nd (je c_law_scene (hr.mono ⋯) rfl ↥71))
   (j8 (jA 3 xn.nd (je c_law_scene (hr.mono ⋯) rfl ↥71))
   (j8 (jA 4 xn.nd (je c_law_made (hr.mono ⋯) rfl ↥89))
   (j8 (vT (i:=5) xn.nd rfl (ib rfl) (jD (j2 (pv 4) (j2 (Ju (pv 4) cl_Ice c_Ice__twin (hr.mono ⋯)) (j2 (je c_law_made (hr.mono ⋯) rfl (j2 (pv 3) j5)) j5)))))
   (j8 (jU (vm K bR bN bO qL (pv 5) (j2 (Ju (jj (jf K) (pv 5) j6 (λ_ _=>rfl)) cl_Ice c_Ice__twin (hr.mono ⋯)) j5)))
   (zQ (jA 6 xn.nd (jD (j2 (pv 2) (j2 (pv 2) (j2 (pv 3) ↥89)))))
   (zQ (xk bC rfl (qI rfl nb.b_range (j2 (jv qr j6 (je c_law_take (hr.mono ⋯) rfl (j2 (pv 1) (j2 j6 j5)))) j5)) (jm (i:=7) xn.nd rfl (bf rfl)) (j8 (vT (i:=8) xn.nd rfl (ib rfl) (je c_law_take (hr.mono ⋯) rfl (j2 (pv 1) (j2 j6 j5))))
   (j8 (vR (je c_law_ice_turn (hr.mono ⋯) rfl (j2 (pv 1) (j2 (jj (jf K) (pv 5) (pv 8) (λ_ _=>rfl)) (j2 (jj (jf K) (pv 6) (pv 8) (λ_ _=>rfl)) j5)))) (kK (pv 6) (pv 8) vf))
   (j8 (jF (jr JO (jj (jf K) (pv 6) (pv 8) (λ_ _=>rfl)) vn (jB _)) (jb (jk vO)) jo)
   (j8 (jA 9 xn.nd (je c_law_year (hr.mono ⋯) rfl ↥71))
   (jb (xk bC rfl (Yo K rfl nb.b_zip (j2 (pv 5) (j2 (pv 6) j5))) (xQ (n:=2) K rfl (jO (jm (i:=10) xn.nd rfl (bf rfl)) (jO (jm (i:=11) xn.nd rfl (bf rfl)) xD))) (jb (jF (PW.pt (ZP (qt (qU (je c_law_ice_stands (hr.mono ⋯) rfl (j2 (pv 10) (j2 (pv 11) j5))))) (Qp (qt (qU (je c_law_alike (hr.mono ⋯) rfl (j2 (zf (pv 10) cl_Ice c_Ice__weather (hr.mono ⋯) vk (j2 (pv 9) j5)) (j2 (je c_law_row (hr.mono ⋯) rfl (j2 (pv 11) (j2 (pv 9) j5))) j5)))))))) (jb (jk vO)) jo)))))))))
   (j8 (xk bC rfl (vx K (jx (j2 j6 (j2 j6 (j2 j6 (j2 j6 j5)))))) (jm (i:=8) xn.nd rfl (ib rfl)) (jb (xk bC rfl (wO K rfl nb.b_enumerate (j2 (jy (jE hr) (jj (jf K) (pv 6) (pv 8) (λ_ _=>rfl)) jc (λ_ _=>rfl)) j5)) (xQ (n:=2) K rfl (jO (jm (i:=12) xn.nd rfl (ib rfl)) (jO (jm (i:=13) xn.nd rfl (bf rfl)) xD))) (j8 (jF (qt (qU (je c_law_alike (hr.mono ⋯) rfl (j2 (zf (jj (jf K) (pv 5) (pv 8) (λ_ _=>rfl)) cl_Ice c_Ice__length (hr.mono ⋯) vk (j2 (pv 12) j5)) (j2 (jd (ji K) rfl nb.b_len aR (j2 (pv 13) j5)) j5))))) (jb (jk vO)) jo)
   (jb (jF (qt (qU (je c_law_alike (hr.mono ⋯) rfl (j2 (jX (osc:=(ja vM)) (ON:=["_law_script","_law_box_here","_law_scene_here","_law_other","_law_ice","_law_ices","_law_scenes","_law_turn","_law_at","_law_year_here","_law_one","_law_held","_law_lane","_law_ground_here"]) (N:=["_law_place","_law_lane","_law_ices","_law_at"]) (own:=1) (caps:=[12,5,8]) ⟨rfl,∅,∅,∅,rfl,∅⟩ rfl rfl rfl (qI rfl nb.b_range (j2 (jd (ji K) rfl nb.b_len aR (j2 (pv 13) j5)) j5)) (λ_ _ _ _ _=>(jm (i:=0) (show b8 (["_law_place","_law_lane","_law_ices","_law_at"]:List Str) by decide +kernel) rfl (bf rfl))) ↥24 (λ_ _ _ _ _=>(zf (jj (jf K) (pv 2) (pv 3) (λ_ _=>rfl)) cl_Ice c_Ice__height (hr.mono ⋯) vk (j2 (pv 1) ↥29)))) (j2 (pv 13) j5))))) (jb (jk vO)) jo))))))
   (jb (jk (jd (Q3 K) rfl nb.b_isinstance aQ (j2 (jj (jf K) (pv 5) j6 (λ_ _=>rfl)) (j2 (jM (v:=V.ref _) rfl e_Ice rfl) j5)))))))))))))),?_⟩
  left
  refine ⟨a,ns,rfl,hS,λL b H1 hb B1 s1=>?_⟩
  have T1:=T0.same s1
  left
  refine ⟨L,b,rfl,B1,λsd H2 c B2 X2 S2 O k1 k2=>?_⟩
  have T2:=Y5 B1 X2 T1
  left
  refine ⟨L,b,rfl,B2,λsd' H3 c' B3 X3 S3' O' k1' k2'=>?_⟩
  have T3:=Y5 B2 X3 T2
  have S3:=S2.ext O B2 X3
  left
  refine ⟨sd,b,c,rfl,S3,O,T3,λp H4 g I4 F4 R4 T4 er et es ek el ld ny nd=>?_⟩
  have P0:Pr C L b sd p c g H4:=Pr.start (Lw.start S3 O B3 T3 I4 F4 R4) ⟨er,et,es,ek,el,ld,ny,nd⟩
  have S4':=S3'.frO T3 R4 (S3.notD S3'.sd)
  have m0:=F4.mut
  have n0':∀a,xv g a->¬c'.D a:=λa m z=>by
   obtain ⟨o,q⟩:=S3'.inD z
   rw [m0 a m] at q
   cases q
  clear I4 R4 F4 er et es ek el ld ny nd S2 B2 T2 X2 T1 T0 X3 S3
  have eg:=O.gr.good O.l1 O.l8
  have egr:gr c.ts=true:=by
   have:=O.t1
   have:=O.t2
   unfold gr
   rw [decide_eq_true (),O.tg]
   rfl
  have t2:=O.t2
  have l8:=O.l8
  have hldl:=O.ldl
  have hw6:c.ws.length<=6:=by rw [O.ro.length];exact O.gr.heads
  have tw:∀{g:IceG},Lk c g->zm g.rs=true/\gr g.rows=true/\(∀r∈g.rs,r.2.length<=100)/\g.rs.length<=60/\g.rows.length<=1000/\g.lds.length<=100:=λ{g} kk=>⟨by rw [kk.rs];exact eg,by rw [kk.rows];exact egr,by rw [kk.rs];exact λr hr=>aE (wM O.gr r hr) ⋯,by rw [kk.rs];omega,by rw [kk.rows];omega,by rw [kk.ll];omega⟩
  left
  refine ⟨p,g.dx,_,rfl,P0.I.ob,qa ∅,?_⟩
  left
  obtain ⟨w1,w2,w3,w4,w5,w6⟩:=tw P0.k
  refine ⟨p,g,rfl,P0.I,w1,w2,w3,w4,w5,w6,T4,λp1 H5 g1 I5 F5 X5 T5 e1 e2 e3 e4 e5 e6 ny nd=>?_⟩
  have kk1:=ZM P0.k O e1 e2 e3 e4 e5 e6 ny nd
  have f5:Fr3 (λa=>a=Pt) (λ_=>False) H4 H5:=λa o h n=>.inl (X5 a o h n)
  have B5:=jG.frO P0.B T4 f5
  have P1:Pr C L b sd p1 c g1 H5:=Pr.start ⟨B5,P0.S.frO T4 f5 id,I5,O,F5,P0.B,P0.S⟩ kk1
  have m1:=F5.mut
  have n1':∀a,xv g1 a->¬c'.D a:=λa m z=>by
   obtain ⟨o,q⟩:=S4'.inD z
   rw [m1 a m] at q
   cases q
  have A10:Ap ⟨sd,p1,c,g1⟩ ⟨sd,p,c,g⟩:=Ap.new (C:=C) (L:=L) (b:=b) (H:=H4) P0 F5.p m1
  have A01:Ap ⟨sd,p,c,g⟩ ⟨sd,p1,c,g1⟩:=Ap.old (C:=C) (L:=L) (b:=b) (H:=H4) P0 F5.p m1 λa m=>(P0.ad a m).2
  have P0:=P0.tbl T4 f5 id (λ_ _=>id)
  have S5':=S4'.frO T4 f5 id
  clear I5 F5 X5 e1 e2 e3 e4 e5 e6 ny nd T4 S4' f5 w1 w2 w3 w4 w5 w6
  left
  refine ⟨sd',b,c',rfl,S5',O',T5,λp2 H6 g2 I6 F6 R6 T6 er et es ek el ld ny nd=>?_⟩
  have P2:Pr C L b sd' p2 c' g2 H6:=Pr.start (Lw.start S5' O' B5 T5 I6 F6 R6) ⟨er,et,es,ek,el,ld,ny,nd⟩
  have m2:=F6.mut
  have n2:∀a,xv g2 a->¬c.D a:=λa m z=>by
   obtain ⟨o,q⟩:=P1.S.inD z
   rw [m2 a m] at q
   cases q
  have A20:Ap ⟨sd',p2,c',g2⟩ ⟨sd,p,c,g⟩:=Ap.new (C:=C) (L:=L) (b:=b) (H:=H5) P0 F6.p m2
  have A02:Ap ⟨sd,p,c,g⟩ ⟨sd',p2,c',g2⟩:=Ap.old (C:=C) (L:=L) (b:=b) (H:=H5) P0 F6.p m2 n0'
  have A21:Ap ⟨sd',p2,c',g2⟩ ⟨sd,p1,c,g1⟩:=Ap.new (C:=C) (L:=L) (b:=b) (H:=H5) P1 F6.p m2
  have A12:Ap ⟨sd,p1,c,g1⟩ ⟨sd',p2,c',g2⟩:=Ap.old (C:=C) (L:=L) (b:=b) (H:=H5) P1 F6.p m2 n1'
  have P0:=P0.tbl T5 R6 (S5'.notD P0.S.sd) n0'
  have P1:=P1.tbl T5 R6 (S5'.notD P1.S.sd) n1'
  clear I6 F6 R6 er et es ek el ld ny nd T5 S5' B5
  left
  refine ⟨by show 3<=sizeLine;decide,λla H7 hla hla7 s7=>?_⟩
  have lab:la≠b:=P0.B.ne hla
  have P0:=P0.same s7
  have P1:=P1.same s7
  have P2:=P2.same s7
  have T7:=T6.same s7
  clear T6 s7
  left
  refine ⟨.inl ⟨rfl,_,SqL.of hla7⟩,?_⟩
  left
  refine ⟨p1,g1.dx,_,rfl,P1.I.ob,qa ∅,?_⟩
  left
  obtain ⟨w1,w2,w3,w4,w5,w6⟩:=tw P1.k
  refine ⟨p1,g1,rfl,P1.I,w1,w2,w3,w4,w5,w6,T7,λp3 H8 g3 I8 F8 X8 T8 e1 e2 e3 e4 e5 e6 ny nd=>?_⟩
  have kk3:=ZM P1.k O e1 e2 e3 e4 e5 e6 ny nd
  have f8:Fr3 (λa=>a=Pt) (λ_=>False) H7 H8:=λa o h n=>.inl (X8 a o h n)
  have P3:Pr C L b sd p3 c g3 H8:=Pr.start ⟨jG.frO P1.B T7 f8,P1.S.frO T7 f8 id,I8,O,F8,P1.B,P1.S⟩ kk3
  have m3:=F8.mut
  have A30:Ap ⟨sd,p3,c,g3⟩ ⟨sd,p,c,g⟩:=Ap.new (C:=C) (L:=L) (b:=b) (H:=H7) P0 F8.p m3
  have A31:Ap ⟨sd,p3,c,g3⟩ ⟨sd,p1,c,g1⟩:=Ap.new (C:=C) (L:=L) (b:=b) (H:=H7) P1 F8.p m3
  have A32:Ap ⟨sd,p3,c,g3⟩ ⟨sd',p2,c',g2⟩:=Ap.new (C:=C) (L:=L) (b:=b) (H:=H7) P2 F8.p m3
  have A03:Ap ⟨sd,p,c,g⟩ ⟨sd,p3,c,g3⟩:=Ap.old (C:=C) (L:=L) (b:=b) (H:=H7) P0 F8.p m3 λa m=>(P0.ad a m).2
  have A13:Ap ⟨sd,p1,c,g1⟩ ⟨sd,p3,c,g3⟩:=Ap.old (C:=C) (L:=L) (b:=b) (H:=H7) P1 F8.p m3 λa m=>(P1.ad a m).2
  have A23:Ap ⟨sd',p2,c',g2⟩ ⟨sd,p3,c,g3⟩:=Ap.old (C:=C) (L:=L) (b:=b) (H:=H7) P2 F8.p m3 n2
  have P0:=P0.tbl T7 f8 id (λ_ _=>id)
  have P1:=P1.tbl T7 f8 id (λ_ _=>id)
  have P2:=P2.tbl T7 f8 id (λ_ _=>id)
  have hla8:H8 la=some (.lst [.ref p,.ref p1,.ref p2]):=by
   obtain ⟨_,q⟩:=T7.ne
   exact X8 _ _ hla7 (jg hla7 q ↥4)
  clear I8 F8 X8 e1 e2 e3 e4 e5 e6 ny nd T7 f8 w1 w2 w3 w4 w5 w6 T8 m0 m1 m2 m3 n0' n1' n2 hla7 hla tw
  refine ⟨la,_,.ref p3,rfl,rfl,hla8,jh (by show 3<=1000;decide),?_⟩
  have G8:G4 C L b (λi=>match i with | 0=>⟨sd,p,c,g⟩ | 1=>⟨sd,p1,c,g1⟩ | 2=>⟨sd',p2,c',g2⟩ | _=>⟨sd,p3,c,g3⟩) H8:=by
   refine ⟨λi hi=>?_,λi j hi hj hn=>?_⟩
   ·match i,hi with
    | 0,_=>exact P0
    | 1,_=>exact P1
    | 2,_=>exact P2
    | 3,_=>exact P3
   ·match i,j,hi,hj,hn with
    | 0,0,_,_,hn=>exact absurd rfl hn
    | 0,1,_,_,_=>exact A01
    | 0,2,_,_,_=>exact A02
    | 0,3,_,_,_=>exact A03
    | 1,0,_,_,_=>exact A10
    | 1,1,_,_,hn=>exact absurd rfl hn
    | 1,2,_,_,_=>exact A12
    | 1,3,_,_,_=>exact A13
    | 2,0,_,_,_=>exact A20
    | 2,1,_,_,_=>exact A21
    | 2,2,_,_,hn=>exact absurd rfl hn
    | 2,3,_,_,_=>exact A23
    | 3,0,_,_,_=>exact A30
    | 3,1,_,_,_=>exact A31
    | 3,2,_,_,_=>exact A32
    | 3,3,_,_,hn=>exact absurd rfl hn
  have nD:∀i,i<4->¬((λi=>match i with | 0=>⟨sd,p,c,g⟩ | 1=>⟨sd,p1,c,g1⟩ | 2=>⟨sd',p2,c',g2⟩ | _=>⟨sd,p3,c,g3⟩:Nat->Pk) i).c.D p:=λi hi z=>by
   obtain ⟨k,r | ⟨o,r⟩⟩:=(G8.P i hi).S.rdD z
   ·rw [P0.I.ob] at r
    cases r
   ·rw [P0.I.ob] at r
    cases r
  have nM:∀i,i<4->¬xv ((λi=>match i with | 0=>⟨sd,p,c,g⟩ | 1=>⟨sd,p1,c,g1⟩ | 2=>⟨sd',p2,c',g2⟩ | _=>⟨sd,p3,c,g3⟩:Nat->Pk) i).g p:=λi hi z=>by
   obtain ⟨k,r⟩:=(G8.P i hi).I.mutK z
   rw [P0.I.ob] at r
   cases r
  have G9:=G8.put (H':=upd H8 la (.lst ([.ref p,.ref p1,.ref p2]++[.ref p3]))) hla8 (λxs z=>by rw [P0.I.ob] at z;cases z) (λxs z=>by rw [P0.I.ob] at z;cases z) (λi hi=>⟨nD i hi,nM i hi⟩) Ext.put
  clear nD nM
  have hla9:(upd H8 la (.lst ([.ref p,.ref p1,.ref p2]++[.ref p3]))) la=some (.lst [.ref p,.ref p1,.ref p2,.ref p3]):=j7
  clear A01 A02 A03 A10 A12 A13 A20 A21 A23 A30 A31 A32 G8 P0 P1 P2 P3 hla8
  generalize upd H8 la (.lst ([.ref p,.ref p1,.ref p2]++[.ref p3]))=H9 at *
  left
  refine ⟨λσ H10=>∃(F:Nat->Pk) (ls:Addr),σ=[some (.ref a),some (.ref b),some (.ref sd),some (.ref sd'),some (.ref p),some (.ref la),some (.ref ls),none,none,none,none,none,none,none]/\G4L C L b la ls F 10 H10,?_,?_⟩
  ·left
   refine ⟨by show 4<=sizeLine;decide,λls H10 hls hls10 s10=>?_⟩
   refine ⟨_,ls,rfl,G9.same s10,s10 _ _ hla9,hls10,lab,(G9.P 0 ⋯).B.ne hls,λi hi=>?_⟩
   match i,hi with
   | 0,_=>exact ⟨k1,k2⟩
   | 1,_=>exact ⟨k1,k2⟩
   | 2,_=>exact ⟨k1',k2'⟩
   | 3,_=>exact ⟨k1,k2⟩
  clear G9 hla9 k1 k2 k1' k2' O O' eg egr t2 l8 hldl hw6
  rintro σ H10 ⟨F,ls,rfl,G10⟩
  refine ⟨λσ H11=>∃(F:Nat->Pk) (v7 v8 v9 v10 v11:Option V),σ=[some (.ref a),some (.ref b),some (.ref sd),some (.ref sd'),some (.ref p),some (.ref la),some (.ref ls),v7,v8,v9,v10,v11,none,none]/\G4L C L b la ls F 40 H11,?_,?_⟩
  ·left
   refine ⟨L,b,_,rfl,(G10.G.P 0 ⋯).B,⟨⋯,⋯⟩,λv1 H11 v10 v11 B11 X11=>?_⟩
   have G11:G4L C L b la ls F 10 H11:=⟨G10.G.box B11 X11,X11 _ _ G10.hla G10.ab,X11 _ _ G10.hls G10.sb,G10.ab,G10.sb,G10.k⟩
   clear G10 B11 X11
   left
   refine ⟨(),(),?_⟩
   refine yn (λi σ H4=>∃(F:Nat->Pk) (v7 v8 v9 v10 v11:Option V),σ=[some (.ref a),some (.ref b),some (.ref sd),some (.ref sd'),some (.ref p),some (.ref la),some (.ref ls),v7,v8,v9,v10,v11,none,none]/\G4L C L b la ls F (10+i) H4) ?_ ?_ ?_
   ·exact ⟨F,_,_,_,_,_,rfl,G11⟩
   ·clear G11 F
    rintro i σ H4 hi ⟨F,v7,v8,v9,v10',v11',rfl,G4'⟩
    have hi18:i<18:=()
    left
    refine ⟨L,b,_,rfl,(G4'.G.P 0 ⋯).B,⟨⋯,⋯⟩,λat' H5 at0 at1 B5 X5=>?_⟩
    have G5:G4L C L b la ls F (10+i) H5:=⟨G4'.G.box B5 X5,X5 _ _ G4'.hla G4'.ab,X5 _ _ G4'.hls G4'.sb,G4'.ab,G4'.sb,G4'.k⟩
    clear G4' B5 X5
    have hn:at'.toNat<4:=()
    have PX:=G5.G.P at'.toNat hn
    obtain ⟨k1,k2⟩:=G5.k at'.toNat hn
    have O:=PX.O
    have hw1:1<=(F at'.toNat).c.ws.length:=by
     rw [O.ro.length]
     exact Jf (qp O.gr.ok) O.l1
    have hw6:(F at'.toNat).c.ws.length<=6:=by rw [O.ro.length];exact O.gr.heads
    left
    refine ⟨_,_,_,_,rfl,rfl,SqL.of G5.hla,yS at0 at1,?_⟩
    left
    refine ⟨_,_,_,_,rfl,rfl,SqL.of G5.hls,yS at0 at1,?_⟩
    left
    refine ⟨L,b,(F at'.toNat).sd,(F at'.toNat).p,(F at'.toNat).c,(F at'.toNat).g,10+i,rfl,PX,hw1,hw6,(),k1,k2,λs2 c2 g2 H6 P6 _ _ k1' k2' hm f6 hD=>?_⟩
    have G6:=G5.G.turn hn P6 hm f6 hD
    have hla6:=PrK.lstO PX f6 G5.hla G5.ab
    have hls6:=PrK.lstO PX f6 G5.hls G5.sb
    have h06:=PrK.sdO PX (G5.G.P 0 ⋯) f6
    left
    refine ⟨ls,_,at',at'.toNat,rfl,rfl,hls6,W7 at0 at1,?_⟩
    have G7:G4L C L b la ls (λj=>if j=at'.toNat then ⟨s2,(F at'.toNat).p,c2,g2⟩ else F j) (10+(i+1)) (upd H6 ls (.lst ((yR F Pk.sd).set at'.toNat (.ref s2)))):=by
     refine ⟨G6.put hls6 (λxs z=>by rw [h06] at z;cases z) (λxs z=>by rw [h06] at z;cases z) (λj hj=>⟨(G6.P j hj).S.notD h06,Qv (G6.P j hj).I (G6.P j hj).k h06⟩) Ext.put,?_,?_,G5.ab,G5.sb,λj hj=>?_⟩
     ·rw [G3 hn ⟨s2,(F at'.toNat).p,c2,g2⟩ rfl,j9 λz=>?_]
      ·exact hla6
      ·rw [z,hls6] at hla6
       have e:=(eN (HO.lst.inj (aI hla6))).1
       have e:(F 0).sd=(F 0).p:=V.ref.inj e
       have h1:=(G5.G.P 0 ⋯).S.sd
       have h2:=(G5.G.P 0 ⋯).I.ob
       rw [e,h2] at h1
       cases h1
     ·rw [j7]
      exact congrArg (λl=>some (HO.lst l)) (VP hn ⟨s2,(F at'.toNat).p,c2,g2⟩)
     ·show (if j=at'.toNat then _ else _:Pk).c.sk.length<=_/\∀x∈(if j=at'.toNat then _ else _:Pk).c.lds,_
      by_cases e:j=at'.toNat
      ·rw [if_pos e]
       exact ⟨k1',k2'⟩
      ·rw [if_neg e]
       obtain ⟨q1,q2⟩:=G5.k j hj
       exact ⟨(),λx hx=>by have:=q2 x hx;omega⟩
    have hs2:(upd H6 ls (.lst ((yR F Pk.sd).set at'.toNat (.ref s2)))) ls=some (.lst ((yR F Pk.sd).set at'.toNat (.ref s2))):=j7
    have ea:atI ((yR F Pk.sd).set at'.toNat (.ref s2)) at'=some (.ref s2):=by
     have:at'=0\/at'=1\/at'=2\/at'=3:=()
     rcases this with rfl | rfl | rfl | rfl <;> rfl
    generalize (λj=>if j=at'.toNat then (⟨s2,(F at'.toNat).p,c2,g2⟩:Pk) else F j)=F' at *
    generalize upd H6 ls (.lst ((yR F Pk.sd).set at'.toNat (.ref s2)))=H7 at *
    clear G6 h06 hla6 hls6 f6 P6 hm hD PX G5 k1 k2 O hw1 hw6 k1' k2'
    left
    refine ⟨_,_,_,_,rfl,rfl,SqL.of hs2,ea,?_⟩
    clear hs2 ea
    left
    refine ⟨L,b,rfl,(G7.G.P 0 ⋯).B,λy H8 y0 y1 B8 X8=>?_⟩
    have G8:G4L C L b la ls F' (10+(i+1)) H8:=⟨G7.G.box B8 X8,X8 _ _ G7.hla G7.ab,X8 _ _ G7.hls G7.sb,G7.ab,G7.sb,G7.k⟩
    clear G7 B8 X8
    left
    refine ⟨false,false,_,_,rfl,⟨_,SqL.of G8.hla⟩,⟨_,SqL.of G8.hls⟩,?_⟩
    refine U9 (K:=K) (t0:=false) (u0:=false) (a:=la) (b:=ls) (xs:=yR F' Pk.p) (ys:=yR F' Pk.sd) rfl (λj σ H9=>∃v10 v11:Option V,σ=[some (.ref a),some (.ref b),some (.ref sd),some (.ref sd'),some (.ref p),some (.ref la),some (.ref ls),some (.int (0+(i:Int))),some (.int at'),some (.int y),v10,v11,none,none]/\jn H8 H9) ?_ ?_ ?_ ?_
    ·exact ⟨_,_,rfl,jn.refl _⟩
    ·rintro j σ H9 hj ⟨v10,v11,rfl,s9⟩
     exact ⟨SqL.of (s9 _ _ G8.hla),SqL.of (s9 _ _ G8.hls)⟩
    ·rintro j x x' σ H9 tp hx hx' ⟨v10,v11,rfl,s9⟩ htp
     obtain ⟨hj,rfl⟩:=Qx hx
     obtain ⟨_,rfl⟩:=Qx hx'
     have s10:=s9.trans (jn.new (o:=.tup [.ref (F' j).p,.ref (F' j).sd]) htp)
     left
     refine ⟨tp,_,rfl,SqT.of j7,rfl,?_⟩
     refine ⟨_,_,rfl,_,_,rfl,rfl,?_⟩
     generalize upd H9 tp (.tup [.ref (F' j).p,.ref (F' j).sd])=H10 at *
     have PJ:=(G8.G.P j hj).same s10
     have kk:=PJ.k
     have t1:=PJ.O.t1
     have t2:=PJ.O.t2
     left
     refine ⟨b,(F' j).p,(F' j).sd,(F' j).c,(F' j).g,rfl,PJ.I,PJ.S,PJ.O,kk,λH11 s11=>?_⟩
     have PJ:=PJ.same s11
     obtain ⟨wr,hwr⟩:=QU.of PJ.S.sk
     have hrows:(F' j).g.rows=(F' j).c.ts:=kk.rows
     left
     refine ⟨(F' j).p,(F' j).g.dx,_,rfl,PJ.I.ob,qa ∅,?_⟩
     left
     refine ⟨(F' j).p,(F' j).g,y,(F' j).c.sk,wr,rfl,PJ.I,kk.kv,hwr,by rw [hrows];exact t1,by rw [hrows];omega,(λ_ _ t ht=>?_),(λhb=>absurd hb ())⟩
     left
     refine ⟨(F' j).sd,(F' j).c,y,wr,rfl,PJ.S,hwr,t1,(),λt' ht'=>?_⟩
     rw [hrows] at ht
     left
     refine ⟨_,_,_,rfl,J4 ht,J4 ht',rfl,λH12 s12=>?_⟩
     left
     exact ⟨_,_,rfl,s10.trans (s11.trans s12)⟩
    ·rintro σ H9 ⟨v10,v11,rfl,s9⟩
     exact ⟨F',_,_,_,_,_,rfl,G8.G.same s9,s9 _ _ G8.hla,s9 _ _ G8.hls,G8.ab,G8.sb,G8.k⟩
   ·rintro σ H9 ⟨F,v7,v8,v9,v10',v11',rfl,G9⟩
    exact ⟨F,_,_,_,_,_,rfl,G9.G,G9.hla,G9.hls,G9.ab,G9.sb,λj hj=>by
     obtain ⟨q1,q2⟩:=G9.k j hj
     exact ⟨(),λx hx=>by have:=q2 x hx;omega⟩⟩
  ·clear G10 F
   rintro σ H11 ⟨F,v7,v8,v9,v10,v11,rfl,G11⟩
   left
   refine ⟨by show 4<=sizeLine;decide,λt4 H12 ht4 ht44 s12=>?_⟩
   have G12:=G11.G.same s12
   have la12:=s12 _ _ G11.hla
   have ls12:=s12 _ _ G11.hls
   clear G11
   left
   refine ⟨⟨_,SqT.of ht44⟩,?_⟩
   refine Yl (K:=K) (a:=t4) (xs:=[.int 3,.int 2,.int 0,.int 3]) (λm σ H13=>∃v8 v12 v13:Option V,σ=[some (.ref a),some (.ref b),some (.ref sd),some (.ref sd'),some (.ref p),some (.ref la),some (.ref ls),v7,v8,v9,v10,v11,v12,v13]/\jn H12 H13) ?_ ?_ ?_ ?_
   ·exact ⟨_,_,_,rfl,jn.refl _⟩
   ·rintro m σ H13 hm ⟨v8,v12,v13,rfl,s13⟩
    exact SqT.of (s13 _ _ ht44)
   ·rintro m v σ H13 hv ⟨v8,v12,v13,rfl,s13⟩
    obtain ⟨at',rfl,at0,at1⟩:∃at':Int,v = .int at'/\0<=at'/\at'<4:=by
     match m,hv with
     | 0,hv=>exact ⟨_,(aI hv).symm,⋯,⋯⟩
     | 1,hv=>exact ⟨_,(aI hv).symm,⋯,⋯⟩
     | 2,hv=>exact ⟨_,(aI hv).symm,⋯,⋯⟩
     | 3,hv=>exact ⟨_,(aI hv).symm,⋯,⋯⟩
     | m+4,hv=>cases hv
    clear hv
    have hn:at'.toNat<4:=()
    have PX:=G12.P at'.toNat hn
    generalize hF:F at'.toNat=X at *
    have hzl:X.c.zs.length=X.c.ws.length:=(aZ PX.S.gi).trans (af _)
    have hsl:X.g.slopes.length=X.c.ws.length:=by rw [PX.k.sl,af]
    have ela:atI (yR F Pk.p) at'=some (.ref X.p):=by rw [yS at0 at1,hF]
    have els:atI (yR F Pk.sd) at'=some (.ref X.sd):=by rw [yS at0 at1,hF]
    have O:=PX.O
    left
    refine ⟨_,_,_,_,rfl,rfl,SqL.of (s13 _ _ ls12),els,?_⟩
    left
    refine ⟨X.sd,.ref X.c.gl,rfl,by rw [<- yC X.c.p X.c.q X.c.sg X.c.gl X.c.ll];exact qc.k (k:=.inr "grounds") (s13 _ _ PX.S.sd),?_⟩
    left
    refine ⟨⟨_,SqL.of (s13 _ _ PX.S.gl)⟩,?_⟩
    refine kU (K:=K) (a:=X.c.gl) (xs:=X.c.zs) (λj σ H14=>∃v12 v13:Option V,σ=[some (.ref a),some (.ref b),some (.ref sd),some (.ref sd'),some (.ref p),some (.ref la),some (.ref ls),v7,some (.int at'),v9,v10,v11,v12,v13]/\jn H12 H14) ?_ ?_ ?_ ?_
    ·exact ⟨_,_,rfl,s13⟩
    ·rintro j σ H14 hj ⟨v12,v13,rfl,s14⟩
     exact SqL.of (s14 _ _ PX.S.gl)
    ·rintro j v σ H14 t hv ⟨v12,v13,rfl,s14⟩ ht
     obtain ⟨gw,hgw,ga,rfl,hga⟩:=Paired.get PX.S.gi hv
     have hj:=(List.getElem?_eq_some_iff.mp hv).1
     rw [aq] at hgw
     obtain ⟨wy,hwy,rfl⟩:=Option.map_eq_some_iff.mp hgw
     have hmw:=ar hwy
     have g30:=(wg (O.gr.good O.l1 O.l8)).2.2.2 X.c.ws O.ro wy hmw
     have egs:X.g.slopes.getD j []=jp X.c.rs wy:=by rw [PX.k.sl,ao,aq,hwy];rfl
     have s15:=s14.trans (jn.new (o:=.tup [.int j,.ref ga]) ht)
     left
     refine ⟨t,_,rfl,SqT.of j7,rfl,?_⟩
     refine ⟨_,_,rfl,_,_,rfl,rfl,?_⟩
     generalize upd H14 t (.tup [.int j,.ref ga])=H15 at *
     left
     refine ⟨_,_,_,_,rfl,rfl,SqL.of (s15 _ _ la12),ela,?_⟩
     left
     refine ⟨X.p,X.g.dx,_,rfl,s15 _ _ PX.I.ob,qa ∅,?_⟩
     left
     refine ⟨X.p,X.g,(j:Int),rfl,PX.I.same s15,λ_ _=>?_,λhb=>absurd hb ()⟩
     rw [bz,egs]
     generalize hgd:jp X.c.rs wy=gd at *
     left
     refine ⟨ga,_,rfl,.inl (SqL.of (s15 _ _ hga)),?_⟩
     rw [af]
     left
     refine ⟨_,_,.int _,rfl,.int _,.int _,rfl,λH16 s16=>?_⟩
     have s16':=s15.trans s16
     left
     refine ⟨ga,_,rfl,.inl (SqL.of (s16' _ _ hga)),?_⟩
     rw [af]
     refine ⟨(gd.length:Int),rfl,(),(),λacc hacc=>?_⟩
     refine xi (lo:=0) (n:=((gd.length:Int)).toNat) (acc:=acc) (λq σ H17=>∃x:Option V,σ=[x,some (.int (j:Int)),some (.ref la),some (.int at')]/\H17 acc=some (.lst ((gd.take q).map V.int))/\Ext acc H16 H17) ?_ ?_ ?_
     ·exact ⟨none,rfl,j7,Ext.put⟩
     ·rintro q σ H17 hq ⟨x,rfl,h17,e17⟩
      have hq':q<gd.length:=()
      have s17:jn H12 H17:=λc o hc=>e17 _ _ (s16' _ _ hc) (j4 (s16' _ _ hc) hacc)
      left
      refine ⟨_,_,_,_,rfl,rfl,SqL.of (s17 _ _ la12),ela,?_⟩
      left
      refine ⟨X.p,X.g.dx,_,rfl,s17 _ _ PX.I.ob,qa ∅,?_⟩
      left
      refine ⟨X.p,X.g,(j:Int),0+(q:Int),rfl,PX.I.same s17,λ_ _ _ _=>?_,(λhb=>absurd hb ()),λ_ _ hb=>absurd hb (by rw [bz,egs];omega)⟩
      rw [bz,egs,show (0+(q:Int)).toNat=q by omega]
      refine ⟨_,h17,by rw [af,b0];exact jh (),_,rfl,?_,e17.trans Ext.put⟩
      rw [j7,bL,ag hq',aF,ao,ag hq']
      rfl
     ·rintro σ H17 ⟨x,rfl,h17,e17⟩
      have s17:jn H12 H17:=λc o hc=>e17 _ _ (s16' _ _ hc) (j4 (s16' _ _ hc) hacc)
      rw [bz,bc] at h17
      left
      refine ⟨_,_,.list (gd.map om),rfl,.lst h17 (DatL.ints _),.lst (s17 _ _ hga) (DatL.ints _),zt (by rw [af];omega) kL,λH18 s18=>?_⟩
      left
      exact ⟨_,_,rfl,s17.trans s18⟩
    ·rintro σ H14 ⟨v12,v13,rfl,s14⟩
     exact ⟨_,_,_,rfl,s14⟩
   ·rintro σ H13 ⟨v8,v12,v13,rfl,s13⟩
    left
    refine ⟨_,_,_,_,rfl,rfl,SqL.of (s13 _ _ la12),yS (i:=1) ⋯ ⋯,?_⟩
    left
    refine ⟨_,_,_,_,rfl,t_Ice (s13 _ _ (G12.P 1 ⋯).I.ob),k_Ice,?_⟩
    exact k H13
end
local macro_rules | `(tactic| walk_at "1")=>`(tactic| exact fun _ _ _ _ _ _ _ hl=>bnd1 hl fun _=>rfl)
local macro_rules | `(tactic| walk_at "2")=>`(tactic| exact fun _ _ _ _ _ _ _ hl=>bnd2 hl fun _ _=>rfl)
local macro_rules | `(tactic| walk_at "3")=>`(tactic| exact fun _ _ _ _ _ _ _ hl=>bnd3 hl fun _ _ _=>rfl)
local macro_rules | `(tactic| walk_at "4")=>`(tactic| exact fun _ _ _ _ _ _ _ hl=>bnd4 hl fun _ _ _ _=>rfl)
local macro_rules | `(tactic| walk_at "5")=>`(tactic| exact fun _ _ _ _ _ _ _ hl=>bnd5 hl fun _ _ _ _ _=>rfl)
local macro_rules | `(tactic| walk_at "6")=>`(tactic| exact fun _ _ _ _ _ _ _ hl=>bnd6 hl fun _ _ _ _ _ _=>rfl)
theorem Wk {l:rn}{K:ah}(X:K.In h) (G:h.Ns mainGlobals mg) (hfa:mg "law" = some (.ref fa))
  
  {C0:Addr}
  {C1:Addr}
  {C2:Addr}
  {C3:Addr}
  {C4:Addr}
  {C5:Addr}
  {C6:Addr}
  {C7:Addr}
  {C8:Addr}
  {C9:Addr}
  {C10:Addr}
  {C11:Addr}
  {C12:Addr}
  {C13:Addr}
  {C14:Addr}
  {C15:Addr}
  
  {C17:Addr}
  
  
  
  
  
  
  
  
  
  
  
  (aCI:aU K mainGlobals "Ice" = some (some (.ref CI))) (pgI:ff K CI Str.empty=true) (hdI:fT K CI=true) (poI:lq K CI=true) (saI:bG K (.ref CI) "__setattr__" = some (some (.builtin "object.__setattr__"))) (mkI:mm K CI=true) (kcI:bK K (.ref CI)=true)
  (na0:bG K (.ref CI) "valley" = some none)
  (na1:bG K (.ref CI) "cycle" = some none)
  (na2:bG K (.ref CI) "slopes" = some none)
  (na3:bG K (.ref CI) "years" = some none)
  (na4:bG K (.ref CI) "leaps" = some none)
  (a1:gN K "leads_on" vY)
  (a2:gN K "is_reach" yy)
  (a3:gN K "way_down" ub)
  (a4:aU K mainGlobals "lanes" = some (some (.ref f4))) (l4:K.lookup f4=some ⟨oc4,od4,.func (bE "lanes" "lanes" (qh qY) (jQ qY) (ja qY) .none kV4 dc4 pm4 an4 (.ref cL) ct4),sl4⟩) (c4:cz K (.ref cL) "lanes" = true) (k4:bK K (.ref f4)=true) (hdL:PySem.W.codeHdIn K cL 262=true)
  (a5:gN K "way_of" kB)
  (a6:gN K "count_places" xC)
  (a7:gN K "fits" Qh)
  (a8:gN K "is_valley" zN)
  (a9:gN K "heights" vw)
  (a10:gN K "is_weather" yr)
  (a11:gN K "is_round" yE)
  (a12:gN K "check_round" ya)
  (a13:gN K "check_told" yx)
  (a14:gM K CI "__init__" "Ice.__init__" qN)
  (a15:gM K CI "reaches" "Ice.reaches" zL)
  (a16:gM K CI "rows" "Ice.rows" ve)
  (a17:gM K CI "many" "Ice.many" vc)
  (a18:gM K CI "check_lane" "Ice.check_lane" xB)
  (a19:gM K CI "tell" "Ice.tell" yX)
  (a20:gM K CI "plain" "Ice.plain" yA)
  (a21:gM K CI "surge" "Ice.surge" yD)
  (a22:gM K CI "calm" "Ice.calm" vp)
  (a23:gM K CI "turn" "Ice.turn" vj)
  (a24:gM K CI "told" "Ice.told" zR)
  (a25:gM K CI "surges" "Ice.surges" xS)
  (a26:gN K "check_asked" y6)
  (a27:gM K CI "sky" "Ice.sky" vS)
  (a28:gM K CI "weather" "Ice.weather" zJ)
  (a29:gM K CI "length" "Ice.length" y8)
  (a30:gM K CI "check_place" "Ice.check_place" xj)
  (a31:gM K CI "height" "Ice.height" y9)
  (a32:gM K CI "twin" "Ice.twin" zP)
  (a33:gN K "_law_box" uY)
  (a34:gN K "_law_mixed" vg)
  (a35:gN K "_law_take" vX)
  (a36:gN K "_law_whole" yV)
  (a37:gN K "_law_alike" xZ)
  (a43:gN K "_law_odd" uL)
  (a44:gN K "_law_weather" yb)
  (a45:gN K "_law_round" zY)
  (a46:gN K "_law_ground_drawn" qx)
  (a47:gN K "_law_reaches" xf)
  (a48:gN K "_law_roads" xY)
  (a49:gN K "_law_ground" yt)
  (a50:gN K "_law_year" ua)
  (a51:gN K "_law_scene" zc)
  (a52:gN K "_law_made" vZ)
  (a53:gN K "_law_row" uU)
  (a54:gN K "_law_bent_row" zu)
  (a55:gN K "_law_good_row" zC)
  (a56:gN K "_law_kinds" xp)
  (a57:gN K "_law_ice_deed" qK)
  (a58:gN K "_law_ice_due" xU)
  (a59:gN K "_law_scene_copy" qX)
  (a60:gN K "_law_ice_step" zI)
  (a61:gN K "_law_ice_do" yu)
  (a62:gN K "_law_ice_turn" zB)
  (a63:gN K "_law_ice_stands" qJ)
  (a64:aU K mainGlobals "law" = some (some (.ref f64))) (l64:K.lookup f64=some ⟨oc64,od64,.func (bE "law" "law" (qh vM) (jQ vM) (ja vM) .none kV64 dc64 pm64 an64 cd64 ct64),sl64⟩) (c64:cz K cd64 "law" = true) (k64:bK K (.ref f64)=true)
  (ec0:gE K "BadValley" C0)
  (ec1:gE K "BadRound" C1)
  (ec2:gE K "BadWeather" C2)
  (ec3:gE K "BadYear" C3)
  (ec4:gE K "BadSurge" C4)
  (ec5:gE K "BadRock" C5)
  (ec6:gE K "BadName" C6)
  (ec7:gE K "BadHand" C7)
  (ec8:gE K "BadDeed" C8)
  (ec9:gE K "NoLane" C9)
  (ec10:gE K "NoPlace" C10)
  (ec11:gE K "NoName" C11)
  (ec12:gE K "NotTold" C12)
  (ec13:gE K "NothingThere" C13)
  (ec14:gE K "Taken" C14)
  (ec15:gE K "Full" C15)
  (ec16:aU K mainGlobals "BadPage" = some (some (.ref C16)))
  (ec17:gE K "FirnError" C17)
  (mm117:cc K (.ref C1) (.ref C17)=some true)
  (mm217:cc K (.ref C2) (.ref C17)=some true)
  (mm317:cc K (.ref C3) (.ref C17)=some true)
  (mm417:cc K (.ref C4) (.ref C17)=some true)
  (mm917:cc K (.ref C9) (.ref C17)=some true)
  (mm1217:cc K (.ref C12) (.ref C17)=some true)
  (kR:KindK K [C0,C1,C2,C3,C4,C5,C6,C7,C8,C9,C10,C11,C12,C13,C14,C15,C16] C1 1)
  (kW:KindK K [C0,C1,C2,C3,C4,C5,C6,C7,C8,C9,C10,C11,C12,C13,C14,C15,C16] C2 2)
  (kY:KindK K [C0,C1,C2,C3,C4,C5,C6,C7,C8,C9,C10,C11,C12,C13,C14,C15,C16] C3 3)
  (kS:KindK K [C0,C1,C2,C3,C4,C5,C6,C7,C8,C9,C10,C11,C12,C13,C14,C15,C16] C4 4)
  (kN:KindK K [C0,C1,C2,C3,C4,C5,C6,C7,C8,C9,C10,C11,C12,C13,C14,C15,C16] C9 9)
  (kO:KindK K [C0,C1,C2,C3,C4,C5,C6,C7,C8,C9,C10,C11,C12,C13,C14,C15,C16] C12 12)
  (tc1:bG K (.ref CI) "__class__" = some (some ↥55))
  (tc2:oF K ↥55 "__get__" = some (some (.builtin "getset_descriptor.__get__")))
  (tc3:rh K ↥55=some true)
  (tc4:sD K CI (.type "object")=some true)
  (kII:aG K (.ref CI) (.ref CI)=some true)
  (z0:aU K mainGlobals "len" = some none)
  (z1:aU K mainGlobals "range" = some none)
  (z2:aU K mainGlobals "isinstance" = some none)
  (z3:aU K mainGlobals "int" = some none)
  (z4:aU K mainGlobals "bool" = some none)
  (z5:aU K mainGlobals "str" = some none)
  (z6:aU K mainGlobals "list" = some none)
  (z7:aU K mainGlobals "tuple" = some none)
  (z8:aU K mainGlobals "min" = some none)
  (z9:aU K mainGlobals "max" = some none)
  (z10:aU K mainGlobals "all" = some none)
  (z11:aU K mainGlobals "zip" = some none)
  (z12:aU K mainGlobals "enumerate" = some none)
  (z13:aU K mainGlobals "sorted" = some none)
  (z14:aU K mainGlobals "sum" = some none)
  (z15:aU K mainGlobals "dict" = some none)
  (q0:aU K mainGlobals "MOST_REACHES" = some (some (.int 8 u0)))
  (q1:aU K mainGlobals "MOST_HEIGHTS" = some (some (.int 12 u1)))
  (q2:aU K mainGlobals "GREATEST_HEIGHT" = some (some (.int 99 u2)))
  (q3:aU K mainGlobals "MOST_LANES" = some (some (.int 6 u3)))
  (q4:aU K mainGlobals "LONGEST_LANE" = some (some (.int 30 u4)))
  (q5:aU K mainGlobals "HIGHEST_LINE" = some (some (.int 100 u5)))
  (q6:aU K mainGlobals "MOST_HANDS" = some (some (.int 9 u6)))
  (q7:aU K mainGlobals "MOST_ROWS" = some (some (.int 12 u7)))
  (q8:aU K mainGlobals "LAST_TOLD" = some (some (.int 99 u8)))
  (q9:aU K mainGlobals "LAST_ASKED" = some (some (.int 10000000000000000000000000000000000000000 u9)))
  (q10:aU K mainGlobals "GREATEST_SURGE" = some (some (.int 9 u10)))
  : ∃fd:FuncData,(∀(s:Shared) (v:ak),oK s fd ⟨[v],[]⟩ [("_law_script",v)])/\∀base:Heap,K.In base->base.Ns mainGlobals mg->Bm mg base->FnOk l.prog w K mg base CX0 11 fa fd ["_law_script"] (Z6 K 262):=by
 have e:=hfa.symm.trans (aN X G a64)
 cases e
 have nb:Nb2 mg:={ b_len:=bq X G z0,b_range:=bq X G z1,b_isinstance:=bq X G z2,b_int:=bq X G z3,b_bool:=bq X G z4,b_str:=bq X G z5,b_list:=bq X G z6,b_tuple:=bq X G z7,b_min:=bq X G z8,b_max:=bq X G z9,b_all:=bq X G z10,b_zip:=bq X G z11,b_enumerate:=bq X G z12,b_sorted:=bq X G z13,b_sum:=bq X G z14 }
 have b_dict:=bq X G z15
 have g_MOST_REACHES:=aN X G q0
 have g_MOST_HEIGHTS:=aN X G q1
 have g_GREATEST_HEIGHT:=aN X G q2
 have g_MOST_LANES:=aN X G q3
 have g_LONGEST_LANE:=aN X G q4
 have g_HIGHEST_LINE:=aN X G q5
 have g_MOST_HANDS:=aN X G q6
 have g_MOST_ROWS:=aN X G q7
 have g_LAST_TOLD:=aN X G q8
 have g_LAST_ASKED:=aN X G q9
 have g_GREATEST_SURGE:=aN X G q10
 have e_BadValley:=aN X G ec0.e
 have x_BadValley:=ec0.x
 have e_BadRound:=aN X G ec1.e
 have x_BadRound:=ec1.x
 have e_BadWeather:=aN X G ec2.e
 have x_BadWeather:=ec2.x
 have e_BadYear:=aN X G ec3.e
 have x_BadYear:=ec3.x
 have e_BadSurge:=aN X G ec4.e
 have x_BadSurge:=ec4.x
 have e_BadRock:=aN X G ec5.e
 have e_BadName:=aN X G ec6.e
 have e_BadHand:=aN X G ec7.e
 have e_BadDeed:=aN X G ec8.e
 have e_NoLane:=aN X G ec9.e
 have x_NoLane:=ec9.x
 have e_NoPlace:=aN X G ec10.e
 have x_NoPlace:=ec10.x
 have e_NoName:=aN X G ec11.e
 have e_NotTold:=aN X G ec12.e
 have x_NotTold:=ec12.x
 have e_NothingThere:=aN X G ec13.e
 have e_Taken:=aN X G ec14.e
 have e_Full:=aN X G ec15.e
 have e_BadPage:=aN X G ec16
 have e_FirnError:=aN X G ec17.e
 have cl_Ice:Cls K CI:=⟨pgI,hdI,poI,saI⟩
 have T_Ice:IceC K CI:=⟨cl_Ice,na0,na1,na2,na3,na4⟩
 refine ⟨bE "law" "law" (qh vM) (jQ vM) (ja vM) .none kV64 dc64 pm64 an64 cd64 ct64,λs v=>.of_eq rfl,λbase hKb _ hBm=>?_⟩
 have CH:=PySem.W.codeHd_of_K hKb hdL
 have z:Zt l.prog w K mg base:=⟨X,G⟩
 have c_leads_on:=a1.cal z ↥27 (QH)
 have c_is_reach:=a2.cal z ↥27 (QQ nb g_MOST_HEIGHTS g_GREATEST_HEIGHT c_leads_on)
 have c_way_down:=a3.cal z ↥27 (QD nb)
 have c_lanes:Cal l.prog w K mg base 5 "lanes" ["reaches"] (uB K 262):=Cal.mkC (st:=qY) X G a4 l4 c4 k4 ↥43 (VU nb c_way_down CH hBm l4 c4)
 have c_way_of:=a5.calX z ↥27 (YB nb e_NoLane x_NoLane c_lanes)
 have c_count_places:=a6.cal z ↥27 (wz nb)
 have c_fits:=a7.cal z ↥27 (Ux nb g_MOST_LANES g_LONGEST_LANE c_count_places)
 have c_is_valley:=a8.cal z ↥43 (Qf nb g_MOST_REACHES c_is_reach c_lanes c_fits)
 have c_heights:=a9.calX z ↥27 (Zl nb c_way_of)
 have c_is_weather:=a10.cal z ↥43 (gA g_HIGHEST_LINE g_MOST_HANDS)
 have c_is_round:=a11.cal z ↥43 (XR nb.toNb g_MOST_ROWS c_is_weather)
 have c_check_round:=a12.calX z ↥43 (hX nb e_BadRound x_BadRound c_is_round)
 have c_check_told:=a13.calX z ↥43 (gP g_LAST_TOLD e_BadYear x_BadYear)
 have c_Ice:=a14.mak z mkI kcI aCI (by walk_at "3") (uZ nb T_Ice e_BadValley x_BadValley c_is_valley c_check_round c_lanes c_heights.cal)
 have c_Ice__reaches:=a15.cal z ↥43 (wI nb T_Ice)
 have c_Ice__rows:=a16.cal z ↥43 (JZ nb T_Ice)
 have c_Ice__many:=a17.cal z ↥43 (Q0 nb T_Ice)
 have c_Ice__check_lane:=a18.calX z ↥27 (vW nb T_Ice e_NoLane x_NoLane)
 have c_Ice__tell:=a19.calX z (by walk_at "3") (Qc nb T_Ice e_BadWeather x_BadWeather c_check_told c_is_weather)
 have c_Ice__plain:=a20.calX z ↥27 (gU nb T_Ice e_NotTold x_NotTold c_check_told)
 have c_Ice__surge:=a21.calX z (by walk_at "4") (gL nb T_Ice cl_Ice g_GREATEST_SURGE e_BadSurge x_BadSurge c_Ice__check_lane c_check_told)
 have c_Ice__calm:=a22.calX z (by walk_at "3") (JN nb T_Ice cl_Ice e_NotTold x_NotTold c_Ice__check_lane c_check_told)
 have c_Ice__turn:=a23.calX z ↥27 (JJ nb T_Ice c_check_round)
 have c_Ice__told:=a24.cal z ↥43 (Qo nb T_Ice)
 have c_Ice__surges:=a25.calX z ↥27 (gv nb T_Ice cl_Ice c_Ice__check_lane)
 have c_check_asked:=a26.calX z ↥43 (hU g_LAST_ASKED e_BadYear x_BadYear)
 have c_Ice__sky:=a27.cal z ↥27 (QR nb T_Ice)
 have c_Ice__weather:=a28.calX z ↥27 (wB cl_Ice c_Ice__sky c_check_asked)
 have c_Ice__length:=a29.calX z ↥27 (hV nb T_Ice cl_Ice c_Ice__check_lane)
 have c_Ice__check_place:=a30.calX z (by walk_at "3") (vH nb T_Ice e_NoPlace x_NoPlace cl_Ice c_Ice__check_lane)
 have c_Ice__height:=a31.calX z (by walk_at "3") (kC nb T_Ice cl_Ice c_Ice__check_place)
 have c_Ice__twin:=a32.cal z ↥43 (Qd nb b_dict T_Ice cl_Ice c_Ice)
 have c_law_box:=a33.cal z ↥43 (Wv nb.toNb)
 have c_law_mixed:=a34.cal z ↥27 (VI)
 have c_law_take:=a35.cal z ↥27 (UB nb.toNb c_law_mixed)
 have c_law_whole:=a36.cal z ↥43 (Vo nb)
 have c_law_alike:=a37.cal z ↥27 (YE)
 have c_law_alike:=a37.cal z ↥27 (yi 0 nb c_law_whole c_law_alike)
 have c_law_alike:=a37.cal z ↥27 (yi 1 nb c_law_whole c_law_alike)
 have c_law_alike:=a37.cal z ↥27 (yi 2 nb c_law_whole c_law_alike)
 have c_law_alike:=a37.cal z ↥27 (yi 3 nb c_law_whole c_law_alike)
 have c_law_alike:=a37.cal z ↥27 (yi 4 nb c_law_whole c_law_alike)
 have c_law_odd:=a43.cal z ↥43 (WB c_law_take)
 have c_law_weather:=a44.cal z ↥43 (ZF c_law_take)
 have c_law_round:=a45.cal z ↥43 (U1 nb.toNb c_law_take c_law_weather)
 have c_law_ground_drawn:=a46.cal z (by walk_at "3") (wH nb c_law_take)
 have c_law_reaches:=a47.cal z ↥43 (XX nb c_law_take c_law_ground_drawn)
 have c_law_roads:=a48.cal z ↥43 (Ua nb)
 have c_law_ground:=a49.cal z ↥27 (YT)
 have c_law_year:=a50.cal z ↥43 (UL c_law_take)
 have c_law_scene:=a51.cal z ↥43 (Vi nb c_law_take c_law_reaches c_law_round c_law_ground c_law_roads c_law_year c_law_weather)
 have c_law_made:=a52.cal z ↥43 (W1 nb cl_Ice c_Ice c_Ice__tell c_Ice__surge)
 have c_law_row:=a53.cal z ↥27 (Wi nb)
 have c_law_bent_row:=a54.cal z ↥27 (Qw nb c_law_take c_law_odd)
 have c_law_good_row:=a55.cal z ↥43 (XG)
 have c_law_kinds:=a56.calH z ↥43 (Vr (Cs:=[C0,C1,C2,C3,C4,C5,C6,C7,C8,C9,C10,C11,C12,C13,C14,C15,C16]) nb e_BadValley e_BadRound e_BadWeather e_BadYear e_BadSurge e_BadRock e_BadName e_BadHand e_BadDeed e_NoLane e_NoPlace e_NoName e_NotTold e_NothingThere e_Taken e_Full e_BadPage)
 have c_law_ice_deed:=a57.cal z ↥27 (Xc nb c_law_take c_law_odd c_law_year c_law_weather c_law_round c_law_bent_row)
 have c_law_ice_due:=a58.cal z ↥27 (ZD nb c_law_good_row)
 have c_law_scene_copy:=a59.cal z ↥43 (UG nb b_dict)
 have c_law_ice_step:=a60.cal z ↥27 (Xd nb c_law_scene_copy)
 have c_law_ice_do:=a61.cal z ↥27 (YL nb cl_Ice e_FirnError mm117 mm217 mm317 mm417 mm917 mm1217 kR kW kY kS kN kO c_Ice__turn c_Ice__tell c_Ice__plain c_Ice__surge c_Ice__calm c_law_kinds)
 have c_law_ice_turn:=a62.cal z (by walk_at "3") (XE nb c_law_ice_deed c_law_ice_due c_law_ice_do c_law_alike c_law_ice_step)
 have c_law_ice_stands:=a63.cal z ↥27 (gR nb cl_Ice c_law_alike c_Ice__reaches c_Ice__rows c_Ice__many c_Ice__told c_Ice__surges)
 exact WP nb cl_Ice (aN X G aCI) (λe=>.ins e cl_Ice tc1 tc2 tc3 tc4) kII c_law_box c_law_take c_law_scene c_law_made c_law_year c_law_row c_law_alike c_Ice__twin c_Ice__weather c_Ice__length c_Ice__height c_law_ice_stands c_law_ice_turn (vt (st:=vM) l64 c64 k64)
end K10
end
open PySem PySem.W PyProof.Rows
set_option maxRecDepth 100000 in
set_option maxHeartbeats 0 in
theorem PySem.Challenge.cw_firnfall_k10_whole_glaciers_side_by_side_holds : PySem.Challenge.rw_firnfall_k10_whole_glaciers_side_by_side.Holds := by
 w_on
 refine holds_law HO.ws λsaid=>?_
 refine holds_open (q:=HO.view) (loose:=HO.loose) (N:=12000) (Xt:=HO.xt) (XP:=XL HO.view [])
  (Yf:=Hook.obs (pC HO.frag.heap_1 HO.asL HO.asE [262])) (Ya:=Hook.val (pC HO.frag.heap_1 HO.asL HO.asE [262])) (YP:=Hook.says (pC HO.frag.heap_1 HO.asL HO.asE [262]))
  HO.left (Hook.of (pC HO.frag.heap_1 HO.asL HO.asE [262])) (Hook.keeps (pC HO.frag.heap_1 HO.asL HO.asE [262]))
  (λs e=>xl_of s (Bool.and_eq_true_iff.mp e).1) XL.keeps rfl rfl rfl
  (λs e=>recFacts_of (Bool.and_eq_true_iff.mp e).2) rfl
  (by first | assumption | decide +kernel) ↥49 ⟨rfl,rfl,rfl,rfl,rfl,by decide +kernel⟩ ?hw ?hc
 (case hw=>w_witness2)
 k_fill
 refine L2.UY (l:=PySem.Challenge.rw_firnfall_k10_whole_glaciers_side_by_side) 11 264 262 ⟨rfl,⋯,⋯⟩ rfl rfl (λw h Y=>⟨PySem.W.km_in_of Y,PySem.W.km_tabs_of Y 262 (by simp)⟩) (λ_=>by kernel_rfl) (λ_=>by kernel_rfl) ?F
 case F =>
  intro w mg fa h KX G hmg
  refine' K10.Wk KX G hmg ..
  all_goals try first | refine' L2.gN.mk ?_ ?_ ?_ ?_ | refine' L2.gM.mk ?_ ?_ ?_ ?_ ?_ | refine' L2.gE.mk ?_ ?_ ?_ | refine' K10.KindK.mk ⟨?_,?_,?_,?_,?_,?_,?_,?_⟩ ?_ ?_ ?_ ?_ ?_ ?_ ?_ ?_ ?_ ?_ ?_ ?_ ?_ ?_ ?_ ?_ ?_
  all_goals try show _=_
  all_goals try k_is
  all_goals kernel_rfl
