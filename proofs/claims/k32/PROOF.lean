import PyProof.Rows.All
import Wide.All
import OpenK.AllK
import Wide.FinOn
import Lean
import PyProof.EqAt
import PyProof.EqKinds
import PyProof.TupleCall
import PyProof.NeKinds
import PyProof.Rows.SumAny
import PyProof.Rows.Range3
import PyProof.AutoIntG2
import KE.KRevIter
import KE.KSortTup
import PyProof.Rows.StrWeight2
import PyProof.StrCalls
import PyProof.Rows.RuleN_abs
import PyProof.JoinWalk
import PyProof.Rows.StrDigits
import PyProof.StrBlock
import PyProof.StrBlockL
import PyProof.ZipIter
import PyProof.ListRange
import PyProof.ListIndex
import KE.KIntText
import PyProof.Rows.StrNews
import PyProof.StrCalls3
import PyProof.Rows.StrSplit
import PyProof.StrLawsTight
import PyProof.StrWalks
import PyProof.ConsumeWalk
import PyProof.SliceStr2
import PyProof.AttrMiss
import PyProof.FactsAll.zip
import KE.KDictOf
import PyProof.CollectWalk
import PyProof.ListNew
import KE.IntTextText
import PyProof.ExcInit
import PyProof.StrOps2
import PySem.Challenge.RW_sketchbounds_k32_words_at_fault
set_option compiler.extract_closed false
abbrev Q1:List PySem.Str:=["self","thing","weight"]
abbrev Q2:List PySem.Str:=["self","room"]
abbrev Q3:List PySem.Str:=["_law_cell"]
abbrev Q10:List PySem.Str:=["thing"]
abbrev Q11:List PySem.Str:=["one","other"]
abbrev Q12:List PySem.Str:=["word","line"]
abbrev Q13:List PySem.Str:=["words","line"]
abbrev Q14:List PySem.Str:=["window"]
abbrev Q15:List PySem.Str:=["self","many"]
abbrev Q16:List PySem.Str:=["things","rungs"]
abbrev Q17:List PySem.Str:=["self","stands_for"]
abbrev Q18:List PySem.Str:=["self","room","reach"]
abbrev Q19:List PySem.Str:=["self","room","reach","span"]
abbrev Q20:List PySem.Str:=["_law_cell","_law_factor","_law_prime"]
abbrev Q21:List PySem.Str:=["_law_keepsake","_law_row"]
abbrev Q22:List PySem.Str:=["room","reach","span"]
abbrev Q23:List PySem.Str:=["balance","words","line"]
set_option linter.defProp false
open List renaming length_map->aC,length_append->bB,mem_cons_of_mem->cB,mem_cons_self->bV,getElem?_eq_some_iff->fu,length_cons->bh,size_toArray->bH,mem_cons->aO,map_append->bG,getElem?_eq_getElem->eU,mem_singleton->cI,mem_append->cF,getElem?_map->dF,append_assoc->dO,length_take->d8,map_cons->cP,cons_ne_nil->eZ,mem_map->cX,not_mem_nil->gB,pairwise_cons->iG,getElem?_append_left->tK,map_map->fj,getElem?_append_right->xr,replicate->gY,append_nil->iH,length_set->iI,mem_append_right->tL,sum_cons->gG,nodup_cons->iR,take_add_one->mL,mem_of_mem_take->tM,mem_or_eq_of_mem_set->z9,take_length->nJ,filterMap_cons->wA,map_congr_left->wB,flatMap_cons->tO,length_reverse->xu,length_replicate->Df,length_filter_le->Dg,length_eq_zero_iff->Ji,drop_eq_getElem_cons->Mp,getElem?_set_ne->Dh,take_of_length_le->Jj,map_reverse->xG,map_take->iT,filter_append->uK,nil_append->nM,mem_filter->nO,cons_append->qU,filter_cons->qW,mem_reverse->qX,length->gZ,length_drop->uL,flatMap_append->Ax,mem_map_of_mem->FQ,getElem?_set_self->Mq,filter_eq_nil_iff->Mr,exists_cons_of_ne_nil->Vn,range->ju,all_eq_true->Ay,filterMap_map->FT,getElem?_zip_eq_some->Vo,mem_append_left->Ms,mem_of_mem_drop->Mt,find?_cons->Az,nodup_append->FW,filter_cons_of_neg->Vp,getElem?_cons_succ->Vq,map_drop->xH,getElem?_eq_none->Vr,getElem?_reverse->Vs,any_cons->Bb,getD_eq_getElem?_getD->ab7,replicate_succ'->Vt,getElem?_of_mem->Vu,getElem?_eq_none_iff->ab8,nodup_nil->FZ,drop_length->Mu,lookup->xJ,mergeSort_perm->Vv,take_succ_cons->Vw,map_eq_nil_iff->Vx,reverse_append->Vy,length_pos_iff->Vz,getElem?_take_of_lt->ab9,sum_append->Mv,forIn_cons->Mw,pairwise_mergeSort->acd,filter_cons_of_pos->ace,foldl_cons->Mx,drop_of_length_le->acf,range_succ_eq_map->acg,length_filterMap_eq_countP->ah7,mem_range->Mz,drop_zero->MF,map_nil->Ga,pairwise_reverse->ach,mem_flatMap->VB,of_mem_zip->VD,drop_set_of_lt->aci,mem_filterMap->acj,map_replicate->acn,getElem?_replicate->ah8,pairwise_singleton->ah9,getLast?_cons_cons->aia,take_nil->VF,lookup_cons->aco,getElem_mem->acp,length_nil->acq,getElem?_toArray->aib,length_zip->acr,take_append_drop->aic,contains_iff_mem->aie,pairwise_append->aif,mem_of_mem_tail->aii,reverse_reverse->aij,take_zero->acs,filter_eq_self->aik,drop_succ_cons->ail,take_set_of_le->ain,forIn_toArray->aio,take_sublist->aip,reverse_cons->aiq,length_range->air,pairwise_map->ais,all_eq_false->ait,map_set->acu,sum_reverse->aiu,flatMap_map->aiv,take_append->aiw,drop_left->aix,all_cons->aiy,nil_perm->aiz,map_id'->aiA,sum_nil->aiB
open PySem.Str renaming ofString->aD,ofString_eq_toList->aiC,join->VG,empty->acv,length->aiD
open PySem.W renaming Frag->aG,findIn->fD,nsIn->dR,mg_of->fP,mg_none_of->jY,emptyDict->tQ,mroIn->jZ,keepIn->nP,kitOne->qp,kia_one->wC,hideAll_none->xK,looks_findIn->Bc,fnOf->jw,hasDictIn->xM,of_hideAll->Bf,instObj->xO,Looks->uM,specialIn->Gd,plainGet->Ge,typeIn->Bh,callWith_K->MJ,looks_mroIn->VH,tail_of_in->VJ,plainOver->VL,codeIn->MN,handedIn->VN,makesIn->VP,hideAll_get->acw,plainGet_of->acy,looks_clsIn->acz,isFn->MP,lookIn->VR,kitCls->V0,methodObj->acA,clsIn->V2,cellsFrom_some->aiE,takesIn->acB,takerIn->acC,methodCall_KW->aiF,tailIn->acD,nsOkIn->acE,kitAny->acF,InstAt->acG,findObj_own->aiG,kdu_collect->aiH,WalkO->acH,set_plain->aiI,kitx_list->aiJ,kitx_dict->aiK,any_some->aiL,kdl_dict->aiM,readsIn->aiN,findCls->aiO,hideAll->aiP,kitMeta->aiQ,kit_cls->aiR,kIn_of->aqp,KdlSrc->aiS
open PySem renaming wpAny_bind->aA,wpAny_pure->aK,Program->aH,mainGlobals->cu,starEach->aZ,wpAny_mono->dH,Around->aP,wpAny_holding->iU,wpAny_seqItems->qt,wpAny_Call_Name_kw->Aa,sliceBounds->jr,wpAny_field->jt,compareOp->fB,foldedSetIterable->uN,codeAny_builtin->qY,codeAny_call_builtin->Bj,attributeBase->nQ,wpAny_updateSeq->uO,Builtin->dM,plainId_quiet->qZ,wpAny_truthy_bool->Bk,mem_of_lookup->Gg,wpAny_setField_rec->Gh,backTo->cY,wpAny_passesOwn->Bm,bootBuiltins->uP,wpAny_getItem_str_slice->V3,wpAny_call->nR,wpAny_tryCatch->Bq,codeAny->fY,wpAny_execs_nil->Gi,builtinLookup_eq_fast->V4,wpAny_ite_split->Gj,sysModules->rm,wpAny_pyIter_list->M5,wpAny_loadPart_at->M6,wpAny_pyIter_revIter->V5,binaryOp->jx,keywordEach->xP,wpAny_comprehension_free->acI,wpAny_typeOf->Br,importedModules->M7,tupleKind_room_in1->V6,wpAny_specialOf->M8,plainObj_wpAny_Assign_Attribute->aiT,typeLookup->xQ,typeIs_str->xR,wpAny_letGo->Bs,codeAny_mono->Gk,wpAny_call_entry->V7,relabel->jy,checkBuiltinCall->V8,wpAny_pyIter_zip->V9,wpAny_standAt->M9,treeTable->xT,swapsWith->xU,letOwnedTupleGo->Wa,Keyword->lA,noteFrame->xV,argBest->lB,typeLookup_type->Wc,post_val_or_str->Wd,call_reversed_list->acJ,ExcBaseFacts->Nf,assignEach->Gm,slot_list_getitem->acK,wpAny_getItem_list_slice->aiU,call_meets->Gn,wpAny_Call_method->acL,wpAny_newObj_type->acM,behindInMarks->Wf,sizeLine_eq->Ng,backToKw->xW,wpAny_attempt->Wg,wpAny_execs_cons->acN,rawInt->jz,wpAny_Call_method_late->aiV,tupleKind->Gp,Result->lC,updateSeq->Gq,wpAny_nextOf_list_end->aiW,bindArgs->Bu,NameKind->Bv,intItems->Bx,wpAny_rule->Nh,sliceRange->Ni,pyNext->nU,stored->nY,callType_codes->acO,gives_joinTail->acP,evalArgs_none->aiX,length_partsBetween->aiY,excClassObj->Wh,wpAny_isSubtype_exc->aiZ,getMethod->Nj,slicePick->Nm,entryFor->Gs,getattributeRaised->ai0,excClassObj->ai1,call->Wj,holding->BJ,wpAny_assign_Name->ai2,valueAt->BK,callerA->BL,isInstance->Wk,refuseLoop->Wl,Within->acQ,assign->uQ,seqIndex_neg->acR,wpAny_lookBehind->ai3,pastItsLine_dict->ai4,wpAny_isInstance->ai5,callGetattribute->ai6,BindsTo->Gw,seqIndex_of->acS,subscripted->acT,setFlight->Wm,builtinKind->acU,intItems_at->acV,strValues->Wq,am_miss_of_fast->ai7,getAttrBy->Wr,getAttrByItsOwn->ai8,wpAny_Expr_any->ai9,wpAny_loadPart->aja,entryFor_alias->ajb,method_meetsIn->ajc,fastBuiltinMro->ajd,wpAny_setField->aje,wpAny_newTuple->ajf,boundAndCalled->ajg,boot_len->ajh,builtinsNs->acW,wpAny_Name->acX,bltViewBooted->aji,standAt->Np,intBits_le_64->ajj,getAttr->Nq,evalPart_none->ajk,call_list_seq->ajl,wpAny_newList->ajm,frameOf->ajn,compEnvC->Wt,eval_ListComp->ajo,Comprehension->ajp,nums_intItems->ajq,ItemsOf->Nr,code_list_new->ajr,wpAny_onRaise->ajs,Params->Gx,PassesOwn->acY,pyIter->Gy,wpAny_nsSet1->ajt,cellsFrom->acZ,call_meetsIn->aju,DictEntry->ac0,entryPlaceOf->ajv,argsOk->GC,onTheHeap->ac1,wpAny_mkText->ajw,leaving->Wu,getItem->Wv,notedBy->Ww,plainId->Wx,GenState->ac2,isTrue->Nt,callWith->ac3,Thread->Wy,DefRec->Wz,typeOf->WD,Fin->ajx
open PySem.Heap renaming get?_push_of_some->cU,lt_size->aR,get?_push_size->dN,get?_update_other->mO,get?_update_self->qu,size_push->tR,SameBut->rA,get?_none_of_le->WK,get?_update_ne->ajy,get?_push_at->ajz,FlyingW->ac4,IsList->ac5,NotedW->ajA,ExtBut->ajB
open Option.some renaming inj->bN
open Nat renaming le_refl->aJ,lt_of_lt_of_le->dI,le_trans->bQ,ne_of_lt->bR,zero_le->cJ,lt_of_le_of_lt->nZ,le_add_right->j4,le_of_lt->iV,mul_le_mul_right->Dj,lt_irrefl->oh,pow_succ->mQ,lt_or_ge->iz,ne_of_gt->lE,lt_succ_self->xX,lt_trans->oA,mul_assoc->uR,pow_le_pow_right->Nu,strongRecOn->BP,le_succ->rB,eq_zero_or_pos->Nv,sub_self->xY,lt_succ_of_lt->Nx,le_succ_of_le->Ny,digitChar->BR,lt_add_of_pos_right->ac6,zero_add->GD,le_of_eq->GF,le_of_not_lt->WL,add_le_add_left->ac7,mul_add->GJ,min_eq_left->WM,mul_comm->WQ,pow_zero->WR,mul_le_mul->ac8,mul_le_mul_left->ajC,succ_pos->ac9,succ_mul->ada,add_le_add->ajD,repr->WT,sub_zero->ajE,log2_lt->ajF,pow_pos->ajG,not_lt->ajH
open Bool renaming false_ne_true->d9,false_eq_true->Nz,and_false->GP,eq_iff_iff->NP,and_eq_true->adb,or_eq_true->ade,and_eq_true_iff->ajI,or_false->adf,not_eq_true'->ajJ,noConfusion->ajK,false_and->ajL,false_or->ajM,true_and->ajN,or_true->ajO
open PySem.Challenge renaming rw_sketchbounds_k32_words_at_fault->Jk,pw_sketchbounds_k32_words_at_fault->aqq
open Ne renaming symm->aL
open Int renaming le_refl->cQ,mul_le_mul_of_nonneg_right->T7,mul_le_mul_of_nonneg_left->NQ,emod_lt_of_pos->xZ,toNat_of_nonneg->GQ,emod_nonneg->yc,pow_succ->yd,mul_assoc->BW,natAbs_mul->GR,natCast_add->NT,toNat->rC,natCast_pow->WW,fdiv_eq_ediv_of_nonneg->ajP,mul_neg_of_neg_of_pos->ajQ,toNat_natCast->adg,natCast_mul->adh,mul_le_mul->adi,add_mul->WX,mul_right_comm->ajR,natAbs_natCast->ajS,dvd_mul_right->ajT,mul_comm->adk,mul_one->adl,one_mul->adn,mul_add->ado,pow_pos->adp,pow_add->adq,le_antisymm->ajU,mul_nonneg->ajV,add_assoc->ajW,dvd_trans->ajX,add_zero->ajY,ne_of_gt->ajZ,lt_or_le->aj0,le_trans->aj1
open Option renaming map_eq_some_iff->j6,isSome_iff_exists->adt,bind_eq_some_iff->aj2,map_some->adu,map_map->adv,isSome_map->aj3,mem_toList->aj4,getD_none->aj5
open PyProof.Rows renaming callWith_type1->yg,boot_isinstance->NZ,boot_sorted->N5,boot_all->WY,envOfC->fQ,callWith_builtin1->aj6,expectedOf->aj7,plainGoodE->aj8,plainGoodD->aj9,AllBare->rD,IntsAre->rE,subscriptTail->W4,subscriptTail_builtinR->akb,boot_list->akc,boot_int->akd,boot_sum->ake,drecsOf->akf,boot_reversed->adw,entry_list_sort->akg,slot_list_sort->akh,sortedHeap_old->aki,Subscript_->adx,size_push'->ady,Constant_bool->akj,sortedHeap_at->akk,boot_dict->aqr,boot_bool->aqs,floordiv_int->akl,seqObj->GZ,plain_sorted->akm,entry_sorted->akn,boot_abs->aqt,boot_str->aqu,tail_any->adz,boot_zip->adA,SortSt->W5
open PySem.Txt renaming join->bZ,contains->uU,split->lF,startswith->G9,slice_le->W7,slice->N6,zfill->W8
open PySem.Builtin.List renaming listExtendWith->Ab,listItems->N7,listSameRef->W9,listLengthHint->adB,listTooLong->adC,listUpdate->ako,listTouch->aqv
open PySem.F renaming plainAttrs_str->wD,slot_str_join->Jl,type_str_join->Hf,plainAttrs_list->N8,slot_str_split->Xa,type_str_split->Xb,slot_list_extend->adD,type_list_extend->adE,plainAttrs_dict->adF,slot_dict_get->adG,excBase_ValueError->akp,slot_dict_values->akq,slot_list_append->akr,type_list_append->aks,args_dict_get_3->akt,slot_dict_items->aku,plain_list_iadd->akv,entry_dict_get->akx
open Array renaming length_toList->tU,getElem?_eq_some_iff->Oa,getElem?_toList->Hg,toList_append->Hh,toList_inj->Hi,toArray_toList->Xc,getElem?_eq_getElem->adH,size_append->adI,getElem?_eq_none->aky,size_replicate->akz,find?_toList->akA,toList->akB
open False renaming elim->gH
open PySem.Builtin.SmallTypes renaming nextOf->Ob,ownedTupleIsFree->Xd,ownedTupleHandOut->akC
open PySem.Around renaming under_plainId->Dk,under->adJ
open PySem.Calls renaming spliced_cons->uV,spliced_nil->yh,callWith_builtin->adK,evalArgs_plain->adL,Name_function_global->akD
open PySem.Obj renaming mapSeq->gq,mapFields->Hj,data_mapFields->akE
open PySem.W.Looks renaming here->Hl,ld->akF
open Char renaming toNat->oE
open PySem.Builtin.Str renaming glued->Xe,strKind->akG,occurrences->aqw,strSliceIndices->aqx,tooLong->aqy,padded->aqz
open PySem.Builtin.ObjectAttr renaming storeInDict->akH,find->akI,newKeyGuard->aqA,getOf->aqB
open Prod renaming ext->rF
open List.cons renaming inj->Oc
open PySem.Code renaming quiet_builtin->adM,isFrame->adN,frames->akJ
open PySem.Builtin.Dict renaming updateFrom->akK,addKeywords->aqC,selfAndRest->aqD,pairItems->aqE
open PySem.Heap.IsList renaming push->adO
open PySem.SeqAt.EqAt renaming same->adP,int_str->akL,str_int->akM,of_refs->akN,none_bool->aqF,bool_none->aqG,bool_bool->aqH,none_int->aqI,none_str->aqJ,bool_int->aqK,bool_str->aqL,int_none->aqM,int_bool->aqN,str_none->aqO,str_bool->aqP,int_int->aqQ,str_str->aqR
open PySem.PassesOwn renaming never->adQ
open Classical renaming choose_spec->akO,choose->akP,byContradiction->aqS
open PySem.SeqAt renaming EqAt->Od
open PySem.EntryCells renaming newEntry->akQ
open PySem.W.Fast renaming te9446332074065402090->aqT
open PySem.Paired renaming length->adR,snoc->akR
open PySem.Heap.IsSliceOf renaming new->akS
open List.Nodup renaming sublist->akT
open List.Perm renaming cons_inv->akU,eq_of_pairwise->aqU,append_left->aqV,refl->aqW
open PySem.W.KF renaming slot_gs->akV,owner_class->aqX,entry_class->aqY,type_class->aqZ,entry_gs->aq0,args_gs->aq1
open PySem.AutoSeq1 renaming list_extend_list_list_0->aq2
open PySem.Heap.Ns1 renaming of_empty->akW
open PySem.SeqAt.RcAt renaming tuples->akX,lists->akY,lists_lengths->aq3
open List.Sublist renaming map->akZ
open Eq renaming trans->Oe
open PySem.Heap.DictOf renaming new->ak0
open PySem.Builtin.Builtins renaming bindParams->aq4
open PySem.Shared renaming heap->adS
open PySem.EqNone renaming eq_none_none->aq5,eq_none_bool->aq6,eq_bool_none->aq7,ne_none_none->aq8,ne_none_bool->aq9,ne_bool_none->ara,eq_none_int->arb,eq_none_str->ard,eq_int_none->arf,eq_str_none->arh,ne_none_int->ari,ne_none_str->arj,ne_int_none->ark,ne_str_none->arl
open PySem.EqMixed renaming eq_bool_str->arn,eq_str_bool->aro,ne_bool_str->arp,ne_str_bool->arq,eq_int_str->ars,eq_str_int->aru,ne_int_str->arv,ne_str_int->arw
open PySem.Bind renaming checkArgs->ak1
open PySem.Walks renaming list->adT
open PySem.Value renaming isStrOf->ak2,isInt->ak3
open PySem.Builtin.Range renaming rangeSize->arx
open PySem.W.KIN renaming call_text->arz
open Nat.succ renaming inj->ak4
open PySem.Heap.UpToSlots renaming trans->arA,ns->arB
open Sum.inl renaming inj->ak5
open PySem.SeqAt.RcNeAt renaming tuples->arC,lists->arD
open PySem.SC renaming startswith->arE,zfill->arF
open PySem.Heap.SameBut renaming update->arG
open PySem.Within renaming cons->arH
open PySem.DictEntry renaming refKey->arI
open PySem.IsL renaming update->arJ
open PySem.Value.ref renaming inj->arK
set_option hygiene false
local macro_rules | `(term| tb_g%) => `(by first | decide +kernel | lia | exact hr.mono (by decide) | exact alN hr | exact of_decide_eq_true rfl)
local macro_rules | `(tactic| k_dat ($x0,$x1,$x2:ident) "a") => `(tactic| (refine ⟨$x0:term,$x1:term $x2:ident (fun vs H Q E h=>?_) (fun cdv B outer s H vs Q E hr h=>?_)⟩))
local macro_rules | `(tactic| walk_at "b") => `(tactic| (have btB:=fun (p:Addr) (J:Hp) (n:H1 p=none) (s:Same H1 J)=>bt.imp (S:=But p J) fun _ b=>eN (s0.trans s) (s0.free n) b))
local macro_rules | `(tactic| walk_at "d") => `(tactic| (refine .inl ⟨_,_,_,wa.1,wa.2.1,wa.2.2,fun _ W J nW sJ wJ=>?_,fun ne=>absurd rfl ne⟩))
local macro_rules | `(tactic| walk_at "g") => `(tactic| (intro X hP hw hK hc i pins s σ H E I hf st hg))
local macro_rules | `(tactic| k_dat $x0:ident "i") => `(tactic| (obtain ⟨f0,f1,f2,f3,f4,f5⟩:=hf $x0:ident (by simp)))
local macro_rules | `(tactic| walk_at "j") => `(tactic| (refine .inl ⟨_,_,_,wa.1,wa.2.1,wa.2.2,fun en W J nW sJ wJ=>?_,fun _=>bt⟩))
local macro_rules | `(tactic| walk_at "k") => `(tactic| (intro pins s σ H x y v u Q I rx ry h))
local macro_rules | `(tactic| walk_at "l") => `(tactic| (intro pins s σ H Q I h))
local macro_rules | `(tactic| k_dat $x0 "m") => `(tactic| (have sG2:=eN (sG.trans sJ) (fr _ (xj (i:=$x0:term) rfl)) bF))
local macro_rules | `(tactic| k_dat ($x0,$x1:ident,$x2,$x3) "o") => `(tactic| (refine ⟨_,rfl,p,_,$x0:term,_,rfl,$x1:ident,$x2:term,$x3:term,tb_g%,?_⟩))
local macro_rules | `(tactic| walk_at "q") => `(tactic| (rcases aO.mp m with rfl | m))
local macro_rules | `(tactic| k_dat ($x0,$x1:ident,$x2,$x3) "r") => `(tactic| (refine ⟨_,rfl,rdG $x0:term ($x1:ident T) ⟨_,rfl,_,_,rfl,rfl,_,rfl,p,_,dx,_,rfl,$x0:term,$x2:term,$x3:term,tb_g%,?_⟩⟩))
local macro_rules | `(tactic| walk_at "s") => `(tactic| (intro pins s σ H xs us Q I r h))
local macro_rules | `(tactic| walk_at "t") => `(tactic| (rcases ou.step tb_g% with ⟨e,ou⟩ | ⟨hf,bt⟩))
local macro_rules | `(tactic| walk_at "u") => `(tactic| (exact .inr ⟨by unfold lns;rw [aC];exact hf,bt⟩))
local macro_rules | `(tactic| walk_at "v") => `(tactic| (rcases cF.mp m with m | m))
local macro_rules | `(tactic| walk_at "w") => `(tactic| (obtain ⟨x,H1,I1,r1,q1⟩:=zq))
local macro_rules | `(tactic| k_dat $x0 "y") => `(tactic| (show wpAny _ _ (field (.ref _) $x0:term >>= _) _ _ _))
local macro_rules | `(tactic| k_dat ($x0:ident,$x1:ident,$x2:ident) "z") => `(tactic| (refine $x0:ident (thn ($x1:ident pins s σ H _ I h) fun $x2:ident s1 zq=>?_)))
local macro_rules | `(tactic| k_dat ($x0:ident,$x1:ident,$x2:ident,$x3:ident,$x4:ident) "A") => `(tactic| (obtain ⟨$x0:ident,rfl⟩:=(show ∃ $x1:ident,$x2:ident =Value.str $x3:ident $x1:ident from $x4:ident)))
local macro_rules | `(tactic| walk_at "B") => `(tactic| (refine ⟨_,by k_dat ([],[],[]) "p",?_⟩))
local macro_rules | `(tactic| walk_at "C") => `(tactic| (rcases hf with hf | ⟨z,ez,z0,e0,fl⟩))
local macro_rules | `(tactic| k_dat $x0:ident "D") => `(tactic| (simp only [aO,gB,or_false] at $x0:ident))
local macro_rules | `(tactic| walk_at "E") => `(tactic| (intro pins s σ H x vs v us Q I rx rv h))
local macro_rules | `(tactic| k_dat ($x0:ident,$x1:ident) "F") => `(tactic| (obtain ⟨$x0:ident,rfl⟩:=$x1:ident))
local macro_rules | `(tactic| k_dat ($x0:ident,$x1:ident,$x2,$x3:ident) "G") => `(tactic| (obtain ⟨$x0:ident,$x1:ident,rfl⟩:=$x2:term $x3:ident))
local macro_rules | `(tactic| walk_at "H") => `(tactic| (intro pins s σ H D I h))
local macro_rules | `(tactic| k_dat ($x0,$x1:ident) "I") => `(tactic| (rw [$x0:term] at $x1:ident;cases $x1:ident))
set_option hygiene true
set_option maxRecDepth 100000
set_option maxHeartbeats 0
theorem xj{a:α}{l:List α}{i:Nat}(h:l[i]? = some a):a∈l:=List.mem_of_getElem? h
local macro_rules|`(tactic|show #[$x,*])=>`(tactic|refine ⟨$x,*⟩)
local macro_rules|`(#[$x,*])=>if x.getElems.isEmpty then Lean.Macro.throwUnsupported else `(⟨$x,*⟩)
namespace L2
open PySem
def inClass(s:Stmt)(j:Nat):Stmt:=match s with
 | .ClassDef _ _ _ body _ _ _ _ _ _ _=>body.getD j (.Pass #[0,0,0,0])
 |_=>.Pass #[0,0,0,0]
def iW(s:Stmt):Arguments:=match s with
 | .FunctionDef _ a _ _ _ _ _ _ _ _=>a
 |_=>{ posonlyargs:=[],args:=[],vararg:=none,kwonlyargs:=[],kw_defaults:=[],kwarg:=none,defaults:=[] }
def gQ(s:Stmt):List Stmt:=match s with
 | .FunctionDef _ _ b _ _ _ _ _ _ _=>b
 |_=>[]
def aq(s:Stmt):Scope:=match s with
 | .FunctionDef _ _ _ _ _ _ sc _ _ _=>sc
 |_=>{ kind:=.function,names:=[],isGenerator:=false,isCoroutine:=false }
end L2
namespace My
open PySem PySem.W PyProof.Rows
def qw(tb:String->Option dM)(p:aH)(w:World)(n₀:Nat)(ann:Option Value):Nat->SharedT->Wy->Option SharedT
 |0,_,_=>none
 |n+1,s,t=>match through t with
  |true=>some s
  |false=>match stepOk n₀ ann t with
   |false=>none
   |true=>match stepT (denote tb) p w s t with
    |some (s',t')=>qw tb p w n₀ ann n s' t'
    |none=>none
theorem Og{tb:String->Option dM}{p:aH}{w:World}{n₀:Nat}{ann:Option Value}:∀{n:Nat}{s s':SharedT}{t:Wy},qw tb p w n₀ ann n s t=some s'->topRun tb p w n₀ ann n s.abs t=some s'.abs
 |0,_,_,_,h=>by cases h
 |n+1,s,s',t,h=>by
  unfold qw at h;unfold topRun;cases ht:through t with
  |true =>
   rw[ht]at h;obtain rfl:=bN h;rfl
  |false =>
   rw[ht]at h;dsimp only at h ⊢;cases hs:stepOk n₀ ann t with
   |false=>rw[hs]at h;cases h
   |true =>
    rw[hs]at h;dsimp only at h ⊢;cases hq:stepT (denote tb) p w s t with
    |none=>rw[hq]at h;cases h
    |some x =>
     obtain⟨s2,t2⟩:=x;rw[hq]at h;rw[stepT_spec hq];exact Og h
def treeOf:List Obj->Nat->BT->Option BT
 |[],_,t=>some t
 |o::r,n,t=>match ((t.ins n o).get n).isSome with
  |true=>treeOf r (n+1) (t.ins n o)
  |false=>none
theorem T8{life:Life}:∀{l:List Obj}{n:Nat}{t t':BT},treeOf l n t=some t'->absHeap t' (n+l.length) life=#[((t.list n)++l).toArray,life]
 |[],n,t,t',h=>by
  obtain rfl:=bN h;rw[iH];rfl
 |o::r,n,t,t',h=>by
  unfold treeOf at h;cases g:((t.ins n o).get n).isSome with
  |false=>rw[g]at h;cases h
  |true =>
   rw[g]at h;have e:=T8 (life:=life) h;rw[show n+(o::r).length=n+1+r.length by rw[bh];lia,e];have e2:=absHeap_ins (life:=life) g;have e3:(t.ins n o).list (n+1)=t.list n++[o]:=by
    have:=congrArg (fun h:Heap=>h.objs.toList) e2;simpa[absHeap,Heap.push]using this
   rw[e3,dO];rfl
def Xf(h:Heap):Option BT:=treeOf h.objs.toList 0 .nil
theorem agN{h:Heap}{T:BT}(e:Xf h=some T):absHeap T h.objs.size h.life=h:=by
 have:=T8 (life:=h.life) e;rw[GD,tU]at this;rw[this];show Heap.mk (([]++h.objs.toList).toArray) h.life=h;rw[nM]
def agO(p:aH)(w:World)(N:Nat):Option (Shared × SharedT):=(fencedOpening xT p w N).bind fun s₀ =>
 match s₀.heap.isNs cu && s₀.gens.size == 0 with
 |true=>(Xf s₀.heap).bind fun T=>(qw xT p w s₀.heap.objs.size (s₀.heap.nsMap cu "__annotations__") N #[T,s₀.heap.objs.size,s₀.heap.life,s₀.gens,s₀.drawn,s₀.toks,s₀.os] (topStub p)).map fun s₁=>(s₀,s₁)
 |false=>none
def okT(p:aH)(x:Shared × SharedT):Bool:=staticsOk (M7 p.main.body) x.1.heap x.2.abs.heap && namesBound p x.2.abs.heap && gensDone x.2.abs && laidKept x.1.heap x.2.abs.heap
abbrev Ho(p q:aH)(Xt:Shared->Bool)(x:Shared × SharedT):=openSeen q [] (M7 p.main.body) Xt true x.2.abs
theorem an5{p:aH}{w:World}{N:Nat}{x:Shared × SharedT}(h:agO p w N=some x)(ok:okT p x=true):openEnds xT p w N=some x.2.abs:=by
 unfold agO at h;obtain⟨s₀,e0,e1⟩:=aj2.mp h;unfold openEnds;rw[e0];show topFrom xT p w N s₀=_;unfold topFrom;cases g:(s₀.heap.isNs cu && s₀.gens.size == 0)with
 |false=>rw[g]at e1;cases e1
 |true =>
  rw[g]at e1;dsimp only at e1 ⊢;obtain⟨T,eT,e2⟩:=aj2.mp e1;obtain⟨s₁,e3,e4⟩:=j6.mp e2;subst e4;have r:=Og e3;have ab:(SharedT.mk T s₀.heap.objs.size s₀.heap.life s₀.gens s₀.drawn s₀.toks s₀.os).abs=s₀:=by
   show Shared.mk (absHeap T s₀.heap.objs.size s₀.heap.life) _ _ _ _=s₀;rw[agN eT]
  rw[ab]at r;rw[r]
  show (match staticsOk (M7 p.main.body) s₀.heap s₁.abs.heap && namesBound p s₁.abs.heap && gensDone s₁.abs && laidKept s₀.heap s₁.abs.heap with
   |true=>some s₁.abs
   | false=>none)=_
  have ok':(staticsOk (M7 p.main.body) s₀.heap s₁.abs.heap && namesBound p s₁.abs.heap && gensDone s₁.abs && laidKept s₀.heap s₁.abs.heap)=true:=ok;rw[ok']
def Look(p:aH)(N:Nat){β:Type}(f:Shared × SharedT->β)(b:World->β):Prop:=∀w:World,(agO p w N).map f=some (b w)
theorem Look.at{p:aH}{N:Nat}{β:Type}{f:Shared × SharedT->β}{b:World->β}(h:Look p N f b){w:World}{x:Shared × SharedT}(e:agO p w N=some x):f x=b w:=by
 have:=h w;rw[e]at this;exact bN this
theorem an6{p q:aH}{Xt:Shared->Bool}{α:Type}{Yf:Shared->α}{Ya:World->α}{N:Nat}
  (h0:Look p N (okT p) fun _=>true)
  (h1:Look p N (fun x=>(Ho p q Xt x).1) fun _=>(openGood q []).1)
  (h2:Look p N (fun x=>(Ho p q Xt x).2.1) fun _=>(openGood q []).2.1)
  (h3:Look p N (fun x=>(Ho p q Xt x).2.2.1) fun _=>(openGood q []).2.2.1)
  (h4:Look p N (fun x=>(Ho p q Xt x).2.2.2.1) fun _=>(openGood q []).2.2.2.1)
  (h5:Look p N (fun x=>(Ho p q Xt x).2.2.2.2.1) fun _=>(openGood q []).2.2.2.2.1)
  (h6:Look p N (fun x=>(Ho p q Xt x).2.2.2.2.2.1) fun _=>(openGood q []).2.2.2.2.2.1)
  (h7:Look p N (fun x=>(Ho p q Xt x).2.2.2.2.2.2.1) fun _=>(openGood q []).2.2.2.2.2.2.1)
  (h8:Look p N (fun x=>(Ho p q Xt x).2.2.2.2.2.2.2.1) fun _=>(openGood q []).2.2.2.2.2.2.2.1)
  (h9:Look p N (fun x=>(Ho p q Xt x).2.2.2.2.2.2.2.2) fun _=>(openGood q []).2.2.2.2.2.2.2.2)
  (hY:Look p N (fun x=>Yf x.2.abs) Ya):LeftO p q [] Xt Yf Ya N:=fun w=>by
 obtain⟨x,e,_⟩:=j6.mp (h0 w);show(openEnds xT p w N).map _=_;rw[an5 e (h0.at e)];show some (Ho p q Xt x,Yf x.2.abs)=some (openGood q [],Ya w);have a:=hY.at e;have b:Ho p q Xt x=openGood q []:=rF (h1.at e) (rF (h2.at e) (rF (h3.at e) (rF (h4.at e) (rF (h5.at e) (rF (h6.at e) (rF (h7.at e) (rF (h8.at e) (h9.at e))))))));rw[b];exact congrArg some (rF rfl a)
def ak6(s:SharedT):List Addr->Option (List (Option Obj))
 |[]=>some []
 |a::r=>match Nat.blt a s.n with
  |true=>match s.tree.get a with
   |some o=>match ak6 s r with
    |some l=>some (alive o::l)
    |none=>none
   |none=>none
  |false=>none
theorem afy{s:SharedT}:∀{as:List Addr} {l:List (Option Obj)},ak6 s as=some l->as.map s.abs.heap.get? = l
 |[],l,h=>bN h
 |a::r,l,h=>by
  unfold ak6 at h;cases hb:Nat.blt a s.n with
  |false=>rw[hb]at h;cases h
  |true =>
   rw[hb]at h;dsimp only at h;cases ho:s.tree.get a with
   |none=>rw[ho]at h;cases h
   |some o =>
    rw[ho]at h;dsimp only at h;cases hl:ak6 s r with
    |none=>rw[hl]at h;cases h
    |some l2 =>
     rw[hl]at h;obtain rfl:=bN h;rw[cP,afy hl];exact congrArg (· :: l2) (abs_get (Nat.le_of_ble_eq_true hb) ho)
open PySem.W.Fast renaming tw10156331382660048174->apJ, te10156331382660048174->ak7, tw6613529449190102663->afz, te6613529449190102663->adU, tw11892475500146522536->afA, te11892475500146522536->adV, tw14364793385576792824->ak8, te14364793385576792824->T9, tw4187177175401517315->agP, te4187177175401517315->Xg
noncomputable def ak9(w:World)(os:OsState):Shared:=#[boot_heap w.params,Array.mk [],boot_drawn,boot_toks,os]
noncomputable def afB(p:aH)(w:World)(N:Nat)(s₀:Shared):Option (Shared × SharedT):=(Xf s₀.heap).bind fun T=>(qw xT p w s₀.heap.objs.size (s₀.heap.nsMap cu "__annotations__") N #[T,s₀.heap.objs.size,s₀.heap.life,s₀.gens,s₀.drawn,s₀.toks,s₀.os] (topStub p)).map fun s₁=>(s₀,s₁)
theorem an7(P:Gx):(boot_heap P).isNs cu=true:=by kernel_rfl
theorem agQ{p:aH}{N:Nat}(e:opening p=plainProg p.main.scope.names)(hN:Nat.ble 600 N=true)(f:∀s,fenceModules? p s=some s)(w:World):∃os,agO p w N=afB p w N (ak9 w os):=by
 obtain⟨s,hs,hv⟩:=j6.mp (boot_open e hN f w);obtain⟨h,g,d,k,os⟩:=s;simp only[Prod.mk.injEq]at hv;obtain⟨rfl,rfl,rfl,rfl⟩:=hv;refine⟨os,?_⟩;unfold agO;rw[hs];show(match (boot_heap w.params).isNs cu && _ with|true=>afB p w N (ak9 w os)|false=>none)=_;rw[an7];rfl
noncomputable def Dl(p:aH)(w:World)(n₀:Nat)(ann:Option Value):Nat->SharedT->Wy->Option SharedT
 |0,_,_=>none
 |n+1,s,t=>match through t with
  |true=>some s
  |false=>match afz n₀ ann t with
   |false=>none
   |true=>match apJ (afA ak8) p w s t with
    |some (s',t')=>Dl p w n₀ ann n s' t'
    |none=>none
theorem Oh{p:aH}{w:World}{n₀:Nat}{ann:Option Value}:∀{n:Nat}{s:SharedT}{t:Wy},qw xT p w n₀ ann n s t=Dl p w n₀ ann n s t
 |0,_,_=>rfl
 |n+1,s,t=>by
  have ih:∀s t,qw xT p w n₀ ann n s t=Dl p w n₀ ann n s t:=fun _ _=>Oh;rw[T9]at ih;unfold qw Dl;rw[adU,ak7,adV,T9];cases through t with
  |true=>rfl
  |false =>
   dsimp only;cases afz n₀ ann t with
   |false=>rfl
   |true =>
    dsimp only;cases apJ (afA ak8) p w s t with
    |none=>rfl
    |some x=>exact ih _ _
noncomputable def ala(p:aH)(w:World)(N:Nat)(s₀:Shared):Option (Shared × SharedT):=(Xf s₀.heap).bind fun T=>(Dl p w s₀.heap.objs.size (s₀.heap.nsMap cu "__annotations__") N #[T,s₀.heap.objs.size,s₀.heap.life,s₀.gens,s₀.drawn,s₀.toks,s₀.os] (topStub p)).map fun s₁=>(s₀,s₁)
theorem alb{p:aH}{w:World}{N:Nat}{s₀:Shared}:afB p w N s₀=ala p w N s₀:=by
 unfold afB ala;exact congrArg _ (funext fun T=>congrArg _ Oh)
def gK(p:aH)(N:Nat){β:Type}(f:Shared × SharedT->β)(b:World->β):Prop:=∀(w:World)(os:OsState),(ala p w N (ak9 w os)).map f=some (b w)
noncomputable abbrev tV(p q:aH)(Xt:Shared->Bool)(x:Shared × SharedT):=agP q [] (M7 p.main.body) Xt true x.2.abs
theorem an8{p q:aH}{Xt:Shared->Bool}:Ho p q Xt=tV p q Xt:=by
 funext x
 unfold Ho tV;rw[Xg]
structure Plain(p:aH)(N:Nat):Prop where
 op:opening p=plainProg p.main.scope.names
 n:Nat.ble 600 N=true
 fe:∀s,fenceModules? p s=some s
theorem gK.look{p:aH}{N:Nat}{β:Type}{f:Shared × SharedT->β}{b:World->β}(h:gK p N f b)(P:Plain p N):Look p N f b:=fun w=>by
 obtain⟨os,e⟩:=agQ P.op P.n P.fe w;rw[e,alb];exact h w os
theorem alc{p q:aH}{Xt:Shared->Bool}{as:List Addr}{Ya:World->List (Option Obj)}{N:Nat}(P:Plain p N)
  (h0:gK p N (okT p) fun _=>true)
  (h1:gK p N (fun x=>(tV p q Xt x).1) fun _=>aj7 q)
  (h2:gK p N (fun x=>(tV p q Xt x).2.1) fun _=>aji)
  (h3:gK p N (fun x=>(tV p q Xt x).2.2.1) fun _=>true)
  (h4:gK p N (fun x=>(tV p q Xt x).2.2.2.1) fun _=>true)
  (h5:gK p N (fun x=>(tV p q Xt x).2.2.2.2.1) fun _=>pinGoodD (akf q))
  (h6:gK p N (fun x=>(tV p q Xt x).2.2.2.2.2.1) fun _=>aj8 q (looseW q []))
  (h7:gK p N (fun x=>(tV p q Xt x).2.2.2.2.2.2.1) fun _=>aj9 q [])
  (h8:gK p N (fun x=>(tV p q Xt x).2.2.2.2.2.2.2.1) fun _=>wideGood q)
  (h9:gK p N (fun x=>(tV p q Xt x).2.2.2.2.2.2.2.2) fun _=>clsGoodW q [])
  (hY:gK p N (fun x=>ak6 x.2 as) fun w=>some (Ya w)):LeftO p q [] Xt (fun s=>as.map s.heap.get?) Ya N:=by
 rw[<-an8]at h1 h2 h3 h4 h5 h6 h7 h8 h9;refine an6 (h0.look P) (h1.look P) (h2.look P) (h3.look P) (h4.look P) (h5.look P) (h6.look P) (h7.look P) (h8.look P) (h9.look P) fun w=>?_;obtain⟨x,e,_⟩:=j6.mp (h0.look P w);rw[e];exact congrArg some (afy ((hY.look P).at e))
end My
namespace My
open PySem L2
def top(i:Nat):Stmt:=aqq.main.body.getD i (.Pass #[0,0,0,0])
abbrev uW:Stmt:=top 28
abbrev rG:Stmt:=top 29
abbrev Xh:Stmt:=top 30
abbrev uX:Stmt:=inClass (top 25) 3
abbrev oF:Stmt:=inClass (top 25) 2
abbrev Hq:Stmt:=top 27
abbrev Oi:Stmt:=top 26
abbrev uY:Stmt:=inClass (top 25) 0
abbrev yj:Stmt:=inClass (top 25) 1
abbrev Oj:Stmt:=top 33
abbrev rH:Stmt:=inClass (top 32) 0
abbrev lG:Stmt:=inClass (top 32) 3
abbrev uZ:Stmt:=inClass (top 32) 1
abbrev rJ:Stmt:=inClass (top 32) 2
abbrev Ol:Stmt:=top 15
abbrev adW:Stmt:=top 16
abbrev lH:Stmt:=inClass (top 18) 0
abbrev BX:Stmt:=top 19
abbrev iY:Stmt:=inClass (top 18) 2
abbrev oG:Stmt:=inClass (top 18) 1
abbrev lJ:Stmt:=inClass (top 21) 0
abbrev Om:Stmt:=top 22
abbrev Hr:Stmt:=top 23
abbrev oH:Stmt:=inClass (top 21) 2
abbrev oK:Stmt:=inClass (top 21) 1
abbrev BZ:Stmt:=top 10
abbrev oM:Stmt:=inClass (top 9) 0
abbrev rK:Stmt:=inClass (top 9) 1
abbrev oN:Stmt:=inClass (top 9) 2
abbrev oO:Stmt:=inClass (top 35) 1
abbrev lK:Stmt:=inClass (top 35) 2
abbrev lM:Stmt:=inClass (top 35) 3
abbrev lN:Stmt:=inClass (top 35) 0
abbrev Xi:Stmt:=top 81
abbrev u9:Stmt:=top 82
abbrev vd:Stmt:=top 83
abbrev rM:Stmt:=top 84
abbrev Ca:Stmt:=top 85
abbrev vf:Stmt:=top 87
abbrev Oo:Stmt:=top 86
abbrev Hs:Stmt:=top 79
abbrev s_row:Stmt:=top 78
abbrev oR:Stmt:=top 77
abbrev rO:Stmt:=top 76
abbrev jA:Stmt:=top 75
abbrev Ht:Stmt:=top 74
abbrev oU:Stmt:=inClass (top 7) 0
abbrev adX:Stmt:=top 55
abbrev yp:Stmt:=top 57
abbrev vg:Stmt:=top 56
abbrev oW:Stmt:=top 42
abbrev yq:Stmt:=top 58
abbrev Cd:Stmt:=top 62
abbrev yr:Stmt:=top 63
abbrev Oq:Stmt:=top 67
abbrev lO:Stmt:=top 44
abbrev jB:Stmt:=top 43
abbrev iZ:Stmt:=top 46
abbrev vh:Stmt:=top 47
abbrev rP:Stmt:=top 45
abbrev oX:Stmt:=top 49
abbrev vm:Stmt:=top 50
abbrev oY:Stmt:=top 48
abbrev jC:Stmt:=top 51
abbrev yt:Stmt:=top 64
abbrev lQ:Stmt:=top 65
abbrev vo:Stmt:=top 66
abbrev rQ:Stmt:=top 68
abbrev lR:Stmt:=top 69
abbrev yu:Stmt:=top 70
abbrev lU:Stmt:=top 61
abbrev yw:Stmt:=top 88
abbrev vp:Stmt:=top 89
abbrev lV:Stmt:=top 90
abbrev Ce:Stmt:=top 91
abbrev ald:Stmt:=top 92
def LK(K:aG)(n q:Str)(s:Stmt)(f:Addr):Prop:=∃(oc:Value)(od an:Option Addr) (sl:Array (Option Value)) (kV dc pm cd ct:Value),K.lookup f=some #[oc,od,.func (jw n q (iW s) (gQ s) (aq s) .none kV dc pm an cd ct),sl]/\MN K cd q=true/\nP K (.ref f)=true
def GK(K:aG)(n:Str)(s:Stmt)(f:Addr):Prop:=dR K cu n=some (some (.ref f))/\LK K n n s f
def MeK(K:aG)(C:Addr)(n q:Str)(s:Stmt)(f:Addr):Prop:=fD K (.ref C) n=some (some (.ref f))/\MP K (.ref f)=true/\LK K n q s f
def CK(K:aG)(C:Addr):Prop:=Ge K C acv=true/\xM K C=true/\VL K C=true/\fD K (.ref C) "__setattr__" = some (some (.builtin "object.__setattr__"))/\VP K C=true/\nP K (.ref C)=true
def NK(K:aG)(C:Addr):List Str->Prop
 |[]=>True
 |f::r=>fD K (.ref C) f=some none/\NK K C r
def ZK(K:aG):List Str->Prop
 |[]=>True
 |n::r=>dR K cu n=some none/\ZK K r
def GKs(K:aG):List (Str × Stmt)->Prop
 |[]=>True
 |p::r=>(∃f,GK K p.1 p.2 f)/\GKs K r
def MKs(K:aG)(C:Addr):List (Str × Str × Stmt)->Prop
 |[]=>True
 |p::r=>(∃f,MeK K C p.1 p.2.1 p.2.2 f)/\MKs K C r
theorem GKs.nil{K:aG}:GKs K []:=trivial
theorem GKs.cons{K:aG}{n:Str}{s:Stmt}{r:List (Str × Stmt)}{f:Addr}(a:GK K n s f)(b:GKs K r):GKs K ((n,s)::r):=#[#[f,a],b]
theorem MKs.nil{K:aG}{C:Addr}:MKs K C []:=trivial
theorem MKs.cons{K:aG}{C:Addr}{n q:Str}{s:Stmt}{r:List (Str × Str × Stmt)}{f:Addr}(a:MeK K C n q s f)(b:MKs K C r):MKs K C ((n,q,s)::r):=#[#[f,a],b]
def XJ(K:aG)(C:Addr)(bmB:List Value)(newId:String):Prop:=∃nm q N bs bm hd sn sub ab col dd k0 k1 k2 k3 k5,K.lookup C=some (ai1 nm q C N bs bm hd sn sub ab col dd k0 k1 k2 k3 k5 newId)/\acD K bmB bm=true/\acE K N=true/\dR K N "__init__" = fD K (.ref C) "__init__"
theorem XJ.of{K:aG}{C:Addr}{bmB:List Value}{newId:String}{nm q:Str}{N:Addr}{bs bm:List Value}{hd:Bool}{sn:List Str}{sub:List Value}{ab:Bool}{col:Option Bool}{dd:Option Addr}{k0 k1 k2 k3 k5:Option Value}{r:Option (Option Value)}(l:K.lookup C=some (ai1 nm q C N bs bm hd sn sub ab col dd k0 k1 k2 k3 k5 newId))(i:dR K N "__init__" = r)(j:fD K (.ref C) "__init__" = r)(t:acD K bmB bm=true)(o:acE K N=true):XJ K C bmB newId:=#[nm,q,N,bs,bm,hd,sn,sub,ab,col,dd,k0,k1,k2,k3,k5,l,t,o,i.trans j.symm]
theorem LK.of{K:aG}{n q:Str}{s:Stmt}{f:Addr}{oc:Value}{od an:Option Addr}{sl:Array (Option Value)}{kV dc pm cd ct:Value}(l:K.lookup f=some #[oc,od,.func (jw n q (iW s) (gQ s) (aq s) .none kV dc pm an cd ct),sl])(c:MN K cd q=true)(k:nP K (.ref f)=true):LK K n q s f:=#[oc,od,an,sl,kV,dc,pm,cd,ct,l,c,k]
theorem GK.of{K:aG}{n:Str}{s:Stmt}{f:Addr}(a:dR K cu n=some (some (.ref f)))(l:LK K n n s f):GK K n s f:=#[a,l]
theorem MeK.of{K:aG}{C:Addr}{n q:Str}{s:Stmt}{f:Addr}(a:fD K (.ref C) n=some (some (.ref f)))(i:MP K (.ref f)=true)(l:LK K n q s f):MeK K C n q s f:=#[a,i,l]
theorem CK.of{K:aG}{C:Addr}(a:Ge K C acv=true)(b:xM K C=true)(c:VL K C=true)(d:fD K (.ref C) "__setattr__" = some (some (.builtin "object.__setattr__")))(e:VP K C=true)(f:nP K (.ref C)=true):CK K C:=#[a,b,c,d,e,f]
theorem NK.nil{K:aG}{C:Addr}:NK K C []:=trivial
theorem NK.cons{K:aG}{C:Addr}{f:Str}{r:List Str}(a:fD K (.ref C) f=some none)(b:NK K C r):NK K C (f::r):=#[a,b]
theorem ZK.nil{K:aG}:ZK K []:=trivial
theorem ZK.cons{K:aG}{f:Str}{r:List Str}(a:dR K cu f=some none)(b:ZK K r):ZK K (f::r):=#[a,b]
abbrev dY:PySem.W.OpenRow:=Jk.row
def view:PySem.Program:={ dY.prog with main:={ dY.prog.main with body:=[top 0,top 2,top 3,top 4,top 5,top 6,top 7,top 9,top 10,top 12,top 13,top 14,top 15,top 16,top 18,top 19,top 21,top 22,top 23,top 25,top 26,top 27,top 28,top 29,top 30,top 32,top 33,top 35,top 37,top 38,top 39,top 40,top 41,top 42,top 43,top 44,top 45,top 46,top 47,top 48,top 49,top 50,top 51,top 53,top 54,top 55,top 56,top 57,top 58,top 60,top 61,top 62,top 63,top 64,top 65,top 66,top 67,top 68,top 69,top 70,top 72,top 73,top 74,top 75,top 76,top 77,top 78,top 79,top 81,top 82,top 83,top 84,top 85,top 86,top 87,top 88,top 89,top 90,top 91,top 92] } }
abbrev Ac:Shared->Bool:=fun s=>PySem.W.xlAt view [] s && PySem.W.recOk dY.records s
theorem seeP:Plain dY.prog 20000:=#[by kernel_rfl,by kernel_rfl,by intro s;kernel_rfl]
theorem seeW:Jk.wellSaid=true:=by
 rw[aqT]
 kernel_rfl
theorem see0:gK dY.prog 20000 (okT dY.prog) (fun _=>true):=by intro w os;kernel_rfl
theorem see1:gK dY.prog 20000 (fun x=>(tV dY.prog view Ac x).1) (fun _=>aj7 view):=by intro w os;kernel_rfl
theorem see2:gK dY.prog 20000 (fun x=>(tV dY.prog view Ac x).2.1) (fun _=>aji):=by intro w os;kernel_rfl
theorem see3:gK dY.prog 20000 (fun x=>(tV dY.prog view Ac x).2.2.1) (fun _=>true):=by intro w os;kernel_rfl
theorem see4:gK dY.prog 20000 (fun x=>(tV dY.prog view Ac x).2.2.2.1) (fun _=>true):=by intro w os;kernel_rfl
theorem see5:gK dY.prog 20000 (fun x=>(tV dY.prog view Ac x).2.2.2.2.1) (fun _=>pinGoodD (akf view)):=by intro w os;kernel_rfl
theorem see6:gK dY.prog 20000 (fun x=>(tV dY.prog view Ac x).2.2.2.2.2.1) (fun _=>aj8 view (PySem.W.looseW view [])):=by intro w os;kernel_rfl
theorem see7:gK dY.prog 20000 (fun x=>(tV dY.prog view Ac x).2.2.2.2.2.2.1) (fun _=>aj9 view []):=by intro w os;kernel_rfl
theorem see8:gK dY.prog 20000 (fun x=>(tV dY.prog view Ac x).2.2.2.2.2.2.2.1) (fun _=>PySem.W.wideGood view):=by intro w os;kernel_rfl
theorem see9:gK dY.prog 20000 (fun x=>(tV dY.prog view Ac x).2.2.2.2.2.2.2.2) (fun _=>PySem.W.clsGoodW view []):=by intro w os;kernel_rfl
def ale(R:World->aG->(Str->Option Value)->Addr->Prop):Prop:=∀{w:World}{K:aG}{h:Heap}{mg:Str->Option Value}{fa C'0 C'1 C'2 C'3 C'4 C'5 C'6 C'7 C'8 C'9 Xj Xk:Addr}(X:K.In h)(G:h.Ns cu mg) (hfa:mg "law" = some (.ref fa))
(aC'0:dR K cu "Rungs" = some (some (.ref C'0))) (yx:CK K C'0) (Dm:NK K C'0 ["room","total","over","under","turns","least","most","rungs"]) (aC'1:dR K cu "Window" = some (some (.ref C'1))) (tW:CK K C'1) (zF:NK K C'1 ["room","reach","clock","boxes"]) (aC'2:dR K cu "Distinct" = some (some (.ref C'2))) (j7:CK K C'2) (qy:NK K C'2 ["room","arrivals","level","kept"]) (aC'3:dR K cu "Frequent" = some (some (.ref C'3))) (j8:CK K C'3) (qz:NK K C'3 ["room","total","lost","counts"]) (aC'4:dR K cu "Balance" = some (some (.ref C'4))) (oZ:CK K C'4) (vq:NK K C'4 ["span","sums"]) (aC'5:dR K cu "Keepsake" = some (some (.ref C'5))) (j9:CK K C'5) (qC:NK K C'5 ["room","reach","span","came","went","up","down","window","seen","balance"]) (aC'6:dR K cu "BadText" = some (some (.ref C'6))) (aC'7:dR K cu "KeepError" = some (some (.ref C'7))) (aC'8:dR K cu "OutOfReach" = some (some (.ref C'8))) (aC'9:dR K cu "TooFine" = some (some (.ref C'9))) (afC:dR K cu "TooManyOff" = some (some (.ref Xj))) (afD:dR K cu "Unlike" = some (some (.ref Xk))) (gM:XJ K C'6 [.type "ValueError",.type "Exception",.type "BaseException",.type "object"] "ValueError.__new__") (jD:nP K (.ref C'6)=true) (qD:fD K (.ref C'6) "__setattr__" = some (some (.builtin "object.__setattr__"))) (qF:fD K (.ref C'6) "line" = some none) (qG:xM K C'6=true) (qH:jZ K C'6 (.type "object")=some true) (jP:Gd K (.ref C'7) "__getattribute__" = some (some (.builtin "type.__getattribute__"))) (jQ:aiN K C'7 (.type "type")=true) (jR:aiO K (.ref C'7) (.type "type") "__init__" = some (.val (.builtin "ValueError.__init__"))) (fJ:jZ K C'6 (.ref C'6)=some true) (fK:jZ K C'6 (.type "BaseException")=some true) (fL:Bh K (.ref C'6)=some (.type "type")) (mU:fD K (.ref C'6) "__getattribute__" = some (some (.builtin "BaseException.__getattribute__"))) (mV:fD K (.ref C'6) "__getattr__" = some none) (mW:fD K (.ref C'6) "__class__" = some (some (.builtin "object.__class__"))) (mX:jZ K C'6 (.type "BaseException")=some true) (mY:jZ K C'6 (.type "object")=some true) (mZ:Bh K (.ref C'6)=some (.type "type")) (m5:jZ K C'6 (.ref C'6)=some true) (m6:Gd K (.builtin "object.__class__") "__get__" = some (some (.builtin "getset_descriptor.__get__"))) (m7:acB K (.builtin "object.__class__")=some true) (cT:qp K (.ref C'6) (.ref C'7)=some true) (cN:qp K (.ref C'6) (.type "ValueError")=some true) (jE:acF K (.ref C'6) [(.ref C'8),(.ref C'9),(.ref Xj),(.ref Xk)]=some false) (gk0:GKs K [("with_thing",uW),("left_behind",rG),("risen",Xh),("greater",Hq),("lesser",Oi),("joined",Oj),("spread",Ol),("mark",adW),("of_marks",BX),("cut_of",Om),("lowered",Hr),("with_row",BZ),("_law_mix",Xi),("_law_far_back",u9),("_law_thing_by",vd),("_law_weight_by",rM),("_law_row_by",Ca),("_law_shape_by",vf),("_law_done",Oo),("figures",Hs),("row",s_row),("window_words",oR),("rungs_words",rO),("frequent_words",jA),("written",Ht),("need",adX),("number_of",yp),("numbers_of",vg),("sound_bounds",oW),("bounds_of",yq)]) (gk1:GKs K [("words_of",Cd),("signed_of",yr),("parted",Oq),("rising_things",lO),("sound_frequent",jB),("stand_for_total",iZ),("sound_list",vh),("sound_rungs",rP),("sound_places",oX),("sound_sums",vm),("sound_window",oY),("sound_distinct",jC),("read_keep",yt),("read_frequent",lQ),("read_rungs",vo),("read_window",rQ),("read_distinct",lR),("read_sums",yu),("read_keepsake",lU),("_law_refused",yw),("_law_bad_word",vp),("_law_line_spoilt",lV),("_law_spoilt",Ce),("law",ald)]) (agR:MKs K C'0 [("turn","Rungs.turn",uX),("settle","Rungs.settle",oF),("__init__","Rungs.__init__",uY),("add","Rungs.add",yj)]) (agS:MKs K C'1 [("__init__","Window.__init__",rH),("settle","Window.settle",lG),("add","Window.add",uZ),("idle","Window.idle",rJ)]) (agT:MKs K C'2 [("__init__","Distinct.__init__",lH),("settle","Distinct.settle",iY),("add","Distinct.add",oG)]) (agU:MKs K C'3 [("__init__","Frequent.__init__",lJ),("fit","Frequent.fit",oH),("add","Frequent.add",oK)]) (agV:MKs K C'4 [("__init__","Balance.__init__",oM),("put","Balance.put",rK),("take","Balance.take",oN)]) (adY:MKs K C'5 [("put","Keepsake.put",oO),("take","Keepsake.take",lK),("idle","Keepsake.idle",lM),("__init__","Keepsake.__init__",lN)]) (mk'6:MKs K C'6 [("__init__","BadText.__init__",oU)]) (zk:ZK K ["ValueError","abs","all","bool","dict","int","isinstance","len","list","max","min","range","reversed","sorted","str","sum","zip"]) {Ot:Tok} (zH:dR K cu "FIGURES" = some (some (.str "0123456789" Ot))) {Ae:Tok} (m8:dR K cu "LEAST_ROOM" = some (some (.int 2 Ae))) {aag:Tok} (Lz:dR K cu "LINES" = some (some (.int 8 aag))) {afE:Tok} (Xl:dR K cu "MOST" = some (some (.int 1152921504606846976 afE))) {wF:Tok} (jc:dR K cu "MOST_FIGURES" = some (some (.int 60 wF))) {tX:Tok} (iu:dR K cu "MOST_HALVINGS" = some (some (.int 60 tX))) {Af:Tok} (m9:dR K cu "MOST_LEVEL" = some (some (.int 60 Af))) {Ag:Tok} (nj:dR K cu "MOST_REACH" = some (some (.int 1000000000 Ag))) {Dp:Tok} (qI:dR K cu "MOST_ROOM" = some (some (.int 64 Dp))) {Dq:Tok} (qJ:dR K cu "MOST_SPAN" = some (some (.int 1000000000 Dq))) {aah:Tok} (LC:dR K cu "PIECE" = some (some (.int 1000000000000000000000000000000 aah))) {tY:Tok} (iw:dR K cu "PIECE_FIGURES" = some (some (.int 30 tY))) {Ua:Tok} (Dr:dR K cu "SPREAD" = some (some (.int 770093176312745717 Ua))),
  R w K mg fa
end My
section
open PySem PySem.W PyProof.Rows L2
local macro_rules
  | `(tactic| o_head $H) => `(tactic|
    (refine holds_open (r := My.dY) (q := My.view) (loose := []) (N := 20000)
        (Xt := My.Ac) (XP := XL My.view [])
        (Yf := Hook.obs $H) (Ya := Hook.val $H) (YP := Hook.says $H) ?hl (Hook.of $H) (Hook.keeps $H)
        (fun s e => xl_of s (ajI.mp e).1) XL.keeps
        (by rfl) (by rfl) (by rfl)
        (fun s e => recFacts_of (ajI.mp e).2) (by rfl)
        (by first | assumption | decide +kernel) tb_g%
        #[rfl, rfl, rfl, rfl, rfl, by decide +kernel] ?hw ?hc;
     (case hl => exact My.alc My.seeP My.see0 My.see1 My.see2 My.see3 My.see4 My.see5 My.see6 My.see7 My.see8 My.see9 (by intro w os; kernel_rfl))))
local macro_rules
  | `(tactic| k_is) => `(tactic| first
    | (refine' My.LK.of ?lkl ?lkc ?lkk; (case lkl => k_is); (case lkc => k_is); (case lkk => k_is))
    | (refine' My.GK.of ?gka ?gkl; (case gka => k_is); (case gkl => k_is))
    | (refine' My.MeK.of ?mka ?mki ?mkl; (case mka => k_is); (case mki => k_is); (case mkl => k_is))
    | exact My.NK.nil
    | exact My.ZK.nil
    | exact My.GKs.nil
    | exact My.MKs.nil
    | (refine' My.GKs.cons ?gca ?gcb; (case gca => k_is); (case gcb => k_is))
    | (refine' My.MKs.cons ?mca ?mcb; (case mca => k_is); (case mcb => k_is))
    | (refine' My.XJ.of ?xjl ?xji ?xjj ?xjt ?xjo; (case xjl => k_is); (case xji => k_is); (case xjj => k_is); (case xjt => kernel_rfl); (case xjo => kernel_rfl))
    | (refine' My.NK.cons ?nka ?nkb; (case nka => k_is); (case nkb => k_is))
    | (refine' My.ZK.cons ?zka ?zkb; (case zka => k_is); (case zkb => k_is))
    | (refine' My.CK.of ?ck1 ?ck2 ?ck3 ?ck4 ?ck5 ?ck6; (case ck1 => k_is); (case ck2 => k_is); (case ck3 => k_is); (case ck4 => k_is); (case ck5 => k_is); (case ck6 => k_is))
    | fail)
open My in
set_option maxRecDepth 100000 in
set_option maxHeartbeats 0 in
theorem My.head(R:World->aG->(Str->Option Value)->Addr->Prop)(mk:My.ale R)
  (wk:∀{q:aH}{loose:List Str} {XP:(Str->Option Value)->Heap->Prop} {YP:World->Heap->Prop} {d:Wz} {K:Gx->aG},Jk.most=some 63->d.params.defaults=[]->(∀(w:World)(h:Heap),YP w h->(K w.params).In h)->(∀(w:World)(mg:Str->Option Value)(fa:Addr)(h:Heap),(K w.params).In h->h.Ns cu mg->mg d.name=some (.ref fa)->R w (K w.params) mg fa)->acH q loose XP YP Jk.row.toRowW d [] (fun f vs=>Wj f vs)):Jk.Holds:=by
 w_on;refine PySem.W.holds_law My.seeW fun said=>?_;k_head;(case hw=>w_witness2)
 k_fill
 refine wk rfl rfl (fun w h Y=>aqp Y) ?F
 case F =>
  intro w mg fa h KX G hmg;refine' mk KX G hmg ?aC'0 ?yx ?Dm ?aC'1 ?tW ?zF ?aC'2 ?j7 ?qy ?aC'3 ?j8 ?qz ?aC'4 ?oZ ?vq ?aC'5 ?j9 ?qC ?aC'6 ?aC'7 ?aC'8 ?aC'9 ?afC ?afD ?gM ?jD ?qD ?qF ?qG ?qH ?jP ?jQ ?jR ?fJ ?fK ?fL ?mU ?mV ?mW ?mX ?mY ?mZ ?m5 ?m6 ?m7 ?cT ?cN ?jE ?gk0 ?gk1 ?agR ?agS ?agT ?agU ?agV ?adY ?mk'6 ?zk ?zH ?m8 ?Lz ?Xl ?jc ?iu ?m9 ?nj ?qI ?qJ ?LC ?iw ?Dr
  (case aC'0=>k_is)
  (case yx=>k_is)
  (case Dm=>k_is)
  (case aC'1=>k_is)
  (case tW=>k_is)
  (case zF=>k_is)
  (case aC'2=>k_is)
  (case j7=>k_is)
  (case qy=>k_is)
  (case aC'3=>k_is)
  (case j8=>k_is)
  (case qz=>k_is)
  (case aC'4=>k_is)
  (case oZ=>k_is)
  (case vq=>k_is)
  (case aC'5=>k_is)
  (case j9=>k_is)
  (case qC=>k_is)
  (case aC'6=>k_is)
  (case aC'7=>k_is)
  (case aC'8=>k_is)
  (case aC'9=>k_is)
  (case afC=>k_is)
  (case afD=>k_is)
  (case gM=>k_is)
  (case jD=>k_is)
  (case qD=>k_is)
  (case qF=>k_is)
  (case qG=>k_is)
  (case qH=>k_is)
  (case jP=>k_is)
  (case jQ=>k_is)
  (case jR=>k_is)
  (case fJ=>k_is)
  (case fK=>k_is)
  (case fL=>k_is)
  (case mU=>k_is)
  (case mV=>k_is)
  (case mW=>k_is)
  (case mX=>k_is)
  (case mY=>k_is)
  (case mZ=>k_is)
  (case m5=>k_is)
  (case m6=>k_is)
  (case m7=>k_is)
  (case cT=>kit_is)
  (case cN=>kit_is)
  (case jE=>kit_is)
  (case gk0=>k_is)
  (case gk1=>k_is)
  (case agR=>k_is)
  (case agS=>k_is)
  (case agT=>k_is)
  (case agU=>k_is)
  (case agV=>k_is)
  (case adY=>k_is)
  (case mk'6=>k_is)
  (case zk=>k_is)
  (case zH=>k_is)
  (case m8=>k_is)
  (case Lz=>k_is)
  (case Xl=>k_is)
  (case jc=>k_is)
  (case iu=>k_is)
  (case m9=>k_is)
  (case nj=>k_is)
  (case qI=>k_is)
  (case qJ=>k_is)
  (case LC=>k_is)
  (case iw=>k_is)
  (case Dr=>k_is)
end
set_option Elab.async false
set_option linter.all false
set_option maxRecDepth 100000
namespace L2
open PySem PySem.Spec PyProof.Rows
abbrev Key:=Sum Int Str
def Ov:Key->Value->Bool
 | .inl k,v=>ak3 k v
 | .inr x,v=>ak2 x v
def keyH(w:World):Key->Int
 | .inl k=>hashInt k
 | .inr x=>hashStr w x
theorem eV:∀{k:Key}{v:Value},Ov k v=true->(∃i t,k=Sum.inl i/\v=Value.int i t)\/(∃x t,k=Sum.inr x/\v=Value.str x t)
 | .inl i,v,h=>by
  obtain⟨t,e⟩:=Value.isInt_shape (k:=i) (v:=v) h;exact .inl #[i,t,rfl,e]
 | .inr x,v,h=>by
  obtain⟨t,e⟩:=Value.isStrOf_shape (x:=x) (v:=v) h;exact .inr #[x,t,rfl,e]
theorem Ub(i:Int)(t:Tok):Ov (.inl i) (.int i t)=true:=by simp[Ov,ak3]
theorem agW(x:Str)(t:Tok):Ov (.inr x) (.str x t)=true:=by simp[Ov,ak2]
theorem arL(a b:Int):decide ((Sum.inl a:Key)=Sum.inl b)=(a == b):=by
 by_cases e:a=b
 ·subst e;simp
 ·have h:¬ (Sum.inl a:Key)=Sum.inl b:=fun q=>e (ak5 q);rw[decide_eq_false h];exact(beq_eq_false_iff_ne.mpr e).symm
theorem arM(a b:Str):decide ((Sum.inr a:Key)=Sum.inr b)=decide (a=b):=by
 by_cases e:a=b
 ·subst e;simp
 ·have h:¬ (Sum.inr a:Key)=Sum.inr b:=fun q=>e (Sum.inr.inj q);rw[decide_eq_false h,decide_eq_false e]
theorem arN(a:Int)(b:Str):decide ((Sum.inl a:Key)=Sum.inr b)=false:=decide_eq_false (fun q=>nomatch q)
theorem arO(a:Str)(b:Int):decide ((Sum.inr a:Key)=Sum.inl b)=false:=decide_eq_false (fun q=>nomatch q)
def bL(prog:aH)(w:World):PySem.KeyKind prog w Key where
 is:=Ov
 hash:=keyH w
 inj:=fun v a b ha hb=>by
  rcases eV ha with⟨i,t,rfl,rfl⟩|⟨x,t,rfl,rfl⟩
  ·rcases eV hb with⟨j,u,rfl,e⟩|⟨y,u,rfl,e⟩
   ·injection e with e1 _;rw[e1]
   ·exact nomatch e
  ·rcases eV hb with⟨j,u,rfl,e⟩|⟨y,u,rfl,e⟩
   ·exact nomatch e
   ·injection e with e1 _;rw[e1]
 byValue:=fun k v h=>by
  rcases eV h with⟨i,t,rfl,rfl⟩|⟨x,t,rfl,rfl⟩ <;> rfl
 pyHash:=fun hv h=>by
  rcases eV hv with⟨i,t,rfl,rfl⟩|⟨x,t,rfl,rfl⟩
  ·exact wpAny_pyHash_int h
  ·exact wpAny_pyHash_str h
 eqBool:=fun hu hv h=>by
  rcases eV hu with⟨i,t,rfl,rfl⟩|⟨x,t,rfl,rfl⟩
  ·rcases eV hv with⟨j,u,rfl,rfl⟩|⟨y,u,rfl,rfl⟩
   ·rw[arL]at h;exact wpAny_eqBool_int h
   ·rw[arN]at h;exact akL i t y u _ _ _ _ h
  ·rcases eV hv with⟨j,u,rfl,rfl⟩|⟨y,u,rfl,rfl⟩
   ·rw[arO]at h;exact akM x t j u _ _ _ _ h
   ·rw[arM]at h;exact wpAny_eqBool_str h
 «strs» := fun k x t v h=>by
  rcases eV h with⟨i,u,rfl,e⟩|⟨y,u,rfl,e⟩
  ·exact nomatch e
  ·injection e with e1 _;subst e1;cases v <;> rfl
theorem aai(prog:aH)(w:World)(i:Int)(t:Tok):(bL prog w).is (.inl i) (.int i t)=true:=Ub i t
theorem aaj(prog:aH)(w:World)(x:Str)(t:Tok):(bL prog w).is (.inr x) (.str x t)=true:=agW x t
inductive V where
 |non|bl (b:Bool)|int (i:Int)|str (x:Str)|byt (b:Array UInt8)|flt (b:UInt64)|ref (a:Addr)|ty (n:String)
 deriving DecidableEq
def RelV:V->Value->Prop
 | .non,u=>u=Value.none
 | .bl b,u=>u=Value.bool b
 | .int i,u=>∃t,u=Value.int i t
 | .str x,u=>∃t,u=Value.str x t
 | .byt b,u=>∃t,u=Value.bytes b t
 | .flt b,u=>∃t,u=Value.float b t
 | .ref a,u=>u=Value.ref a
 | .ty n,u=>u=Value.type n
abbrev Vals:List V->List Value->Prop:=Paired RelV
theorem Vals.length{xs:List V}{us:List Value}(r:Vals xs us):xs.length=us.length:=adR r
theorem Vals.get:∀{xs:List V}{us:List Value}{i:Nat}{x:V},Vals xs us->xs[i]? = some x->∃u,us[i]? = some u/\RelV x u
 |_,_,_,_,.nil,e=>by simp at e
 |_,_,0,_,.cons r _,e=>by simp at e;subst e;show#[_,rfl,r]
 |_,_,i+1,x,.cons _ t,e=>by
  obtain⟨u,h1,h2⟩:=Vals.get (i:=i) (x:=x) t (by simpa using e);show#[u,by simpa using h1,h2]
theorem Vals.set{x:V}{u:Value}(r:RelV x u):∀{xs:List V}{us:List Value}(i:Nat),Vals xs us->Vals (xs.set i x) (us.set i u)
 |_,_,_,.nil=>.nil
 |_,_,0,.cons _ t=>.cons r t
 |_,_,i+1,.cons q t=>.cons q (Vals.set r i t)
theorem Vals.append:∀{xs ys:List V}{us ws:List Value},Vals xs us->Vals ys ws->Vals (xs++ys) (us++ws)
 |_,_,_,_,.nil,s=>s
 |_,_,_,_,.cons r t,s=>.cons r (Vals.append t s)
theorem Vals.take:∀{xs:List V}{us:List Value}(n:Nat),Vals xs us->Vals (xs.take n) (us.take n)
 |_,_,0,_=>.nil
 |_,_,_+1,.nil=>.nil
 |_,_,n+1,.cons r t=>.cons r (Vals.take n t)
theorem Vals.drop:∀{xs:List V}{us:List Value}(n:Nat),Vals xs us->Vals (xs.drop n) (us.drop n)
 |_,_,0,r=>r
 |_,_,_+1,.nil=>.nil
 |_,_,n+1,.cons _ t=>Vals.drop n t
theorem Vals.none_of:∀{xs:List V}{us:List Value}{i:Nat},Vals xs us->xs[i]? = none->us[i]? = none:=fun {xs us i} r e=>by
 have h1:=r.length;have h2:xs.length<=i:=ab8.mp e;exact ab8.mpr tb_g%
def tZ:Option V->Option Value->Prop
 |some v,some u=>RelV v u
 |none,none=>True
 |_,_=>False
def KV{κ:Type}:List (κ × V)->List (κ × Value)->Prop:=Paired fun(p:κ × V) (q:κ × Value)=>p.1=q.1/\RelV p.2 q.2
def kV:Key->V
 | .inl i=>.int i
 | .inr x=>.str x
inductive HO where
 |lst (xs:List V)
 |tup (xs:List V)
 |dK (kvs:List (Key × V))|dT (kvs:List (List Key × V))
 |set (S:Int->Bool) (n:Nat)
 |ins (C dx:Addr) (fs:List (Str × V))
 |own (x:Addr)
 |xd (fs:List (Str × V))
 |met (f x:Addr)
 |rng (lo hi:Int)
 |frz (o:Obj) (u:HO)
 |tbl (ps:Array Value)
 |ext (φ:Heap->Prop)
abbrev Hp:=Addr->Option HO
def upd(H:Hp)(a:Addr)(o:HO):Hp:=fun b=>if b=a then some o else H b
theorem aj{H:Hp}{a:Addr}{o:HO}:upd H a o a=some o:=by unfold upd;rw[if_pos rfl]
theorem ao{H:Hp}{a b:Addr}{o:HO}(h:b≠a):upd H a o b=H b:=by unfold upd;rw[if_neg h]
theorem cC{H:Hp}{a:Addr}{o u:HO}:upd (upd H a o) a u=upd H a u:=by
 funext b;unfold upd;split <;> rfl
theorem jd{H:Hp}{a b:Addr}{o u:HO}(h:H a=some o)(h':H b=some u)(d:o≠u):a≠b:=by
 intro e;subst e;rw[h]at h';exact d (bN h')
theorem ak{H:Hp}{a b:Addr}{o:HO}(h:H a=some o)(h':H b=none):a≠b:=by
 intro e;subst e;rw[h]at h';cases h'
section
variable(P:aH)(w:World)
def cA(H:Hp)(h:Heap)(a:Addr):HO->Prop
 | .lst xs=>xs.length<=sizeLine/\∃(its:List Value)(n:Nat),Vals xs its/\h.get? a=some { cls:=.type "list",data:=.seq its.toArray n }
 | .tup xs=>xs.length<=sizeLine/\∃its:List Value,Vals xs its/\IsTup h a its.toArray
 | .dK kvs=>kvs.length<=sizeLine/\(a == rm)=false/\∃vs,KV kvs vs/\h.DictOf (bL P w) a vs
 | .dT kvs=>kvs.length<=sizeLine/\(a == rm)=false/\∃xs:List (List Key × Addr × Value),
   Paired (fun(p:List Key × V) (q:List Key × Addr × Value)=>p.1=q.1/\H q.2.1=some (.tup (p.1.map kV))/\RelV p.2 q.2.2) kvs xs /\
   ∃o es ep,h.get? a=some o/\o.ExactDict/\o.data=.dict es ep/\es.toList=xs.map (entryOfKey (Gp (bL P w)))/\(xs.map (·.1)).Nodup
 | .set S n=>h.SetOf (intKind P w) a S n
 | .ins C dx fs=>H dx=some (.own a)/\fs.length<=1000/\dx≠a/\h.get? a=some (xO C dx) /\
   ∃mA,h.Ns1 dx mA/\(∀f,tZ (fs.lookup f) (mA f))/\acQ mA (fs.map (·.1))
 | .own _=>∃o,h.get? a=some o
 | .xd fs=>∃mA,h.Ns1 a mA/\∀f,tZ (fs.lookup f) (mA f)
 | .rng lo hi=>∃t u v,h.get? a=some { cls:=.type "range",data:=.fields [.int lo t,.int hi u,.int 1 v].toArray }
 | .frz o u=>h.get? a=some o/\cA H h a u
 | .tbl ps=>h.get? a=some { cls:=.none,data:=.fields ps }
 | .met f x=>h.get? a=some (acA (.ref f) (.ref x))
 | .ext φ=>φ h/\(∃o,h.get? a=some o)/\∀h1 h2:Heap,φ h1->(∀o,h1.get? a=some o->h2.get? a=some o)->φ h2
def HOk(H:Hp)(h:Heap):Prop:=∀a o,H a=some o->cA P w H h a o
end
section
variable{P:aH}{w:World}{H H':Hp}{h h':Heap}{a:Addr}{o:HO}
theorem cA.lt(x:cA P w H h a o):a<h.objs.size:=by
 cases o with
 |lst xs=>obtain⟨_,_,_,_,e⟩:=x;exact aR e
 |tup xs=>obtain⟨_,_,_,p⟩:=x;exact p.lt
 |dK kvs=>obtain⟨_,_,_,_,o,_,_,e,_⟩:=x;exact aR e
 |dT kvs=>obtain⟨_,_,_,_,o,_,_,e,_⟩:=x;exact aR e
 |set S n=>obtain⟨o,_,_,_,e,_⟩:=x;exact aR e
 |ins C dx fs=>obtain⟨_,_,_,e,_⟩:=x;exact aR e
 |own y=>obtain⟨_,e⟩:=x;exact aR e
 |xd fs=>obtain⟨_,⟨_,_,_,e,_⟩,_⟩:=x;exact aR e
 |rng lo hi=>obtain⟨_,_,_,e⟩:=x;exact aR e
 |frz ob u=>obtain⟨e,_⟩:=x;exact aR e
 |tbl ps=>exact aR (show h.get? a=some _ from x)
 |met f y=>exact aR (show h.get? a=some _ from x)
 |ext φ=>obtain⟨_,⟨_,e⟩,_⟩:=x;exact aR e
theorem Paired.mapP{α β:Type}{F G:α->β->Prop}:∀{l₁:List α}{l₂:List β},Paired F l₁ l₂->(∀a b,F a b->G a b)->Paired G l₁ l₂
 |_,_,.nil,_=>.nil
 |_,_,.cons r t,f=>.cons (f _ _ r) (Paired.mapP t f)
theorem cA.stay(x:cA P w H h a o)(k:∀b u,(b=a\/H b=some (.own a))->h.get? b=some u->h'.get? b=some u)
  (ho:∀b,H b=some (.own a)->H' b=some (.own a)) (ht:∀b xs,H b=some (.tup xs)->H' b=some (.tup xs)):cA P w H' h' a o:=by
 induction o with
 |lst xs=>obtain⟨z,its,n,r,e⟩:=x;show#[z,its,n,r,k _ _ (.inl rfl) e]
 |tup xs=>obtain⟨z,its,r,ob,e,c⟩:=x;show#[z,its,r,ob,k _ _ (.inl rfl) e,c]
 |dK kvs=>obtain⟨z,y,vs,r,ob,es,ep,e,c⟩:=x;show#[z,y,vs,r,ob,es,ep,k _ _ (.inl rfl) e,c]
 |dT kvs =>
  obtain⟨z,y,xs,r,ob,es,ep,e,c⟩:=x;show#[z,y,xs,Paired.mapP r fun p q z=>#[z.1,ht _ _ z.2.1,z.2.2],ob,es,ep,k _ _ (.inl rfl) e,c]
 |set S n=>obtain⟨ob,es,ep,t,e,c⟩:=x;show#[ob,es,ep,t,k _ _ (.inl rfl) e,c]
 |ins C dx fs =>
  obtain⟨d,z,ne,e,mA,⟨od,es,ep,e2,c⟩,r⟩:=x;show#[ho _ d,z,ne,k _ _ (.inl rfl) e,mA,#[od,es,ep,k _ _ (.inr d) e2,c],r]
 |own y=>obtain⟨ob,e⟩:=x;show#[ob,k _ _ (.inl rfl) e]
 |xd fs=>obtain⟨mA,⟨od,es,ep,e,c⟩,r⟩:=x;show#[mA,#[od,es,ep,k _ _ (.inl rfl) e,c],r]
 |rng lo hi=>obtain⟨t,u,v,e⟩:=x;show#[t,u,v,k _ _ (.inl rfl) e]
 |frz ob u ih=>obtain⟨e,q⟩:=x;show#[k _ _ (.inl rfl) e,ih q]
 |tbl ps =>
  have e:h.get? a=some { cls:=.none,data:=.fields ps }:=x;show h'.get? a=some { cls:=.none,data:=.fields ps };exact k a _ (.inl rfl) e
 |met f y =>
  have e:h.get? a=some (acA (.ref f) (.ref y)):=x;show h'.get? a=some (acA (.ref f) (.ref y));exact k a _ (.inl rfl) e
 |ext φ=>obtain⟨p,⟨o,e⟩,st⟩:=x;show#[st _ _ p fun o q=>k _ _ (.inl rfl) q,#[o,k _ _ (.inl rfl) e],st]
theorem HOk.lt(x:HOk P w H h)(e:H a=some o):a<h.objs.size:=(x a o e).lt
theorem HOk.fresh(x:HOk P w H h)(e:h.objs.size<=a):H a=none:=by
 cases q:H a with
 |none=>rfl
 |some u=>exact absurd (dI (x.lt q) e) (oh _)
theorem HOk.kept(x:HOk P w H h)(k:∀b u,h.get? b=some u->h'.get? b=some u):HOk P w H h':=fun a o e =>
 (x a o e).stay (fun b u _ q=>k b u q) (fun _ q=>q) fun _ _ q=>q
theorem HOk.laid(x:HOk P w H h)(k:∀b u,h.get? b=some u->h'.get? b=some u)(hp:h.objs.size<=a)(new:cA P w (upd H a o) h' a o):HOk P w (upd H a o) h':=fun b u e=>by
 have hn:=x.fresh hp;by_cases hb:b=a
 ·subst hb;rw[aj]at e;cases e;exact new
 ·rw[ao hb]at e;exact(x b u e).stay (fun c v _ q=>k c v q) (fun c q=>by rwa[ao (ak q hn)]) fun c xs q=>by rwa[ao (ak q hn)]
end
def Rd(H:Hp)(a:Addr)(u:HO):Prop:=H a=some u\/∃o,H a=some (.frz o u)
theorem Rd.ok{P:aH}{w:World}{H:Hp}{h:Heap}{a:Addr}{u:HO}(r:Rd H a u)(x:HOk P w H h):cA P w H h a u:=by
 rcases r with r|⟨o,r⟩
 ·exact x a u r
 ·obtain⟨_,q⟩:=x a _ r;exact q
def Mut:Option HO->Prop
 |some (.lst _)=>True
 |some (.dK _)=>True
 |some (.dT _)=>True
 |some (.set _ _)=>True
 |some (.ins _ _ _)=>True
 |some (.ext _)=>True
 |_=>False
section
variable{P:aH}{w:World}{H:Hp}{h h':Heap}{x e:Addr}{o':HO}
theorem HOk.write(ok:HOk P w H h)(mu:Mut (H x))(he:e=x\/H e=some (.own x))(k:∀b u,b≠e->h.get? b=some u->h'.get? b=some u)(heo:∃u,h'.get? e=some u)
  (new:cA P w (upd H x o') h' x o'):HOk P w (upd H x o') h':=fun b u q=>by
 have nown:∀c y,H c=some (.own y)->c≠x:=fun c y r z=>by subst z;rwa[r]at mu
 have ntup:∀c xs,H c=some (.tup xs)->c≠x:=fun c xs r z=>by subst z;rwa[r]at mu
 by_cases hb:b=x
 ·subst hb;rw[aj]at q;cases q;exact new
 ·rw[ao hb]at q;by_cases hbe:b=e
  ·have q':H b=some (.own x):=by
    rcases he with z|z
    ·exact absurd (hbe.trans z) hb
    ·rwa[hbe]
   k_dat (q,q') "I"
   obtain⟨v,hv⟩:=heo;show#[v,by rwa[hbe]]
  ·refine(ok b u q).stay (fun c v hc r=>k c v ?_ r) (fun c r=>by rwa[ao (nown c b r)]) fun c xs r=>by rwa[ao (ntup c xs r)]
   rcases hc with rfl|hc
   ·exact hbe
   ·rintro rfl;rcases he with z|z
    ·exact nown c b hc z
    ·rw[hc]at z;cases z;exact hb rfl
end
structure Un(fs ex:List Addr)(H H':Hp)(h h':Heap):Prop where
 keep:∀b o,h.get? b=some o->H b=none->b∉fs->b∉ex->h'.get? b=some o
 slot:∀b o,h.get? b=some o->H b=none->b∈fs->b∉ex->∃sl,h'.get? b=some { o with slots:=sl }
 free:∀b o,h.get? b=some o->H b=none->b∉ex->H' b=none
 there:∀b o,h.get? b=some o->b∉ex->∃o',h'.get? b=some o'
 tups:∀b xs,H b=some (.tup xs)->H' b=some (.tup xs)
 rR:∀b o u,H b=some (.frz o u)->H' b=some (.frz o u)
 wZ:∀b ps,H b=some (.tbl ps)->∃more,H' b=some (.tbl (ps++more))
section
variable{fs fs' ex ex':List Addr}{H H1 H2:Hp}{h h1 h2 h':Heap}{a x e:Addr}{o:HO}
theorem Un.any(u:Un fs ex H H1 h h1){b:Addr}{ob:Obj}(q:h.get? b=some ob)(n:H b=none)(hx:b∉ex):∃sl,h1.get? b=some { ob with slots:=sl }:=by
 by_cases hb:b∈fs
 ·exact u.slot b ob q n hb hx
 ·show#[ob.slots,u.keep b ob q n hb hx]
theorem Un.kept(k:∀b u,h.get? b=some u->h'.get? b=some u):Un fs ex H H h h':=
 #[fun b ob q _ _ _=>k b ob q,fun b ob q _ _ _=>#[ob.slots,k b ob q],fun _ _ _ n _=>n,fun b ob q _=>#[ob,k b ob q],fun _ _ q=>q,fun _ _ _ q=>q,fun _ ps q=>#[#[],by rw[q];simp]]
theorem Un.refl:Un fs ex H H h h:=Un.kept fun _ _ q=>q
theorem Un.laid(k:∀b u,h.get? b=some u->h'.get? b=some u)(hp:h.objs.size<=a)(hn:H a=none):Un fs ex H (upd H a o) h h' where
 keep:=fun b u q _ _ _=>k b u q
 slot:=fun b u q _ _ _=>#[u.slots,k b u q]
 free:=fun b u q n _=>by rwa[ao (bR (dI (aR q) hp))]
 there:=fun b u q _=>#[u,k b u q]
 tups:=fun b xs q=>by rwa[ao (ak q hn)]
 rR:=fun b u xs q=>by rwa[ao (ak q hn)]
 wZ:=fun b ps q=>#[#[],by rw[ao (ak q hn),q];simp]
theorem Un.write(mu:Mut (H x))(he:e=x\/H e=some (.own x))(k:∀b u,b≠e->h.get? b=some u->h'.get? b=some u)(heo:∃u,h'.get? e=some u):Un fs ex H (upd H x o) h h':=by
 have hx:∀b,H b=none->b≠x:=fun b n z=>by subst z;rwa[n]at mu
 have hb:∀b,H b=none->b≠e:=fun b n z=>by
  subst z;rcases he with r|r
  ·exact hx b n r
  ·k_dat (n,r) "I"
 have hm:∀b u,H b=some u->¬ Mut (some u)->b≠x:=fun b u q nm z=>by subst z;rw[q]at mu;exact nm mu
 show#[fun b u q n _ _=>k b u (hb b n) q,fun b u q n _ _=>#[u.slots,k b u (hb b n) q],fun b u q n _=>by rw [ao (hx b n)];exact n,fun b u q _=>?_,
  fun b xs q=>by rw [ao (hm b _ q fun z=>z)];exact q,fun b u xs q=>by rw [ao (hm b _ q fun z=>z)];exact q,fun b ps q=>#[#[],by rw [ao (hm b _ q fun z=>z),q];simp]]
 by_cases hbe:b=e
 ·subst hbe;exact heo
 ·show#[u,k b u hbe q]
end
def trk(h:Heap)(H:Hp):List Addr:=(ju h.objs.size).filter fun a=>(H a).isSome
def Xm(h:Heap)(H:Hp):Heap:=aiP h (trk h H)
theorem agX(h:Heap)(H:Hp):(Xm h H).objs.size=h.objs.size:=PySem.W.hideAll_size _ _
theorem alf{h:Heap}{H:Hp}{b:Addr}{o:Obj}(e:h.get? b=some o)(n:H b=none):(Xm h H).get? b=some o:=
 acw _ e fun hm=>by
  have q:(H b).isSome=true:=(nO.mp hm).2;rw[n]at q;simp at q
theorem an9{h:Heap}{H:Hp}{b:Addr}{o:Obj}(e:(Xm h H).get? b=some o):h.get? b=some o/\H b=none:=by
 have e':h.get? b=some o:=Bf (trk h H) e;show#[e',?_];cases q:H b with
 |none=>rfl
 |some x =>
  have hm:b∈trk h H:=nO.mpr #[Mz.mpr (aR e'),by simp[q]];have z:(Xm h H).get? b=none:=xK (trk h H) hm
  k_dat (z,e) "I"
def aoa(g h:Heap)(L:Addr):List (Addr × Obj):=(ju h.objs.size).filterMap fun a=>if a=L\/(g.get? a).isSome=true then none else(h.get? a).map fun o=>(a,o)
def rest(g h:Heap)(L d:Addr):List (Addr × Obj):=(aoa g h L).filter fun p=>decide (p.1≠d)
structure Mod(K:aG)(mg:Str->Option Value)(base:Heap):Prop where
 kin:K.In base
 glob:base.Ns cu mg
 blt:∃mb,base.Ns acW mb/\∀x:Str,x ≠ "__name__" -> mb x=uP x
 nolimit:base.NoLimit
structure Cx where
 prog:aH
 w:World
 K:aG
 mg:Str->Option Value
 base:Heap
 A:aP
 N:List Str
 s₀:Shared
 H₀:Hp
 env:Env
 outer:List Env
 stack:List Env
 ex:List Addr
 fn:Str->Bool
 calm:Bool
 pn:List (Addr × Obj)
 xe:Value->Shared->Prop
def frs(l:List Env):List Addr:=l.filterMap (·.frame)
abbrev Cx.fs(X:Cx):List Addr:=frs X.outer
def Vis(sc:Scope)(x:Str):Prop:=sc.names.lookup x=some .local\/sc.names.lookup x=some .cell\/sc.names.lookup x=some .free
def Loc(sc:Scope)(x:Str):Prop:=sc.names.lookup x=some .local\/sc.names.lookup x=some .cell
def Look(env:Env)(h:Heap)(m:Str->Option Value)(x:Str)(u:Value):Prop:=
 (env.kindOf x=some .local/\m x=some u)\/((env.kindOf x=some .cell\/env.kindOf x=some .free)/\∃c,env.cells.lookup x=some c/\h.IsCell c (some u))
structure Cx.Ok(X:Cx):Prop where
 mod:Mod X.K X.mg X.base
 kind:X.env.scope.kind=.function
 glob:X.env.globals=cu
 blt:X.env.builtins=acW
 above:X.s₀.heap.objs.size<=X.env.locals
 inj:∀x y c,X.env.cells.lookup x=some c->X.env.cells.lookup y=some c->x=y
 has:∀x,(X.env.kindOf x=some .cell\/X.env.kindOf x=some .free)->∃c,X.env.cells.lookup x=some c
 cab:∀x c,X.fn x=true->X.env.cells.lookup x=some c->X.s₀.heap.objs.size<=c
 hd:X.calm=true->X.A.handled=none
 frames:X.A.frames=some X.stack
 stk:X.stack=X.outer\/(X.stack=X.env::X.outer/\X.env.frame=some X.env.locals)
 exf:∀b∈X.ex,b≠X.env.locals/\∀x c,X.env.cells.lookup x=some c->c≠b
 bs:∀b o,X.base.get? b=some o->X.s₀.heap.get? b=some o/\X.H₀ b=none
 bsz:X.base.objs.size<=X.s₀.heap.objs.size
 adZ:∀b o,X.base.get? b=some o->b∉X.ex
 agY:∀b∈X.ex,b∉X.fs
 Cg:X.s₀.heap.FunFrames X.base X.outer
 frf:∀b∈X.fs,X.H₀ b=none
structure Inv(X:Cx)(pins:List (Addr × Obj))(σ:List (Option V))(H:Hp)(s:Shared):Prop where
 ok:X.Ok
 os:s.os=X.s₀.os
 bare:rD s.gens
 base:Un X.fs X.ex X.H₀ H X.s₀.heap s.heap
 loc:∃m,s.heap.Ns X.env.locals m/\∀(i:Nat)(x:Str)(v:V),X.N[i]? = some x->σ[i]? = some (some v)->Vis X.env.scope x->∃u,RelV v u/\Look X.env s.heap m x u
 cell:∀x c,X.env.cells.lookup x=some c->∃v,s.heap.IsCell c v
 free:H X.env.locals=none
 qK:∀x c,X.env.cells.lookup x=some c->H c=none
 pin:∀p∈X.pn++pins,s.heap.get? p.1=some p.2/\H p.1=none/\p.1≠X.env.locals/\p.1∉X.fs/\∀v,p.2.data≠.cell v
 hok:HOk X.prog X.w H s.heap
 len:σ.length=X.N.length
section
variable{X:Cx}{pins:List (Addr × Obj)}{σ:List (Option V)}{H H':Hp}{s:Shared}{h':Heap}
theorem Cx.Ok.nofr(ok:X.Ok){b:Addr}{o:Obj}(e:X.base.get? b=some o):b∉X.fs:=fun hb=>by
 have:=(ok.Cg.mem hb).1;rw[e]at this;cases this
theorem Inv.bs(I:Inv X pins σ H s):∀b o,X.base.get? b=some o->s.heap.get? b=some o/\H b=none:=fun b o e =>
 #[I.base.keep b o (I.ok.bs b o e).1 (I.ok.bs b o e).2 (I.ok.nofr e) (I.ok.adZ b o e),I.base.free b o (I.ok.bs b o e).1 (I.ok.bs b o e).2 (I.ok.adZ b o e)]
theorem Inv.bk(I:Inv X pins σ H s):∀b o,X.base.get? b=some o->s.heap.get? b=some o:=fun b o e=>(I.bs b o e).1
theorem Inv.mod(I:Inv X pins σ H s):Mod X.K X.mg X.base:=I.ok.mod
theorem Inv.kIn(I:Inv X pins σ H s):X.K.In s.heap:=I.ok.mod.kin.keeps I.bk
theorem Inv.nolimit(I:Inv X pins σ H s):s.heap.NoLimit:=I.ok.mod.nolimit.keeps I.bk
theorem Inv.lt(I:Inv X pins σ H s):X.env.locals<s.heap.objs.size:=let ⟨_,hn,_⟩:=I.loc;hn.lt
theorem Inv.sz(I:Inv X pins σ H s):X.s₀.heap.objs.size<=s.heap.objs.size:=bQ I.ok.above (iV I.lt)
theorem Inv.nofs(I:Inv X pins σ H s){a:Addr}(h:s.heap.objs.size<=a):a∉X.fs:=fun hb=>by
 obtain⟨_,o,ho,_⟩:=I.ok.Cg.mem hb;exact absurd (dI (aR ho) (bQ I.sz h)) (oh _)
theorem Inv.cne(I:Inv X pins σ H s):∀x c,X.env.cells.lookup x=some c->c≠X.env.locals:=fun x c e z=>by
 obtain⟨v,o,ho,hd⟩:=I.cell x c e;obtain⟨m,⟨o',es,ep,ho',hd',_⟩,_⟩:=I.loc;rw[z,ho']at ho;cases ho;rw[hd']at hd;cases hd
theorem Inv.Cg(I:Inv X pins σ H s):s.heap.FunFrames X.base X.outer:=by
 have all:∀(l:List Env),(∀b∈frs l,b∈X.fs)->X.s₀.heap.FunFrames X.base l->s.heap.FunFrames X.base l:=by
  intro l
  induction l with
  |nil=>intro _ _;trivial
  |cons env r ih =>
   intro hs hl;obtain⟨hk,⟨L,o,hf,hn,ho,hd⟩,hr⟩:=hl;have hL:L∈X.fs:=hs L (by unfold frs;rw[wA,hf];exact bV);obtain⟨sl,e⟩:=I.base.slot L o ho (I.ok.frf L hL) hL fun z=>I.ok.agY L z hL;show#[hk,#[L,_,hf,hn,e,hd],ih (fun b hb=>hs b (by unfold frs;rw[wA,hf];exact cB _ hb)) hr]
 exact all X.outer (fun _ hb=>hb) I.ok.Cg
theorem Inv.stack(I:Inv X pins σ H s):s.heap.FunFrames X.base X.stack:=by
 rcases I.ok.stk with e|⟨e,hf⟩
 ·rw[e];exact I.Cg
 ·rw[e];obtain⟨m,hn,_⟩:=I.loc;refine .cons (by rw[I.ok.kind];decide) hf hn ?_ I.Cg;exact WK (bQ I.ok.bsz I.ok.above)
theorem Inv.Hu(I:Inv X pins σ H s):∀b∈frs X.stack,b∈X.env.locals::X.fs:=fun b hb=>by
 rcases I.ok.stk with e|⟨e,hf⟩
 ·rw[e]at hb;exact cB _ hb
 ·rw[e]at hb;unfold frs at hb;rwa[wA,hf]at hb
theorem Inv.zJ(I:Inv X pins σ H s):∀b∈frs X.stack,H b=none:=fun b hb=>by
 rcases aO.mp (I.Hu b hb)with e|hb
 ·rw[e];exact I.free
 ·obtain⟨_,o,ho,_⟩:=I.ok.Cg.mem hb;exact I.base.free b o ho (I.ok.frf b hb) fun z=>I.ok.agY b z hb
theorem Inv.step{g':Array ac2}{t':Nat}{d':Drawn}{ch:List Addr}(I:Inv X pins σ H s)
  (hch:∀b∈ch,(b∈X.ex\/X.s₀.heap.objs.size<=b)/\b≠X.env.locals/\(∀x c,X.env.cells.lookup x=some c->c≠b)/\∀p∈X.pn++pins,p.1≠b)
  (keep:∀b o,b≠X.env.locals->b∉X.fs->b∉ch->s.heap.get? b=some o->H b=none->h'.get? b=some o)
  (slot:∀b o,b≠X.env.locals->b∈X.fs->b∉ch->s.heap.get? b=some o->H b=none->∃sl,h'.get? b=some { o with slots:=sl }) (free:∀b o,b∉ch->s.heap.get? b=some o->H b=none->H' b=none)
  (there:∀b o,b∉ch->s.heap.get? b=some o->∃o',h'.get? b=some o')
  (tups:∀b xs,H b=some (.tup xs)->H' b=some (.tup xs)) (rR:∀b o u,H b=some (.frz o u)->H' b=some (.frz o u)) (wZ:∀b ps,H b=some (.tbl ps)->∃more,H' b=some (.tbl (ps++more)))
  (ns:∀m,s.heap.Ns X.env.locals m->h'.Ns X.env.locals m) (hok:HOk X.prog X.w H' h') (hg:rD g'):
  Inv X pins σ H' { s with heap:=h',gens:=g',drawn:=d',toks:=t' }:=by
 have neL:∀b o,X.s₀.heap.get? b=some o->b≠X.env.locals:=fun b o e=>bR (dI (aR e) I.ok.above);have neC:∀b o,X.s₀.heap.get? b=some o->b∉X.ex->b∉ch:=fun b o e hx hb=>by
  rcases(hch b hb).1 with z|z
  ·exact hx z
  ·exact absurd (dI (aR e) z) (oh _)
 have cellK:∀x c,X.env.cells.lookup x=some c->∀v,s.heap.IsCell c v->h'.IsCell c v:=fun x c e v ⟨o,ho,hd⟩=>by
  have nch:c∉ch:=fun z=>(hch c z).2.2.1 x c e rfl;by_cases hc:c∈X.fs
  ·obtain⟨sl,q⟩:=slot c o (I.cne x c e) hc nch ho (I.qK x c e);show#[_,q,hd]
  ·show#[o,keep c o (I.cne x c e) hc nch ho (I.qK x c e),hd]
 show#[I.ok,I.os,hg,#[fun b o e n hb hx=>?_,fun b o e n hb hx=>?_,fun b o e n hx=>?_,fun b o e hx=>?_,fun b xs e=>tups b xs (I.base.tups b xs e),fun b o xs e=>rR b o xs (I.base.rR b o xs e),fun b ps e=>?_],?_,fun x c e=>?_,?_,fun x c e=>?_,fun p hp=>?_,hok,I.len]
 ·exact keep b o (neL b o e) hb (neC b o e hx) (I.base.keep b o e n hb hx) (I.base.free b o e n hx)
 ·obtain⟨sl,e1⟩:=I.base.slot b o e n hb hx;obtain⟨sl',e2⟩:=slot b _ (neL b o e) hb (neC b o e hx) e1 (I.base.free b o e n hx);show#[sl',e2]
 ·obtain⟨o',e1⟩:=I.base.there b o e hx;exact free b o' (neC b o e hx) e1 (I.base.free b o e n hx)
 ·obtain⟨o',e1⟩:=I.base.there b o e hx;exact there b o' (neC b o e hx) e1
 ·obtain⟨m1,e1⟩:=I.base.wZ b ps e;obtain⟨m2,e2⟩:=wZ b _ e1;show#[m1++m2,by rw[e2,Array.append_assoc]]
 ·obtain⟨m,hn,hl⟩:=I.loc;show#[m,ns m hn,fun i x v e1 e2 e3=>?_];obtain⟨u,r,l⟩:=hl i x v e1 e2 e3;show#[u,r,?_];rcases l with l|⟨k,c,e,z⟩
  ·exact .inl l
  ·exact .inr #[k,c,e,cellK x c e _ z]
 ·obtain⟨v,z⟩:=I.cell x c e;show#[v,cellK x c e v z]
 ·obtain⟨m,⟨o,_,_,ho,_⟩,_⟩:=I.loc;exact free _ o (fun z=>(hch _ z).2.1 rfl) ho I.free
 ·obtain⟨v,o,ho,hd⟩:=I.cell x c e;exact free c o (fun z=>(hch c z).2.2.1 x c e rfl) ho (I.qK x c e)
 ·obtain⟨e,n,ne,nf,d⟩:=I.pin p hp;have nch:p.1∉ch:=fun z=>(hch p.1 z).2.2.2 p hp rfl;show#[keep p.1 p.2 ne nf nch e n,free p.1 p.2 nch e n,ne,nf,d]
theorem Inv.un{t':Nat}(I:Inv X pins σ H s)(u:Un X.fs [] H H' s.heap h')(hok:HOk X.prog X.w H' h'):Inv X pins σ H' { s with heap:=h',toks:=t' }:=by
 obtain ⟨m,⟨o,es,ep,ho,r⟩,_⟩:=id I.loc;obtain ⟨sl,hL⟩:=u.any ho I.free (by simp);exact I.step (g':=s.gens) (d':=s.drawn) (ch:=[]) (fun _ z=>nomatch z) (fun b o _ hb _ e n=>u.keep b o e n hb (by simp)) (fun b o _ hb _ e n=>u.slot b o e n hb (by simp)) (fun b o _ e n=>u.free b o e n (by simp)) (fun b o _ e=>u.there b o e (by simp)) u.tups u.rR u.wZ (fun m' hm=>by
  obtain⟨o',es',ep',ho',r'⟩:=hm
  k_dat (ho,ho') "I"
  show#[_,es',ep',hL,r']) hok I.bare
theorem Inv.call{g':Array ac2}{t':Nat}{d':Drawn}{ch:List Addr}(I:Inv X pins σ H s)(u:Un (frs X.stack) ch H H' s.heap h')(hok:HOk X.prog X.w H' h')(hg:rD g')
  (hch:∀b∈ch,(b∈X.ex\/X.s₀.heap.objs.size<=b)/\b≠X.env.locals/\(∀x c,X.env.cells.lookup x=some c->c≠b)/\∀p∈X.pn++pins,p.1≠b):
  Inv X pins σ H' { s with heap:=h',gens:=g',drawn:=d',toks:=t' }:=by
 obtain ⟨m,⟨o,es,ep,ho,r⟩,_⟩:=id I.loc;obtain ⟨sl,hL⟩:=u.any ho I.free fun z=>(hch _ z).2.1 rfl;exact I.step (ch:=ch) hch (fun b o hL hb hc e n=>u.keep b o e n (fun z=>(aO.mp (I.Hu b z)).elim hL hb) hc) (fun b o _ _ hc e n=>u.any e n hc) (fun b o hc e n=>u.free b o e n hc) (fun b o hc e=>u.there b o e hc) u.tups u.rR u.wZ (fun m' hm=>by
  obtain⟨o',es',ep',ho',r'⟩:=hm
  k_dat (ho,ho') "I"
  show#[_,es',ep',hL,r']) hok hg
theorem Inv.turned{t':Nat}{it:Addr}(I:Inv X pins σ H s)(k:∀b o,b≠it->s.heap.get? b=some o->h'.get? b=some o)(hn:H it=none)(hL:it≠X.env.locals)
  (h1:it∈X.ex\/X.s₀.heap.objs.size<=it) (h2:∀x c,X.env.cells.lookup x=some c->c≠it) (h3:∀p∈X.pn++pins,p.1≠it):Inv X pins σ H { s with heap:=h',toks:=t' }:=by
 have nit:∀b u,H b=some u->b≠it:=fun b u e z=>by rw[z,hn]at e;cases e
 refine I.step (g':=s.gens) (d':=s.drawn) (ch:=[it]) (fun b hb=>?_) (fun b o _ _ hc e _=>k b o (fun z=>hc (by simp[z])) e) (fun b o _ _ hc e _=>#[o.slots,k b o (fun z=>hc (by simp[z])) e]) (fun _ _ _ _ n=>n)
  (fun b o hc e=>#[o,k b o (fun z=>hc (by simp[z])) e]) (fun _ _ e=>e) (fun _ _ _ e=>e) (fun b ps e=>#[#[],by rw[e];simp]) (fun m hm=>?_) (fun b u e=>?_) I.bare
 ·have e:b=it:=by simpa using hb
  subst e;show#[h1,hL,h2,h3]
 ·obtain⟨o,es,ep,ho,r⟩:=hm;show#[o,es,ep,k _ o (aL hL) ho,r]
 ·refine(I.hok b u e).stay (fun c v hc q=>k c v ?_ q) (fun _ q=>q) fun _ _ q=>q;rcases hc with z|z
  ·rw[z];exact nit b u e
  ·exact nit c _ z
theorem Inv.tok(I:Inv X pins σ H s)(t:Nat):Inv X pins σ H { s with toks:=t }:=I.un (h':=s.heap) (t':=t) Un.refl I.hok
theorem Inv.kept{t':Nat}(I:Inv X pins σ H s)(k:∀b u,s.heap.get? b=some u->h'.get? b=some u):Inv X pins σ H { s with heap:=h',toks:=t' }:=I.un (Un.kept k) (I.hok.kept k)
theorem Inv.laid{a:Addr}{o:HO}{t':Nat}(I:Inv X pins σ H s)(k:∀b u,s.heap.get? b=some u->h'.get? b=some u)(hp:s.heap.objs.size<=a)(new:cA X.prog X.w (upd H a o) h' a o):
  Inv X pins σ (upd H a o) { s with heap:=h',toks:=t' }:=I.un (Un.laid k hp (I.hok.fresh hp)) (I.hok.laid k hp new)
theorem Inv.write{x e:Addr}{o:HO}{t':Nat}(I:Inv X pins σ H s)(mu:Mut (H x))(he:e=x\/H e=some (.own x))(k:∀b u,b≠e->s.heap.get? b=some u->h'.get? b=some u)(heo:∃u,h'.get? e=some u)
  (new:cA X.prog X.w (upd H x o) h' x o):Inv X pins σ (upd H x o) { s with heap:=h',toks:=t' }:=I.un (Un.write mu he k heo) (I.hok.write mu he k heo new)
theorem Inv.afF{qL:List (Addr × Obj)}(I:Inv X pins σ H s)(h:∀p∈qL,s.heap.get? p.1=some p.2/\H p.1=none/\p.1≠X.env.locals/\p.1∉X.fs/\∀v,p.2.data≠.cell v):Inv X qL σ H s:=
 #[I.ok,I.os,I.bare,I.base,I.loc,I.cell,I.free,I.qK,fun p hp=>(cF.mp hp).elim (fun z=>I.pin p (Ms _ z)) (h p),I.hok,I.len]
theorem Ow{N:List Str}(hN:N.Nodup){i j:Nat}{x:Str}(a:N[i]? = some x)(b:N[j]? = some x):i=j:=by
 obtain⟨h1,e1⟩:=fu.mp a;obtain⟨h2,e2⟩:=fu.mp b;exact(List.getElem_inj hN).mp (e1.trans e2.symm)
theorem Uc{M:Model}{A:aP}{E:Value->Shared->Prop}{i:Nat}{x:Str}{v:V}{u:Value}{Q:Unit->Shared->Prop}(I:Inv X pins σ H s)(hN:X.N.Nodup)(hi:X.N[i]? = some x)(hx:Loc X.env.scope x)(r:RelV v u)
  (h:∀s',Inv X pins (σ.set i (some v)) H s'->(∃a,rA a s.heap s'.heap/\(a=X.env.locals\/X.env.cells.lookup x=some a))->Q () s') (hf:X.fn x=true\/X.env.scope.names.lookup x=some .local:=by first|exact .inl rfl|exact .inr rfl|assumption):wpAny M A (storeName X.env x u) Q E s:=by
 obtain⟨m,hn,hl⟩:=id I.loc;have hcls:(X.env.scope.kind == .class || (X.env.scope.kind == .module && X.env.locals != X.env.globals))=false:=by rw[I.ok.kind];rfl
 have hiσ:i<σ.length:=by rw[I.len];exact(fu.mp hi).1
 have cne:=I.cne;have tracked:∀{a:Addr}{h':Heap},(∃o,s.heap.get? a=some o/\H a=none)->rA a s.heap h'->HOk X.prog X.w H h':=fun {a h'} ha hs b ob e=>by
  obtain⟨_,_,hfree⟩:=ha;refine(I.hok b ob e).stay (fun c w' hc q=>(hs.2 c ?_).trans q) (fun _ q=>q) fun _ _ q=>q;rintro rfl;rcases hc with rfl|hc
  ·k_dat (hfree,e) "I"
  ·k_dat (hfree,hc) "I"
 rcases hx with hk|hk
 ·refine wpAny_storeName_local hk hn (fun h' hn' hs=>?_) hcls;obtain⟨oL,_,_,hoL,_⟩:=id hn;refine h _ #[I.ok,I.os,I.bare,#[fun b o e n hb hx=>?_,fun b o e n hb hx=>?_,I.base.free,fun b o e hx=>?_,I.base.tups,I.base.rR,I.base.wZ],#[_,hn',fun j y v' e1 e2 e3=>?_],fun y c e=>?_,I.free,I.qK,fun p hp=>?_,tracked #[oL,hoL,I.free] hs,by simpa using I.len] #[_,hs,.inl rfl]
  ·exact(hs.2 b (bR (dI (aR e) I.ok.above))).trans (I.base.keep b o e n hb hx)
  ·obtain⟨sl,e1⟩:=I.base.slot b o e n hb hx;show#[sl,(hs.2 b (bR (dI (aR e) I.ok.above))).trans e1]
  ·obtain⟨o',e1⟩:=I.base.there b o e hx;show#[o',(hs.2 b (bR (dI (aR e) I.ok.above))).trans e1]
  ·by_cases hj:j=i
   ·subst hj
    k_dat (hi,e1) "I"
    rw[Mq hiσ]at e2;cases e2;show#[u,r,.inl #[hk,by simp]]
   ·rw[Dh (aL hj)]at e2;obtain⟨u',r',q⟩:=hl j y v' e1 e2 e3;show#[u',r',?_];rcases q with⟨k,e⟩|⟨k,c,e,z⟩
    ·refine .inl #[k,?_];have:y≠x:=fun e=>hj (Ow hN e1 (e ▸ hi));simp[this,e]
    ·exact .inr #[k,c,e,z.sameBut hs (cne y c e)]
  ·obtain⟨w',z⟩:=I.cell y c e;show#[w',z.sameBut hs (cne y c e)]
  ·obtain⟨e,n,ne,nf,d⟩:=I.pin p hp;show#[(hs.2 p.1 ne).trans e,n,ne,nf,d]
 ·have hfn:X.fn x=true:=by
   rcases hf with z|z
   ·exact z
   ·k_dat (z,hk) "I"
  obtain⟨c,hc⟩:=I.ok.has x (.inl hk);obtain⟨w',z⟩:=I.cell x c hc;refine wpAny_storeName_cell I.ok.kind hk hc z (fun h' hc' hs=>?_);obtain⟨oc,hoc,hocd⟩:=id z;refine h { s with heap:=h' } #[I.ok,I.os,I.bare,#[fun b o e n hb hx=>?_,fun b o e n hb hx=>?_,I.base.free,fun b o e hx=>?_,I.base.tups,I.base.rR,I.base.wZ],#[m,hn.sameBut hs (aL (cne x c hc)),fun j y v' e1 e2 e3=>?_],fun y c' e=>?_,I.free,I.qK,fun p hp=>?_,tracked #[oc,hoc,I.qK x c hc] hs,by simpa using I.len] #[c,hs,.inr hc]
  ·exact(hs.2 b (bR (dI (aR e) (I.ok.cab x c hfn hc)))).trans (I.base.keep b o e n hb hx)
  ·obtain⟨sl,e1⟩:=I.base.slot b o e n hb hx;show#[sl,(hs.2 b (bR (dI (aR e) (I.ok.cab x c hfn hc)))).trans e1]
  ·obtain⟨o',e1⟩:=I.base.there b o e hx;show#[o',(hs.2 b (bR (dI (aR e) (I.ok.cab x c hfn hc)))).trans e1]
  ·by_cases hj:j=i
   ·subst hj
    k_dat (hi,e1) "I"
    rw[Mq hiσ]at e2;cases e2;show#[u,r,.inr #[.inl hk,c,hc,hc']]
   ·rw[Dh (aL hj)]at e2;obtain⟨u',r',q⟩:=hl j y v' e1 e2 e3;show#[u',r',?_];rcases q with q|⟨k,c',e,z'⟩
    ·exact .inl q
    ·refine .inr #[k,c',e,z'.sameBut hs ?_];rintro rfl;exact hj (Ow hN e1 (I.ok.inj _ _ _ e hc ▸ hi))
  ·by_cases hcc:c'=c
   ·subst hcc;show#[_,hc']
   ·obtain⟨w2,z2⟩:=I.cell y c' e;show#[w2,z2.sameBut hs hcc]
  ·obtain⟨e,n,ne,nf,d⟩:=I.pin p hp;show#[(hs.2 p.1 ?_).trans e,n,ne,nf,d];intro q;rw[q,hoc]at e;have q':oc=p.2:=bN e;exact d w' (by rwa[<-q'])
theorem Ox{M:Model}{A:aP}{E:Value->Shared->Prop}{i:Nat}{x:Str}{v:V}{u:Value}{Q:Unit->Shared->Prop}(I:Inv X pins σ H s)(hN:X.N.Nodup)(hi:X.N[i]? = some x)(hx:Loc X.env.scope x)(r:RelV v u)
  (h:∀s',Inv X pins (σ.set i (some v)) H s'->Q () s') (hf:X.fn x=true\/X.env.scope.names.lookup x=some .local:=by first|exact .inl rfl|exact .inr rfl|assumption):wpAny M A (storeName X.env x u) Q E s:=
 Uc I hN hi hx r (fun s' I' _=>h s' I') hf
theorem Inv.call'{s':Shared}{ch:List Addr}(I:Inv X pins σ H s)(ho:s'.os=s.os)(u:Un (frs X.stack) ch H H' s.heap s'.heap)(hok:HOk X.prog X.w H' s'.heap)(hg:rD s'.gens)
  (hch:∀b∈ch,(b∈X.ex\/X.s₀.heap.objs.size<=b)/\b≠X.env.locals/\(∀x c,X.env.cells.lookup x=some c->c≠b)/\∀p∈X.pn++pins,p.1≠b):Inv X pins σ H' s':=by
 obtain⟨h',g',d',t',o'⟩:=s';have e:o'=s.os:=ho;subst e;exact I.call (g':=g') (t':=t') (d':=d') u hok hg hch
end
abbrev XK:=Value->Option Addr->Hp->Prop
abbrev St:=List (Option V)
abbrev VK:=V->Hp->Prop
abbrev TE:=St->Hp->VK->Prop
abbrev TT:=St->Hp->(Bool->Hp->Prop)->Prop
abbrev TA:=St->Hp->(List V->Hp->Prop)->Prop
structure Ends where
 nx:St->Hp->Prop
 rt:VK
 bk:St->Hp->Prop:=fun _ _=>False
 ct:St->Hp->Prop:=fun _ _=>False
abbrev TS:=Ends->St->Hp->Prop
def EP(X:Cx)(pins:List (Addr × Obj))(σ:St)(Q:VK)(u:Value)(s':Shared):Prop:=∃v H',Inv X pins σ H' s'/\RelV v u/\Q v H'
def TP(X:Cx)(pins:List (Addr × Obj))(σ:St)(Q:Bool->Hp->Prop)(b:Bool)(s':Shared):Prop:=∃H',Inv X pins σ H' s'/\Q b H'
def AP(X:Cx)(pins:List (Addr × Obj))(σ:St)(Q:List V->Hp->Prop)(us:List Value)(s':Shared):Prop:=∃vs H',Inv X pins σ H' s'/\Vals vs us/\Q vs H'
def SP(X:Cx)(pins:List (Addr × Obj))(D:Ends)(f:Flow)(s':Shared):Prop:=
 match f with
 | .next=>∃σ' H',Inv X pins σ' H' s'/\D.nx σ' H'
 | .brk=>∃σ' H',Inv X pins σ' H' s'/\D.bk σ' H'
 | .cont=>∃σ' H',Inv X pins σ' H' s'/\D.ct σ' H'
 | .ret u=>∃v σ' H',Inv X pins σ' H' s'/\RelV v u/\D.rt v H'
def PE(X:Cx)(e:Expr)(t:TE):Prop:=
 ∀(pins:List (Addr × Obj)) (s:Shared) (σ:St) (H:Hp) (Q:VK),Inv X pins σ H s->t σ H Q->wpAny (model X.prog X.w) X.A (eval e X.env) (EP X pins σ Q) X.xe s
def PT(X:Cx)(e:Expr)(t:TT):Prop:=
 ∀(pins:List (Addr × Obj)) (s:Shared) (σ:St) (H:Hp) (Q:Bool->Hp->Prop),Inv X pins σ H s->t σ H Q->wpAny (model X.prog X.w) X.A (Nt e X.env (eval e X.env)) (TP X pins σ Q) X.xe s
def PW(X:Cx)(e:Expr)(t:TT):Prop:=
 ∀(whole:Sem Value) (pins:List (Addr × Obj)) (s:Shared) (σ:St) (H:Hp) (Q:Bool->Hp->Prop),Inv X pins σ H s->t σ H Q->wpAny (model X.prog X.w) X.A (Nt e X.env whole) (TP X pins σ Q) X.xe s
theorem PW.pt{X:Cx}{e:Expr}{t:TT}(h:PW X e t):PT X e t:=h _
def PA(X:Cx)(es:List Expr)(t:TA):Prop:=
 ∀(pos:Pos) (pins:List (Addr × Obj)) (s:Shared) (σ:St) (H:Hp) (Q:List V->Hp->Prop),Inv X pins σ H s->t σ H Q->wpAny (model X.prog X.w) X.A (spliced (cY pos (aZ es X.env))) (AP X pins σ Q) X.xe s
def PS(X:Cx)(st:Stmt)(t:TS):Prop:=
 ∀(pins:List (Addr × Obj)) (s:Shared) (σ:St) (H:Hp) (D:Ends),Inv X pins σ H s->t D σ H->wpAny (model X.prog X.w) X.A (exec st X.env) (SP X pins D) X.xe s
def PSs(X:Cx)(st:List Stmt)(t:TS):Prop:=
 ∀(pins:List (Addr × Obj)) (s:Shared) (σ:St) (H:Hp) (D:Ends),Inv X pins σ H s->t D σ H->wpAny (model X.prog X.w) X.A (execs st X.env) (SP X pins D) X.xe s
theorem thn{α:Type}{t:Sem α}{Q Q':α->Shared->Prop}{M:Model}{A:aP}{E:Value->Shared->Prop}{s:Shared}(h:wpAny M A t Q E s)(hQ:∀a s,Q a s->Q' a s):wpAny M A t Q' E s:=dH h hQ fun _ _ x=>x
section
variable{X:Cx}
inductive RV (o:Option (Option V)) (H:Hp) (Q:VK):Prop
 |k (v:V):o=some (some v)->Q v H->RV o H Q
@[reducible] def alg(i:Nat):TE:=fun σ H Q=>RV σ[i]? H Q
@[reducible] def tC(v:V):TE:=fun _ H Q=>Q v H
theorem arP{i:Nat}{x:Str}{pos:Pos}(hN:X.N[i]? = some x)(hv:Vis X.env.scope x)(hd:(x == ("__debug__" : Str))=false:=by decide)(hcd:(x == ("__classdict__" : Str))=false:=by decide):PE X (.Name x pos) (alg i):=by
 walk_at "l"
 obtain⟨v,e,h⟩:=h;obtain⟨m,hn,hl⟩:=I.loc;obtain⟨u,r,l⟩:=hl i x v hN e hv;have fin:EP X pins σ Q u s:=#[v,H,I,r,h];rcases l with⟨hk,hm⟩|⟨hk,c,hc,hcell⟩
 ·exact acX (wpAny_loadName_local I.ok.kind hk hn hm fin) hd
 ·rcases hk with hk|hk
  ·exact acX (wpAny_loadName_cell I.ok.kind hk hc hcell fin) hd
  ·exact acX (wpAny_loadName_free I.ok.kind hk hc hcell fin hcd) hd
theorem Hv{i j pos}:PE X (.Constant (.int i) j pos) (tC (.int i)):=fun _ _ _ H _ I h=>wpAny_Constant_int #[.int i,H,I.tok _,#[_,rfl],h]
theorem aak{b j pos}:PE X (.Constant (.bool b) j pos) (tC (.bl b)):=fun _ _ _ H _ I h=>akj #[.bl b,H,I,rfl,h]
theorem ad0{j pos}:PE X (.Constant .none j pos) (tC .non):=fun _ _ _ H _ I h=>Constant_none #[.non,H,I,rfl,h]
theorem alh{x j pos}:PE X (.Constant (.str x) j pos) (tC (.str x)):=fun _ _ _ H _ I h=>Calls.Constant_str #[.str x,H,I.tok _,#[_,rfl],h]
def Gl(X:Cx)(x:Str):Prop:=X.env.kindOf x=some .globalImplicit
theorem qM{E:Value->Shared->Prop}{pins:List (Addr × Obj)}{s:Shared}{σ:St}{H:Hp}{x:Str}{u:Value}{pos:Pos}{Q:Value->Shared->Prop}(I:Inv X pins σ H s)(hg:Gl X x)(hm:X.mg x=some u)(h:Q u s)
  (hd:(x == ("__debug__" : Str))=false:=by decide):wpAny (model X.prog X.w) X.A (eval (.Name x pos) X.env) Q E s:=
 akD I.ok.kind hg (Calls.loadGlobal_global (by rw[I.ok.glob];exact I.mod.glob.keeps I.bk) hm h) hd
theorem iB{E:Value->Shared->Prop}{pins:List (Addr × Obj)}{s:Shared}{σ:St}{H:Hp}{x:Str}{u:Value}{pos:Pos}{Q:Value->Shared->Prop}(I:Inv X pins σ H s)(hg:Gl X x)(hm:X.mg x=none)(hv:uP x=some u)(h:Q u s)
  (hn:x ≠ "__name__" := by decide) (hd:(x == ("__debug__" : Str))=false:=by decide):wpAny (model X.prog X.w) X.A (eval (.Name x pos) X.env) Q E s:=by
 obtain⟨mb,h1,h2⟩:=I.mod.blt;exact akD I.ok.kind hg (Calls.loadGlobal_builtin (by rw[I.ok.glob];exact I.mod.glob.keeps I.bk) hm (by rw[I.ok.blt];exact h1.keeps I.bk) ((h2 x hn).trans hv) h) hd
theorem dU{x:Str}{v:V}{u:Value}{pos:Pos}(hg:Gl X x)(hm:X.mg x=some u)(r:RelV v u)(hd:(x == ("__debug__" : Str))=false:=by decide):PE X (.Name x pos) (tC v):=
 fun _ _ _ H _ I h=>qM I hg hm #[v,H,I,r,h] hd
theorem Xn{x:Str}{v:V}{u:Value}{pos:Pos}(hg:Gl X x)(hm:X.mg x=none)(hv:uP x=some u)(r:RelV v u)(hn:x ≠ "__name__" := by decide)(hd:(x == ("__debug__" : Str))=false:=by decide):PE X (.Name x pos) (tC v):=
 fun _ _ _ H _ I h=>iB I hg hm hv #[v,H,I,r,h] hn hd
variable{a b:Expr}{ta tb:TE}{pos:Pos}
@[reducible] def tB(t:TE):TT:=fun σ H Q=>t σ H fun x H1=>∃c,x=.bl c/\Q c H1
theorem ad2{e:Expr}{t:TE}(h:PE X e t)(he:∀whole,Nt e X.env whole=(do let v <-whole;Np e.pos;BJ [v] (truthy v)):=by intro _;rfl):PT X e (tB t):=by
 intro pins s σ H Q I hw;refine isTrue_plain (thn (h pins s σ H _ I hw) fun v s1 zq=>?_) (he _)
 walk_at "w"
 obtain⟨d,rfl,q⟩:=q1;cases r1;exact Bk #[H1,I1,q]
variable{tA tB':TT}{rest:List Expr}
@[reducible] def tAnd(t u:TT):TT:=fun σ H Q=>t σ H fun c H1=>if c=true then u σ H1 Q else Q false H1
@[reducible] def tOr(t u:TT):TT:=fun σ H Q=>t σ H fun c H1=>if c=true then Q true H1 else u σ H1 Q
@[reducible] def tNot(t:TT):TT:=fun σ H Q=>t σ H fun c H1=>Q (!c) H1
theorem pw_and1(ha:PT X a tA):PW X (.BoolOp .And [a] pos) tA:=by
 intro wh pins s σ H Q I h;refine isTrue_and (thn (ha pins s σ H Q I h) fun c s1 e=>?_);cases c with
 |true=>exact isTrue_and_nil e
 |false=>exact e
theorem pw_or1(ha:PT X a tA):PW X (.BoolOp .Or [a] pos) tA:=by
 intro wh pins s σ H Q I h;refine isTrue_or (thn (ha pins s σ H Q I h) fun c s1 e=>?_);cases c with
 |false=>exact isTrue_or_nil e
 |true=>exact e
theorem pw_and(ha:PT X a tA)(hb:PW X (.BoolOp .And (b::rest) pos) tB'):PW X (.BoolOp .And (a::b::rest) pos) (tAnd tA tB'):=by
 intro wh pins s σ H Q I h
 k_dat (isTrue_and,ha,c) "z"
 obtain⟨H1,I1,q1⟩:=zq;cases c with
 |true=>exact hb wh pins s1 σ H1 Q I1 q1
 |false=>show#[H1,I1,q1]
theorem pw_or(ha:PT X a tA)(hb:PW X (.BoolOp .Or (b::rest) pos) tB'):PW X (.BoolOp .Or (a::b::rest) pos) (tOr tA tB'):=by
 intro wh pins s σ H Q I h
 k_dat (isTrue_or,ha,c) "z"
 obtain⟨H1,I1,q1⟩:=zq;cases c with
 |true=>show#[H1,I1,q1]
 |false=>exact hb wh pins s1 σ H1 Q I1 q1
theorem ali(ha:PT X a tA):PT X (.UnaryOp .Not a pos) (tNot tA):=by
 walk_at "l"
 exact isTrue_not (ha pins s σ H (fun c H1=>Q (!c) H1) I h)
@[reducible] def tAndV(ta tb:TE):TE:=fun σ H Q=>ta σ H fun x H1=>∃c,x=.bl c/\if c=true then tb σ H1 Q else Q (.bl false) H1
@[reducible] def tOrV(ta tb:TE):TE:=fun σ H Q=>ta σ H fun x H1=>∃c,x=.bl c/\if c=true then Q (.bl true) H1 else tb σ H1 Q
theorem arQ{op}{t:TE}(h:PE X a t):PE X (.BoolOp op [a] pos) t:=fun pins s σ H Q I hw=>BoolOp_one (h pins s σ H Q I hw)
theorem arR(ha:PE X a ta)(hb:PE X (.BoolOp .And (b::rest) pos) tb):PE X (.BoolOp .And (a::b::rest) pos) (tAndV ta tb):=by
 walk_at "l"
 k_dat (BoolOp_and,ha,v) "z"
 walk_at "w"
 obtain⟨c,rfl,q1⟩:=q1;cases r1;refine Bk ?_;cases c with
 |true=>exact hb pins s1 σ H1 Q I1 q1
 |false=>show#[.bl false,H1,I1,rfl,q1]
theorem pe_or(ha:PE X a ta)(hb:PE X (.BoolOp .Or (b::rest) pos) tb):PE X (.BoolOp .Or (a::b::rest) pos) (tOrV ta tb):=by
 walk_at "l"
 k_dat (BoolOp_or,ha,v) "z"
 walk_at "w"
 obtain⟨c,rfl,q1⟩:=q1;cases r1;refine Bk ?_;cases c with
 |false=>exact hb pins s1 σ H1 Q I1 q1
 |true=>show#[.bl true,H1,I1,rfl,q1]
def tIf(t:TT)(ta tb:TE):TE:=fun σ H Q=>t σ H fun c H1=>if c=true then ta σ H1 Q else tb σ H1 Q
theorem Oz{c:Expr}(hc:PT X c tA)(ha:PE X a ta)(hb:PE X b tb):PE X (.IfExp c a b pos) (tIf tA ta tb):=by
 walk_at "l"
 k_dat (wpAny_IfExp,hc,d) "z"
 obtain⟨H1,I1,q1⟩:=zq;cases d with
 |true=>exact ha pins s1 σ H1 Q I1 q1
 |false=>exact hb pins s1 σ H1 Q I1 q1
end
def SqL(K:aG)(H:Hp)(a:Addr)(xs:List V):Prop:=
 Rd H a (.lst xs) \/
  ∃(o:Obj)(its:Array Value)(n:Nat),K.lookup a=some o/\o.cls=.type "list" /\ o.dict=none/\o.data=.seq its n/\its.size<=sizeLine/\Vals xs its.toList
def SqT(K:aG)(H:Hp)(a:Addr)(xs:List V):Prop:=
 Rd H a (.tup xs) \/
  ∃(o:Obj)(its:Array Value)(n:Nat),K.lookup a=some o/\o.cls=.type "tuple" /\ o.data=.seq its n/\its.size<=sizeLine/\Vals xs its.toList
def absV:Value->Option V
 | .none=>some .non
 | .bool b=>some (.bl b)
 | .int i _=>some (.int i)
 | .str x _=>some (.str x)
 | .bytes b _=>some (.byt b)
 | .float b _=>some (.flt b)
 | .ref a=>some (.ref a)
 | .type n=>some (.ty n)
 |_=>none
theorem RelV.abs{x:V}{u:Value}(r:RelV x u):absV u=some x:=by
 cases x with
 |non=>cases r;rfl
 |bl _=>cases r;rfl
 |int _=>obtain⟨t,rfl⟩:=r;rfl
 |str _=>obtain⟨t,rfl⟩:=r;rfl
 |byt _=>obtain⟨t,rfl⟩:=r;rfl
 |flt _=>obtain⟨t,rfl⟩:=r;rfl
 |ref _=>cases r;rfl
 |ty _=>cases r;rfl
theorem RelV.inj{x y:V}{u:Value}(r:RelV x u)(q:RelV y u):x=y:=bN (r.abs.symm.trans q.abs)
theorem Vals.inj:∀{xs ys:List V}{us:List Value},Vals xs us->Vals ys us->xs=ys
 |_,_,_,.nil,.nil=>rfl
 |_,_,_,.cons r t,.cons r' t'=>by rw[r.inj r',Vals.inj t t']
section
variable{X:Cx}{pins:List (Addr × Obj)}{σ:St}{H:Hp}{s:Shared}{a:Addr}{xs ys:List V}
theorem Inv.list(I:Inv X pins σ H s)(h:SqL X.K H a xs):∃its:List Value,Vals xs its/\PlainL s.heap a its.toArray/\xs.length<=sizeLine:=by
 rcases h with h|⟨o,its,n,hk,hc,hd,hs,hz,r⟩
 ·obtain⟨z,its,n,r,e⟩:=h.ok I.hok;show#[its,r,#[_,n,e,rfl,rfl,rfl],z]
 ·show#[its.toList,r,#[o,n,I.kIn a o hk,hc,hd,by simpa using hs],?_];have e:=r.length;simp only[tU]at e;lia
theorem Inv.tuple(I:Inv X pins σ H s)(h:SqT X.K H a xs):∃its:List Value,Vals xs its/\IsTup s.heap a its.toArray/\xs.length<=sizeLine:=by
 rcases h with h|⟨o,its,n,hk,hc,hs,hz,r⟩
 ·obtain⟨z,its,r,p⟩:=h.ok I.hok;show#[its,r,p,z]
 ·show#[its.toList,r,#[o,I.kIn a o hk,hc,n,by simpa using hs],?_];have e:=r.length;simp only[tU]at e;lia
theorem Inv.aal(I:Inv X pins σ H s)(h:SqL X.K H a xs)(h':SqL X.K H a ys):xs=ys:=by
 obtain⟨its,r,⟨o,n,e,_,_,d⟩,_⟩:=I.list h;obtain⟨its',r',⟨o',n',e',_,_,d'⟩,_⟩:=I.list h'
 k_dat (e,e') "I"
 rw[d]at d';injection d' with d1 _;have:its=its':=by simpa using congrArg akB d1
 subst this;exact r.inj r'
theorem Inv.agZ(I:Inv X pins σ H s)(h:SqT X.K H a xs)(h':SqT X.K H a ys):xs=ys:=by
 obtain⟨its,r,⟨o,e,_,n,d⟩,_⟩:=I.tuple h;obtain⟨its',r',⟨o',e',_,n',d'⟩,_⟩:=I.tuple h'
 k_dat (e,e') "I"
 rw[d]at d';injection d' with d1 _;have:its=its':=by simpa using congrArg akB d1
 subst this;exact r.inj r'
end
abbrev Cx.wish(X:Cx)(E:Value->Shared->Prop):Cx:={ X with xe:=E }
abbrev Cx.nox(X:Cx):Cx:=X.wish fun _ _=>False
theorem Cx.Ok.wish{X:Cx}(ok:X.Ok)(E:Value->Shared->Prop):(X.wish E).Ok:=
 #[ok.mod,ok.kind,ok.glob,ok.blt,ok.above,ok.inj,ok.has,ok.cab,ok.hd,ok.frames,ok.stk,ok.exf,ok.bs,ok.bsz,ok.adZ,ok.agY,ok.Cg,ok.frf]
theorem Cx.Ok.iC{X:Cx}{E:Value->Shared->Prop}(ok:(X.wish E).Ok):X.Ok:=
 #[ok.mod,ok.kind,ok.glob,ok.blt,ok.above,ok.inj,ok.has,ok.cab,ok.hd,ok.frames,ok.stk,ok.exf,ok.bs,ok.bsz,ok.adZ,ok.agY,ok.Cg,ok.frf]
section
variable{X:Cx}{pins:List (Addr × Obj)}{σ:St}{H:Hp}{s:Shared}{E:Value->Shared->Prop}
theorem Inv.wish(I:Inv X pins σ H s)(E:Value->Shared->Prop):Inv (X.wish E) pins σ H s:=#[I.ok.wish E,I.os,I.bare,I.base,I.loc,I.cell,I.free,I.qK,I.pin,I.hok,I.len]
theorem Inv.iC(I:Inv (X.wish E) pins σ H s):Inv X pins σ H s:=#[I.ok.iC,I.os,I.bare,I.base,I.loc,I.cell,I.free,I.qK,I.pin,I.hok,I.len]
theorem SP.iC{D:Ends}{f:Flow}{s':Shared}(h:SP (X.wish E) pins D f s'):SP X pins D f s':=by
 cases f with
 |next=>obtain⟨σ',H',I,q⟩:=h;show#[σ',H',I.iC,q]
 |brk=>obtain⟨σ',H',I,q⟩:=h;show#[σ',H',I.iC,q]
 |cont=>obtain⟨σ',H',I,q⟩:=h;show#[σ',H',I.iC,q]
 |ret u=>obtain⟨v,σ',H',I,r,q⟩:=h;show#[v,σ',H',I.iC,r,q]
theorem PE.nox{e:Expr}{t:TE}(h:PE X.nox e t):PE X e t:=fun pins s σ H Q I hw =>
 dH (h pins s σ H Q (I.wish _) hw) (fun _ _ ⟨v,H',I',r,q⟩=>#[v,H',I'.iC,r,q]) fun _ _ z=>gH z
theorem PT.nox{e:Expr}{t:TT}(h:PT X.nox e t):PT X e t:=fun pins s σ H Q I hw =>
 dH (h pins s σ H Q (I.wish _) hw) (fun _ _ ⟨H',I',q⟩=>#[H',I'.iC,q]) fun _ _ z=>gH z
theorem PSs.nox{st:List Stmt}{t:TS}(h:PSs X.nox st t):PSs X st t:=fun pins s σ H D I hw =>
 dH (h pins s σ H D (I.wish _) hw) (fun _ _ q=>q.iC) fun _ _ z=>gH z
end
section
variable{X:Cx}{st:Stmt}{rest:List Stmt}{t u:TS}{e:Expr}{te:TE}{pos:Pos}
@[reducible] def alj:TS:=fun D σ H=>D.nx σ H
@[reducible] def Ds(t u:TS):TS:=fun D σ H=>t { D with nx:=u D } σ H
theorem afG:PSs X [] alj:=fun _ _ σ H _ I h=>Gi #[σ,H,I,h]
theorem uc(h1:PS X st t)(h2:PSs X rest u):PSs X (st::rest) (Ds t u):=by
 walk_at "H"
 refine acN (thn (h1 pins s σ H { D with nx:=u D } I h) fun f s1 q=>?_);cases f with
 |next =>
  obtain⟨σ',H',I',q⟩:=q;exact h2 pins s1 σ' H' D I' q
 |ret v=>exact q
 |brk=>exact q
 |cont=>exact q
theorem Dt(h1:PS X st t):PSs X [st] t:=by
 walk_at "H"
 refine acN (thn (h1 pins s σ H D I h) fun f s1 q=>?_);cases f with
 |next=>exact Gi q
 |ret v=>exact q
 |brk=>exact q
 |cont=>exact q
def tCont:TS:=fun D σ H=>D.ct σ H
theorem aam:PS X (.Continue pos) tCont:=fun _ _ σ H _ I h=>wpAny_Continue #[σ,H,I,h]
theorem Inv.quiet{pins:List (Addr × Obj)}{σ:St}{H:Hp}{s:Shared}(I:Inv X pins σ H s):interactive X.env=false:=by simp[interactive,I.ok.kind]
@[reducible] def tDrop(te:TE):TS:=fun D σ H=>te σ H fun _ H1=>D.nx σ H1
theorem Xo(he:PE X e te)(hs:xU e none pos.line X.env=pure false:=by rfl):PS X (.Expr e pos) (tDrop te):=by
 walk_at "H"
 exact ai9 (thn (he pins s σ H _ I h) fun v s1 ⟨x,H1,I1,r1,q1⟩=>#[σ,H1,I1,q1]) I.quiet hs
@[reducible] def tRet(te:TE):TS:=fun D σ H=>te σ H D.rt
theorem ad3(he:PE X e te):PS X (.Return (some e) pos) (tRet te):=by
 walk_at "H"
 exact wpAny_Return_some (thn (he pins s σ H _ I h) fun v s1 ⟨x,H1,I1,r1,q1⟩=>#[x,σ,H1,I1,r1,q1])
@[reducible] def tIfS(c:TT)(t u:TS):TS:=fun D σ H=>c σ H fun b H1=>if b=true then t D σ H1 else u D σ H1
theorem apK{c:Expr}{a b:List Stmt}{tc:TT}(hc:PT X c tc)(ha:PSs X a t)(hb:PSs X b u):PS X (.If c a b pos) (tIfS tc t u):=by
 walk_at "H"
 k_dat (wpAny_If,hc,d) "z"
 obtain⟨H1,I1,q1⟩:=zq;cases d with
 |true=>exact ha pins s1 σ H1 D I1 q1
 |false=>exact hb pins s1 σ H1 D I1 q1
end
abbrev TG:=V->St->Hp->(St->Hp->Prop)->Prop
abbrev TGs:=List V->St->Hp->(St->Hp->Prop)->Prop
def PG(X:Cx)(target:Expr)(t:TG):Prop:=
 ∀(pins:List (Addr × Obj)) (s:Shared) (σ:St) (H:Hp) (v:V) (u:Value) (Q:St->Hp->Prop),Inv X pins σ H s->RelV v u->t v σ H Q ->
  wpAny (model X.prog X.w) X.A (uQ target X.env u) (fun _ s'=>∃σ' H',Inv X pins σ' H' s'/\Q σ' H') X.xe s
def PGs(X:Cx)(ts:List Expr)(t:TGs):Prop:=
 ∀(pins:List (Addr × Obj)) (s:Shared) (σ:St) (H:Hp) (vs:List V) (us:List Value) (Q:St->Hp->Prop),Inv X pins σ H s->Vals vs us->t vs σ H Q ->
  wpAny (model X.prog X.w) X.A (assignInOrder ((Gm ts X.env).map (·.2)) us) (fun _ s'=>∃σ' H',Inv X pins σ' H' s'/\Q σ' H') X.xe s
abbrev TSet:=V->V->V->Hp->(Hp->Prop)->Prop
def PSet(X:Cx)(t:TSet):Prop:=
 ∀(pins:List (Addr × Obj)) (s:Shared) (σ:St) (H:Hp) (o i v:V) (ov iv u:Value) (Q:Hp->Prop),Inv X pins σ H s->RelV o ov->RelV i iv->RelV v u->t o i v H Q ->
  wpAny (model X.prog X.w) X.A (setItem ov iv u) (fun _ s'=>∃H',Inv X pins σ H' s'/\Q H') X.xe s
section
variable{X:Cx}{pos:Pos}
@[reducible] def o8(i:Nat):TG:=fun v σ H Q=>Q (σ.set i (some v)) H
theorem zK{i:Nat}{x:Str}(hN:X.N.Nodup)(hi:X.N[i]? = some x)(hx:Loc X.env.scope x)(hf:X.fn x=true\/X.env.scope.names.lookup x=some .local:=by first|exact .inl rfl|exact .inr rfl|assumption):PG X (.Name x pos) (o8 i):=by
 intro pins s σ H v u Q I r h;exact ai2 (Ox I hN hi hx r (fun s' I'=>#[_,H,I',h]) hf)
def gNil:TGs:=fun vs σ H Q=>vs=[]/\Q σ H
def OD(t:TG)(u:TGs):TGs:=fun vs σ H Q=>∃v r,vs=v::r/\t v σ H fun σ' H'=>u r σ' H' Q
theorem afH:PGs X [] gNil:=by
 intro pins s σ H vs us Q I r h;obtain⟨e,h⟩:=h;subst e;cases r;exact assignInOrder_nil #[σ,H,I,h]
theorem OJ{e:Expr}{es:List Expr}{t:TG}{u:TGs}(h1:PG X e t)(h2:PGs X es u)
  (hs:(Gm (e::es) X.env).map (·.2)=uQ e X.env::(Gm es X.env).map (·.2):=by rfl):PGs X (e::es) (OD t u):=by
 intro pins s σ H vs us Q I r h;obtain⟨v,vr,e1,h⟩:=h;subst e1;cases r with
 |cons r rr =>
  rw[hs];refine assignInOrder_cons (thn (h1 pins s σ H _ _ _ I r h) fun _ s1 zq=>?_);obtain⟨σ1,H1,I1,q1⟩:=zq;exact h2 pins s1 σ1 H1 _ _ Q I1 rr q1
def gTup(K:aG)(n:Nat)(t:TGs):TG:=fun v σ H Q=>∃a xs,v=.ref a/\SqT K H a xs/\xs.length=n/\t xs σ H Q
theorem alk{es:List Expr}{k:Nat}{t:TGs}{n:Nat}(hc:X.calm=true)(h:PGs X es t)
  (hn:(Gm es X.env).length=n:=by rfl) (hst:(Gm es X.env).findIdx? (·.1)=none:=by rfl):PG X (.Tuple es k pos) (gTup X.K n t):=by
 intro pins s σ H v u Q I r hw;obtain⟨a,xs,e1,hq,hl,hw⟩:=hw;subst e1;cases r;obtain⟨its,rv,ht,hz⟩:=I.tuple hq;refine assign_Tuple_tuple (I.ok.hd hc) ht (by simp[hn,<-hl,rv.length]) hst fun h' hx=>?_;have I1:Inv X pins σ H { s with heap:=h' }:=I.kept (t':=s.toks) fun b o e=>hx b o (bR (aR e)) e;exact h pins _ σ H xs _ Q I1 (by simpa using rv) hw
@[reducible] def gSub(to ti:TE)(t:TSet):TG:=fun v σ H Q=>to σ H fun o H1=>ti σ H1 fun i H2=>t o i v H2 fun H3=>Q σ H3
theorem arS{o i:Expr}{to ti:TE}{t:TSet}(ho:PE X o to)(hi:PE X i ti)(hs:PSet X t)
  (ha:∀ v,uQ (.Subscript o i pos) X.env v=(do
   let ov <-BJ [v] (eval o X.env)
   let iv <-BJ [v,ov] (eval i X.env)
   Np pos
   BJ [v,ov,iv] (setItem ov iv v)
   release [v,ov,iv] []):=by intro _;rfl):PG X (.Subscript o i pos) (gSub to ti t):=by
 intro pins s σ H v u Q I r h;rw[ha];refine aA (iU (thn (ho pins s σ H _ I h) fun ov s1 zq=>?_))
 walk_at "w"
 refine aA (iU (thn (hi pins s1 σ H1 _ I1 q1) fun iv s2 zq=>?_));obtain⟨y,H2,I2,r2,q2⟩:=zq;refine aA (M9 (aA (iU (thn (hs pins s2 σ H2 x y v ov iv u _ I2 r1 r2 r q2) fun _ s3 zq=>?_))));obtain⟨H3,I3,q3⟩:=zq;exact wpAny_release #[σ,H3,I3,q3]
@[reducible] def alm(te:TE)(g:TG):TS:=fun D σ H=>te σ H fun x H1=>g x σ H1 D.nx
theorem arT{tg e:Expr}{te:TE}{g:TG}(he:PE X e te)(hg:PG X tg g)(hs:swapsWithSole [tg] e pos.line X.env=pure false:=by rfl)(hw:swappedStores [tg] e X.env=pure none:=by rfl)
  (h1:(Gm [tg] X.env).map (·.2)=[uQ tg X.env]:=by rfl):PS X (.Assign [tg] e pos) (alm te g):=by
 walk_at "H"
 refine wpAny_Assign_stores (thn (he pins s σ H _ I h) fun v s1 zq=>?_) hs hw
 walk_at "w"
 rw[h1];exact thn (hg pins s1 σ H1 x v _ I1 r1 q1) fun _ s2 q=>q
theorem aln{i:Nat}{x:Str}{e:Expr}{te:TE}{pos':Pos}(hN:X.N.Nodup)(hi:X.N[i]? = some x)(hx:Loc X.env.scope x)(he:PE X e te)(hs:xU e (some (.Name x pos')) pos.line X.env=pure false:=by rfl)(hf:X.fn x=true\/X.env.scope.names.lookup x=some .local:=by first|exact .inl rfl|exact .inr rfl|assumption):
  PS X (.Assign [.Name x pos'] e pos) (alm te (o8 i)):=by
 walk_at "H"
 refine wpAny_Assign_Name (thn (he pins s σ H _ I h) fun v s1 zq=>?_) hs;obtain⟨y,H1,I1,r1,q1⟩:=zq;exact Ox I1 hN hi hx r1 (fun s2 I2=>#[_,H1,I2,q1]) hf
def ad4(c:TT)(tb:TS):TS:=fun D σ H=>∃W:Nat->St->Hp->Prop,(∃m,W m σ H)/\∀m σ H,W m σ H ->
 c σ H fun b H1=>if b=true then ∃N:St->Hp->Prop,(∀σ' H',N σ' H'->∃m',m'<m/\W m' σ' H')/\tb { D with nx:=N,ct:=N,bk:=D.nx } σ H1 else D.nx σ H1
theorem alo{c:Expr}{body:List Stmt}{tc:TT}{tb:TS}(hp:acY (model X.prog X.w) X.A X.env X.xe)(hc:PT X c tc)(hb:PSs X body tb):PS X (.While c body [] pos) (ad4 tc tb):=by
 walk_at "H"
 obtain⟨W,⟨m0,w0⟩,turn⟩:=h;refine wpAny_While (codeAny_whileLoop (fun n s'=>∃σ' H',Inv X pins σ' H' s'/\W n σ' H') ?_ m0 #[σ,H,I,w0]);rintro n s1 ⟨σ1,H1,I1,w1⟩;refine Bm hp (thn (hc pins s1 σ1 H1 _ I1 (turn n σ1 H1 w1)) fun b s2 zq=>?_);obtain⟨H2,I2,q2⟩:=zq;cases b with
 |true =>
  obtain⟨N,hN,q2⟩:=q2;rw[if_pos rfl];refine Bm hp (thn (hb pins s2 σ1 H2 _ I2 q2) fun f s3 q3=>?_);cases f with
  |next =>
   obtain⟨σ3,H3,I3,n3⟩:=q3;obtain⟨m',hm,w3⟩:=hN σ3 H3 n3;show#[m',hm,σ3,H3,I3,w3]
  |cont =>
   obtain⟨σ3,H3,I3,n3⟩:=q3;obtain⟨m',hm,w3⟩:=hN σ3 H3 n3;show#[m',hm,σ3,H3,I3,w3]
  |brk=>exact q3
  |ret v=>exact q3
 |false =>
  rw[if_neg d9];exact Gi #[σ1,H2,I2,q2]
end
structure It where
 go:Nat->Hp->Prop
 yld:Nat->Hp->V->Hp->Prop
 stop:Nat->Hp->Prop
def Ci(X:Cx)(pins:List (Addr × Obj))(H:Hp)(b:Addr):Prop:=
 H b=none/\b≠X.env.locals/\b∉X.fs/\(b∈X.ex\/X.s₀.heap.objs.size<=b)/\(∀x c,X.env.cells.lookup x=some c->c≠b)/\∀p∈X.pn++pins,p.1≠b
theorem Inv.ad5{X:Cx}{pins:List (Addr × Obj)}{σ:St}{H H':Hp}{s:Shared}{b:Addr}(I:Inv X pins σ H s)(hb:s.heap.objs.size<=b)(hn:H' b=none):Ci X pins H' b:=by
 show#[hn,lE (dI I.lt hb),I.nofs hb,.inr (bQ I.sz hb),fun x c e z=>?_,fun p hp z=>?_]
 ·obtain⟨v,q⟩:=I.cell x c e;exact absurd (dI q.lt (by rwa[z])) (oh _)
 ·exact absurd (dI (aR (I.pin p hp).1) (by rwa[z])) (oh _)
structure Turn(P:aH)(w:World)(K:aG)(tg:Expr)(J:It)(fp:List Addr)(it:Addr)(tn:Nat->Heap->Prop):Prop where
 mem:it∈fp
 obj:∀i h,tn i h->∀b∈fp,∃o,h.get? b=some o/\∀v,o.data≠.cell v
 keep:∀i h h',tn i h->(∀b∈fp,∀o,h.get? b=some o->h'.get? b=some o)->tn i h'
 item:∀(X:Cx),X.prog=P->X.w=w->X.K=K->X.calm=true->∀(i:Nat) (pins:List (Addr × Obj)) (s:Shared) (σ:St) (H:Hp) (E:Value->Shared->Prop),Inv X pins σ H s->(∀b∈fp,Ci X pins H b)->tn i s.heap->J.go i H ->
  wpAny (model P w) X.A (nU (.ref it)) (fun r s1=>∃ u,r=some u /\
   wpAny (model P w) X.A (Wa tg (.ref it) u) (fun _ s2=>∃ x H',Inv X pins σ H' s2/\RelV x u/\J.yld i H x H'/\tn (i+1) s2.heap/\∀ b∈fp,H' b=none) E s1) E s
 done:∀(X:Cx),X.prog=P->X.w=w->X.K=K->X.calm=true->∀(i:Nat) (pins:List (Addr × Obj)) (s:Shared) (σ:St) (H:Hp) (E:Value->Shared->Prop),Inv X pins σ H s->(∀b∈fp,Ci X pins H b)->tn i s.heap->J.stop i H ->
  wpAny (model P w) X.A (nU (.ref it)) (fun r s1=>r=none/\Inv X pins σ H s1) E s
 self:∀(A:aP)(i:Nat)(s:Shared)(Q:Value->Shared->Prop)(E:Value->Shared->Prop),tn i s.heap->Q (.ref it) s->wpAny (model P w) A (Gy (.ref it)) Q E s
abbrev TI:=St->Hp->(It->Hp->Prop)->Prop
def PIE(X:Cx)(pins:List (Addr × Obj))(σ:St)(tg:Expr)(R:It->Hp->Prop)(itv:Value)(s2:Shared):Prop:=
 ∃(it:Addr)(fp:List Addr)(tn:Nat->Heap->Prop)(J:It)(H':Hp),itv=.ref it/\Inv X pins σ H' s2/\Turn X.prog X.w X.K tg J fp it tn/\tn 0 s2.heap/\(∀b∈fp,Ci X pins H' b)/\R J H'
def PI(X:Cx)(tg iter:Expr)(wi:TI):Prop:=
 ∀(pins:List (Addr × Obj)) (s:Shared) (σ:St) (H:Hp) (R:It->Hp->Prop),Inv X pins σ H s->wi σ H R ->
  wpAny (model X.prog X.w) X.A (eval iter X.env) (fun v s1=>wpAny (model X.prog X.w) X.A (Gy v) (PIE X pins σ tg R) X.xe s1) X.xe s
theorem aan{M:Model}{A:aP}{E:Value->Shared->Prop}{s:Shared}{tg:Expr}{it:Addr}{u:Value}{o:Obj}{n:String}{vs:Array Value}{Q:Unit->Shared->Prop}(ho:s.heap.get? it=some o)(hc:o.cls=.type n)(hd:o.data=.fields vs)
  (hn:["enumerate","zip","dict_itemiterator","dict_reverseitemiterator","odict_iterator","itertools.zip_longest","itertools.pairwise"].contains n=false) (hQ:Q () s):wpAny M A (Wa tg (.ref it) u) Q E s:=by
 unfold Wa;cases tg <;> first
  |exact aK hQ
  | (cases u <;> first
    |exact aK hQ
    | (refine aA (wpAny_load ho ?_)
       rw [hc,hd];show wpAny M A (if (["enumerate","zip","dict_itemiterator","dict_reverseitemiterator","odict_iterator","itertools.zip_longest","itertools.pairwise"].contains n && vs[0]? == some (jz _))=true then _ else _) Q E s;rw [if_neg (by intro h;rw [hn,ajL] at h;cases h)];exact aK hQ))
def Itl(K:aG)(a:Addr):It:=
 #[fun i H=>∃xs x,SqL K H a xs/\xs[i]? = some x,fun i H x H'=>H'=H/\∀xs,SqL K H a xs->xs[i]? = some x,fun i H=>∃xs,SqL K H a xs/\xs.length<=i]
def Itt(K:aG)(a:Addr):It:=
 #[fun i H=>∃xs x,SqT K H a xs/\xs[i]? = some x,fun i H x H'=>H'=H/\∀xs,SqT K H a xs->xs[i]? = some x,fun i H=>∃xs,SqT K H a xs/\xs.length<=i]
def Itr(lo:Int)(n:Nat):It:=#[fun i _=>i<n,fun i H x H'=>H'=H/\x=.int (lo+i),fun i _=>n<=i]
theorem ag0{P:aH}{w:World}{K:aG}{tg:Expr}(a it:Addr):Turn P w K tg (Itl K a) [it] it (fun i h=>h.IsListIter it a i) where
 mem:=by simp
 obj:=fun i h st b hb=>by
  have e:b=it:=by simpa using hb
  subst e;obtain⟨o,e,c,d⟩:=st;show#[o,e,fun v z=>by rw[d]at z;cases z]
 keep:=fun i h h' st k=>st.at fun o e=>k it (by simp) o e
 item:=by
  walk_at "g"
  subst hP hw hK;obtain⟨xs,x,hq,hx⟩:=hg;obtain⟨its,rv,p,hz⟩:=I.list hq;obtain⟨u,hu,ru⟩:=rv.get hx
  k_dat it "i"
  refine wpAny_pyNext_list_item st p.isList (x:=u) (by simpa using hu) fun h' st' sb=>?_;have I1:Inv X pins σ H { s with heap:=h' }:=I.turned (t':=s.toks) (fun b o hb e=>(sb.2 b hb).trans e) f0 f1 f3 f4 f5;obtain⟨o,e,c,d⟩:=id st';show#[u,rfl,aan (s:={ s with heap:=h' }) e c d tb_g% #[x,H,I1,ru,#[rfl,fun ys hy=>by rwa[I.aal hy hq]],st',fun b hb=>(hf b hb).1]]
 done:=by
  walk_at "g"
  subst hP hw hK;obtain⟨xs,hq,hx⟩:=hg;obtain⟨its,rv,p,hz⟩:=I.list hq
  k_dat it "i"
  have hl:=rv.length;exact wpAny_pyNext_list_end (I.ok.hd hc) st p.isList (by simp;lia) fun h' eb=>#[rfl,I.turned (t':=s.toks) (fun b o hb e=>eb b o hb e) f0 f1 f3 f4 f5]
 self:=fun _ _ _ _ _ st h=>wpAny_pyIter_listiter st h
theorem ad6{P:aH}{w:World}{K:aG}{tg:Expr}(a it:Addr):Turn P w K tg (Itt K a) [it] it (fun i h=>h.IsTupleIter it a i) where
 mem:=by simp
 obj:=fun i h st b hb=>by
  have e:b=it:=by simpa using hb
  subst e;obtain⟨o,e,c,d⟩:=st;show#[o,e,fun v z=>by rw[d]at z;cases z]
 keep:=fun i h h' st k=>st.at fun o e=>k it (by simp) o e
 item:=by
  walk_at "g"
  subst hP hw hK;obtain⟨xs,x,hq,hx⟩:=hg;obtain⟨its,rv,p,hz⟩:=I.tuple hq;obtain⟨u,hu,ru⟩:=rv.get hx
  k_dat it "i"
  refine wpAny_pyNext_tuple_item st (show s.heap.IsTuple a its.toArray from p) (x:=u) (by simpa using hu) fun h' st' sb=>?_;have I1:Inv X pins σ H { s with heap:=h' }:=I.turned (t':=s.toks) (fun b o hb e=>(sb.2 b hb).trans e) f0 f1 f3 f4 f5;obtain⟨o,e,c,d⟩:=id st';show#[u,rfl,aan (s:={ s with heap:=h' }) e c d tb_g% #[x,H,I1,ru,#[rfl,fun ys hy=>by rwa[I.agZ hy hq]],st',fun b hb=>(hf b hb).1]]
 done:=by
  walk_at "g"
  subst hP hw hK;obtain⟨xs,hq,hx⟩:=hg;obtain⟨its,rv,p,hz⟩:=I.tuple hq
  k_dat it "i"
  have hl:=rv.length;exact wpAny_pyNext_tuple_end (I.ok.hd hc) st (show s.heap.IsTuple a its.toArray from p) (by simp;lia) fun h' eb=>#[rfl,I.turned (t':=s.toks) (fun b o hb e=>eb b o hb e) f0 f1 f3 f4 f5]
 self:=fun _ _ _ _ _ st h=>wpAny_pyIter_tupleiter st h
theorem ad7{P:aH}{w:World}{K:aG}{tg:Expr}(it:Addr)(lo:Int)(n:Nat):Turn P w K tg (Itr lo n) [it] it (fun i h=>IsRangeIter h it (lo+(i:Nat)*1) ((n:Int)-(i:Nat)) 1) where
 mem:=by simp
 obj:=fun i h st b hb=>by
  have e:b=it:=by simpa using hb
  subst e;show#[_,st,fun v z=>by
   have z':Data.fields _=Data.cell v:=z;cases z']
 keep:=fun i h h' st k=>k it (by simp) _ st
 item:=by
  walk_at "g"
  subst hP hw hK
  k_dat it "i"
  have W:=Walks.range (prog:=X.prog) (w:=X.w) (I.ok.hd hc) it lo 1 n;refine W.item i s _ _ hg st fun v h' tk hv st' kk=>?_
  k_dat (t,hv) "F"
  have I1:Inv X pins σ H { s with heap:=h',toks:=tk }:=I.turned (fun b o hb e=>kk b o (by simpa using hb) e) f0 f1 f3 f4 f5;show#[_,rfl,aan (s:={ s with heap:=h',toks:=tk }) (n := "range_iterator") st' rfl rfl tb_g% #[.int (lo+i),H,I1,#[t,?_],#[rfl,rfl],st',fun b hb=>(hf b hb).1]];rw[adl]
 done:=by
  walk_at "g"
  subst hP hw hK
  k_dat it "i"
  exact wpAny_pyNext_range_end (I.ok.hd hc) st (by have:n<=i:=hg;lia) fun h' eb=>#[rfl,I.turned (t':=s.toks) (fun b o hb e=>eb b o hb e) f0 f1 f3 f4 f5]
 self:=fun _ _ _ _ _ st h=>wpAny_pyIter_rangeiter st h
section
variable{X:Cx}{tg:Expr}
def iList(K:aG)(tl:TE):TI:=fun σ H R=>tl σ H fun x H1=>∃a,x=.ref a/\(∃xs,SqL K H1 a xs)/\R (Itl K a) H1
def iTup(K:aG)(tl:TE):TI:=fun σ H R=>tl σ H fun x H1=>∃a,x=.ref a/\(∃xs,SqT K H1 a xs)/\R (Itt K a) H1
theorem fM{l:Expr}{tl:TE}(hl:PE X l tl):PI X tg l (iList X.K tl):=by
 intro pins s σ H R I h;refine thn (hl pins s σ H _ I h) fun v s1 zq=>?_
 walk_at "w"
 obtain⟨a,e,⟨xs,hq⟩,q⟩:=q1;subst e;cases r1;obtain⟨its,rv,p,hz⟩:=I1.list hq;refine M5 p.isList ?_;show#[s1.heap.objs.size,[s1.heap.objs.size],_,_,H1,rfl,I1.kept (t':=s1.toks) fun b o e=>cU _ e,ag0 a _,#[_,dN _ rfl,rfl,rfl],fun b hb=>?_,q];have e:b=s1.heap.objs.size:=by simpa using hb
 subst e;exact I1.ad5 (aJ _) (I1.hok.fresh (aJ _))
theorem alp{l:Expr}{tl:TE}(hl:PE X l tl):PI X tg l (iTup X.K tl):=by
 intro pins s σ H R I h;refine thn (hl pins s σ H _ I h) fun v s1 zq=>?_
 walk_at "w"
 obtain⟨a,e,⟨xs,hq⟩,q⟩:=q1;subst e;cases r1;obtain⟨its,rv,p,hz⟩:=I1.tuple hq;refine wpAny_pyIter_tuple (show s1.heap.IsTuple a its.toArray from p) ?_;show#[s1.heap.objs.size,[s1.heap.objs.size],_,_,H1,rfl,I1.kept (t':=s1.toks) fun b o e=>cU _ e,ad6 a _,#[_,dN _ rfl,rfl,rfl],fun b hb=>?_,q];have e:b=s1.heap.objs.size:=by simpa using hb
 subst e;exact I1.ad5 (aJ _) (I1.hok.fresh (aJ _))
theorem alq{pins:List (Addr × Obj)}{σ:St}{H:Hp}{s:Shared}{R:It->Hp->Prop}{E:Value->Shared->Prop}{lo hi:Int}{t u v:Tok}{tk:Nat}(I:Inv X pins σ H s)(h1:-(2 ^ 62)<=lo)(h2:lo<2 ^ 62)(h3:-(2 ^ 62)<=hi)(h4:hi<2 ^ 62)
  (q:R (Itr lo (hi-lo).toNat) H):wpAny (model X.prog X.w) X.A (Gy (.ref s.heap.objs.size)) (PIE X pins σ tg R) E { s with heap:=s.heap.push { cls:=.type "range",data:=.fields [.int lo t,.int hi u,.int 1 v].toArray },toks:=tk }:=by
 refine wpAny_pyIter_range (IsRange.new ..) (small_one h1 h2 h3 h4) ?_;have I1:Inv X pins σ H { s with heap:=s.heap.push { cls:=.type "range",data:=.fields [.int lo t,.int hi u,.int 1 v].toArray },toks:=tk }:=I.kept fun b o e=>cU _ e;show#[(s.heap.push { cls:=.type "range",data:=.fields [.int lo t,.int hi u,.int 1 v].toArray }).objs.size,[(s.heap.push { cls:=.type "range",data:=.fields [.int lo t,.int hi u,.int 1 v].toArray }).objs.size],_,_,H,rfl,
  I1.kept (t':=tk) fun b o e=>cU _ e,ad7 _ lo (hi-lo).toNat,?_,fun b hb=>?_,q]
 ·have e1:lo+((0:Nat):Int)*1=lo:=by simp
  have e2:(((hi-lo).toNat:Nat):Int)-((0:Nat):Int)=arx lo hi 1:=by rw[rangeSize_one];split <;> lia
  show IsRangeIter _ _ (lo+((0:Nat):Int)*1) ((((hi-lo).toNat:Nat):Int)-((0:Nat):Int)) 1;rw[e1,e2];exact dN _ rfl
 ·have e:b=(s.heap.push { cls:=.type "range",data:=.fields [.int lo t,.int hi u,.int 1 v].toArray }).objs.size:=by simpa using hb
  subst e;exact I1.ad5 (aJ _) (I1.hok.fresh (aJ _))
def iRng1(ta:TA):TI:=fun σ H R=>ta σ H fun vs H1=>∃j:Int,vs=[.int j] /\ -(2 ^ 62)<=j/\j<2 ^ 62/\R (Itr 0 j.toNat) H1
theorem ag1{a:Expr}{ta:TA}{p pos:Pos}(hg:Gl X "range")(hm:X.mg "range" = none)(ha:PA X [a] ta)(hs:aZ [a] X.env=[(false,eval a X.env)]:=by rfl):PI X tg (.Call (.Name "range" p) [a] [] pos) (iRng1 ta):=by
 intro pins s σ H R I h;refine Call_ (iB I hg hm boot_range (yg (thn (ha pos pins s σ H _ I h) fun us s1 zq=>?_) hs rfl));obtain⟨vs,H1,I1,r1,q1⟩:=zq;obtain⟨j,e,q1,q2,q⟩:=q1;subst e;cases r1 with
 |cons r rr =>
  cases rr
  k_dat (t,r) "F"
  exact call_range_1 (alq I1 tb_g% tb_g% q1 q2 (by simpa using q))
def tFor(wi:TI)(g:TG)(tb:TS):TS:=fun D σ H=>wi σ H fun J H1=>∃W:Nat->Nat->St->Hp->Prop,(∃m,W 0 m σ H1)/\∀i m σ H,W i m σ H ->
 (J.stop i H/\D.nx σ H)\/(J.go i H/\∃N:St->Hp->Prop,(∀σ' H',N σ' H'->∃m',m'<m/\W (i+1) m' σ' H')/\∀x H',J.yld i H x H'->g x σ H' fun σ2 H2=>tb { D with nx:=N,ct:=N,bk:=D.nx } σ2 H2)
def O1(fp:List Addr)(h:Heap):List (Addr × Obj):=fp.filterMap fun b=>(h.get? b).map fun o=>(b,o)
theorem vA{fp:List Addr}{h:Heap}{b:Addr}{o:Obj}(hb:b∈fp)(e:h.get? b=some o):(b,o)∈O1 fp h:=acj.mpr #[b,hb,by rw[e];rfl]
theorem ag2{fp:List Addr}{h:Heap}{p:Addr × Obj}(hp:p∈O1 fp h):p.1∈fp/\h.get? p.1=some p.2:=by
 obtain⟨b,hb,e⟩:=acj.mp hp;cases q:h.get? b with
 |none=>rw[q]at e;cases e
 |some o =>
  rw[q]at e;have e':(b,o)=p:=bN e;subst e';show#[hb,q]
theorem Inv.pinned{pins:List (Addr × Obj)}{σ:St}{H:Hp}{s:Shared}{fp:List Addr}(I:Inv X pins σ H s)(hf:∀b∈fp,Ci X pins H b)(ho:∀b∈fp,∃o,s.heap.get? b=some o/\∀v,o.data≠.cell v):Inv X (pins++O1 fp s.heap) σ H s:=
 I.afF fun p hp=>(cF.mp hp).elim (fun z=>I.pin p (tL _ z)) fun z=>by
  obtain⟨hb,e⟩:=ag2 z;obtain⟨f0,f1,f2,_⟩:=hf p.1 hb;obtain⟨o,e',d⟩:=ho p.1 hb
  k_dat (e,e') "I"
  show#[e,f0,f1,f2,d]
theorem Inv.yC{pins pl:List (Addr × Obj)}{σ:St}{H:Hp}{s:Shared}(I:Inv X (pins++pl) σ H s):Inv X pins σ H s:=I.afF fun p hp=>I.pin p (tL _ (Ms _ hp))
theorem alr{iter:Expr}{body:List Stmt}{wi:TI}{g:TG}{tb:TS}{pos:Pos}(hp:acY (model X.prog X.w) X.A X.env X.xe)(hc:X.calm=true)(hi:PI X tg iter wi)(hg:PG X tg g)(hb:PSs X body tb)
  (hs:∀x,uN iter X.env x=pure x:=by intro _;rfl):PS X (.For tg iter body [] pos) (tFor wi g tb):=by
 walk_at "H"
 refine wpAny_For (thn (hi pins s σ H _ I h) fun v s1 h1=>thn h1 fun itv s2 h2=>?_) hs;obtain⟨it,fp,tn,J,H2,e,I2,T,st2,f2,W,⟨m0,w0⟩,turn⟩:=h2;subst e;have stat:∀{H':Hp},(∀b∈fp,H' b=none)->∀b∈fp,Ci X pins H' b:=fun hn b hb=>#[hn b hb,(f2 b hb).2];refine codeAny_forLoop_any (fun n s'=>∃i σ' H',Inv X pins σ' H' s'/\tn i s'.heap/\(∀b∈fp,H' b=none)/\W i n σ' H') ?_ m0 #[0,σ,H2,I2,st2,fun b hb=>(f2 b hb).1,w0];rintro n s3 ⟨i,σ3,H3,I3,st3,fr3,w3⟩;rcases turn i n σ3 H3 w3 with⟨stop,qn⟩|⟨go,N,hN,step⟩
 ·refine Bm hp (thn (T.done X rfl rfl rfl hc i pins s3 σ3 H3 X.xe I3 (stat fr3) st3 stop) fun r s4 zq=>?_);obtain⟨hr,I4⟩:=zq;subst hr;exact Gi #[σ3,H3,I4,qn]
 ·refine Bm hp (thn (T.item X rfl rfl rfl hc i pins s3 σ3 H3 X.xe I3 (stat fr3) st3 go) fun r s4 zq=>?_);obtain⟨u,hr,h4⟩:=zq;subst hr;refine Bm hp (thn h4 fun _ s5 zq=>?_);obtain⟨x,H5,I5,r5,y5,st5,fr5⟩:=zq;have I5':=I5.pinned (stat fr5) (T.obj _ _ st5);refine Bm hp (thn (hg _ s5 σ3 H5 x u _ I5' r5 (step x H5 y5)) fun _ s6 zq=>?_);obtain⟨σ6,H6,I6,q6⟩:=zq;refine Bm hp (thn (hb _ s6 σ6 H6 _ I6 q6) fun f s7 q7=>?_);have again:∀{σ7:St}{H7:Hp},Inv X (pins++O1 fp s5.heap) σ7 H7 s7->N σ7 H7->∃m,m<n/\∃i σ' H',Inv X pins σ' H' s7/\tn i s7.heap/\(∀b∈fp,H' b=none)/\W i m σ' H':=fun {σ7 H7} I7 n7=>by
   obtain⟨m',hm,w7⟩:=hN σ7 H7 n7;show#[m',hm,i+1,σ7,H7,I7.yC,T.keep _ _ _ st5 fun b hb o e=>(I7.pin (b,o) (tL _ (tL _ (vA hb e)))).1,fun b hb=>?_,w7];obtain⟨o,e,d⟩:=T.obj _ _ st5 b hb;exact(I7.pin (b,o) (tL _ (tL _ (vA hb e)))).2.1
  cases f with
  |next=>obtain⟨σ7,H7,I7,n7⟩:=q7;exact again I7 n7
  |cont=>obtain⟨σ7,H7,I7,n7⟩:=q7;exact again I7 n7
  |brk=>obtain⟨σ7,H7,I7,q7⟩:=q7;show#[σ7,H7,I7.yC,q7]
  |ret v=>obtain⟨x7,σ7,H7,I7,r7,q7⟩:=q7;show#[x7,σ7,H7,I7.yC,r7,q7]
end
theorem o9{K:aG}{a:Addr}{xs:List V}{g:TG}{tb:TS}{D:Ends}{σ:St}{H:Hp}(Pv:Nat->St->Hp->Prop)(h0:Pv 0 σ H)(hl:∀i σ H,i<=xs.length->Pv i σ H->SqL K H a xs)
  (hs:∀i x σ H,xs[i]? = some x->Pv i σ H->g x σ H fun σ2 H2=>tb { D with nx:=Pv (i+1),ct:=Pv (i+1),bk:=D.nx } σ2 H2) (hd:∀σ H,Pv xs.length σ H->D.nx σ H):
  ∃W:Nat->Nat->St->Hp->Prop,(∃m,W 0 m σ H)/\∀i m σ H,W i m σ H ->
   ((Itl K a).stop i H/\D.nx σ H)\/((Itl K a).go i H/\∃N:St->Hp->Prop,(∀σ' H',N σ' H'->∃m',m'<m/\W (i+1) m' σ' H')/\∀x H',(Itl K a).yld i H x H'->g x σ H' fun σ2 H2=>tb { D with nx:=N,ct:=N,bk:=D.nx } σ2 H2):=by
 show#[fun i m σ H=>m=xs.length-i/\i<=xs.length/\Pv i σ H,#[xs.length,by simp,cJ _,h0],?_];rintro i m σ H ⟨rfl,hi,p⟩;have q:=hl i σ H hi p;by_cases hlt:i<xs.length
 ·refine .inr #[#[xs,xs[i],q,by simp[hlt]],Pv (i+1),fun σ' H' p'=>#[xs.length-(i+1),by lia,rfl,hlt,p'],fun x H' y=>?_];obtain⟨e,y⟩:=y;subst e;exact hs i x σ _ (y xs q) p
 ·have e:i=xs.length:=by lia
  subst e;exact .inl #[#[xs,q,aJ _],hd σ H p]
theorem ag3{lo:Int}{n:Nat}{g:TG}{tb:TS}{D:Ends}{σ:St}{H:Hp}(Pv:Nat->St->Hp->Prop)(h0:Pv 0 σ H)
  (hs:∀i σ H,i<n->Pv i σ H->g (.int (lo+i)) σ H fun σ2 H2=>tb { D with nx:=Pv (i+1),ct:=Pv (i+1),bk:=D.nx } σ2 H2) (hd:∀σ H,Pv n σ H->D.nx σ H):
  ∃W:Nat->Nat->St->Hp->Prop,(∃m,W 0 m σ H)/\∀i m σ H,W i m σ H ->
   ((Itr lo n).stop i H/\D.nx σ H)\/((Itr lo n).go i H/\∃N:St->Hp->Prop,(∀σ' H',N σ' H'->∃m',m'<m/\W (i+1) m' σ' H')/\∀x H',(Itr lo n).yld i H x H'->g x σ H' fun σ2 H2=>tb { D with nx:=N,ct:=N,bk:=D.nx } σ2 H2):=by
 show#[fun i m σ H=>m=n-i/\i<=n/\Pv i σ H,#[n,by simp,cJ _,h0],?_];rintro i m σ H ⟨rfl,hi,p⟩;by_cases hlt:i<n
 ·refine .inr #[hlt,Pv (i+1),fun σ' H' p'=>#[n-(i+1),by lia,rfl,hlt,p'],fun x H' y=>?_];obtain⟨e,y⟩:=y;subst e y;exact hs i σ _ hlt p
 ·have e:i=n:=by lia
  subst e;exact .inl #[aJ _,hd σ H p]
theorem yD{c:TT}{tb:TS}{D:Ends}{σ:St}{H:Hp}(Pv:St->Hp->Prop)(μ:St->Hp->Nat)(h0:Pv σ H)
  (hs:∀σ H,Pv σ H->c σ H fun b H1=>if b=true then tb { D with nx:=fun σ' H'=>Pv σ' H'/\μ σ' H'<μ σ H,ct:=fun σ' H'=>Pv σ' H'/\μ σ' H'<μ σ H,bk:=D.nx } σ H1 else D.nx σ H1)
  (mono:∀σ H Q Q',(∀b H1,Q b H1->Q' b H1)->c σ H Q->c σ H Q'):ad4 c tb D σ H:=by
 show#[fun m σ H=>m=μ σ H/\Pv σ H,#[_,rfl,h0],?_];rintro m σ H ⟨rfl,p⟩;refine mono σ H _ _ (fun b H1 q=>?_) (hs σ H p);cases b with
 |true=>show#[_,fun σ' H' ⟨p',l⟩=>#[_,l,rfl,p'],q]
 |false=>exact q
abbrev R2:=V->V->Hp->VK->Prop
def OpR(X:Cx)(f:Value->Value->Sem Value)(r:R2):Prop:=
 ∀(pins:List (Addr × Obj)) (s:Shared) (σ:St) (H:Hp) (x y:V) (v u:Value) (Q:VK),Inv X pins σ H s->RelV x v->RelV y u->r x y H Q ->
  wpAny (model X.prog X.w) X.A (f v u) (EP X pins σ Q) X.xe s
def UnR(X:Cx)(f:Value->Sem Value)(r:V->Hp->VK->Prop):Prop:=
 ∀(pins:List (Addr × Obj)) (s:Shared) (σ:St) (H:Hp) (x:V) (v:Value) (Q:VK),Inv X pins σ H s->RelV x v->r x H Q ->
  wpAny (model X.prog X.w) X.A (f v) (EP X pins σ Q) X.xe s
def fW(X:Cx)(f:Value)(r:List V->Hp->VK->Prop):Prop:=
 ∀(pins:List (Addr × Obj)) (s:Shared) (σ:St) (H:Hp) (xs:List V) (us:List Value) (Q:VK),Inv X pins σ H s->Vals xs us->r xs H Q ->
  wpAny (model X.prog X.w) X.A (call f us) (EP X pins σ Q) X.xe s
@[reducible] def tOp(r:R2)(ta tb:TE):TE:=fun σ H Q=>ta σ H fun x H1=>tb σ H1 fun y H2=>r x y H2 Q
def tUn(r:V->Hp->VK->Prop)(ta:TE):TE:=fun σ H Q=>ta σ H fun x H1=>r x H1 Q
inductive rI (C:Int->Int->Prop) (g:Int->Int->V) (x y:V) (H:Hp) (Q:VK):Prop
 |k (i j:Int):x=.int i->y=.int j->C i j->Q (g i j) H->rI C g x y H Q
inductive rI0 (g:Int->Int->V) (x y:V) (H:Hp) (Q:VK):Prop
 |k (i j:Int):x=.int i->y=.int j->Q (g i j) H->rI0 g x y H Q
def rU(g:Int->V):V->Hp->VK->Prop:=fun x H Q=>∃i,x=.int i/\Q (g i) H
section
variable{X:Cx}{a b c:Expr}{ta tb tc:TE}{pos:Pos}
theorem binT(ha:PE X a ta)(hb:PE X b tb){pins:List (Addr × Obj)}{s:Shared}{σ:St}{H:Hp}{R:V->V->Hp->Prop}(I:Inv X pins σ H s)
  (h:ta σ H fun x H1=>tb σ H1 fun y H2=>R x y H2) {Q:Value->Shared->Prop} {f:Value->Value->Sem Value}
  (hf:∀v u s2 x y H2,Inv X pins σ H2 s2->RelV x v->RelV y u->R x y H2->wpAny (model X.prog X.w) X.A (f v u) Q X.xe s2):
  wpAny (model X.prog X.w) X.A (eval a X.env) (fun v s₁=>wpAny (model X.prog X.w) X.A (eval b X.env) (fun u s₂=>wpAny (model X.prog X.w) X.A (f v u) Q X.xe s₂) X.xe s₁) X.xe s:=by
 refine thn (ha pins s σ H _ I h) fun v s1 zq=>?_
 walk_at "w"
 refine thn (hb pins s1 σ H1 _ I1 q1) fun u s2 zq=>?_;obtain⟨y,H2,I2,r2,q2⟩:=zq;exact hf v u s2 x y H2 I2 r1 r2 q2
theorem pe_op{op:Operator}{r:R2}(ho:OpR X (jx op) r)(ha:PE X a ta)(hb:PE X b tb):PE X (.BinOp a op b pos) (tOp r ta tb):=by
 walk_at "l"
 exact wpAny_BinOp (binT ha hb I h fun v u s2 x y H2 I2 rx ry q=>ho pins s2 σ H2 x y v u Q I2 rx ry q)
theorem pe_un{op:UnaryOp}{r:V->Hp->VK->Prop}(ho:UnR X (unaryOp op) r)(ha:PE X a ta):PE X (.UnaryOp op a pos) (tUn r ta):=by
 walk_at "l"
 exact UnaryOp_ (thn (ha pins s σ H _ I h) fun v s1 ⟨x,H1,I1,r1,q1⟩=>ho pins s1 σ H1 x v Q I1 r1 q1)
theorem opI{f:Value->Value->Sem Value}{C:Int->Int->Prop}{g:Int->Int->Int}
  (rule:∀(i j:Int)(t u:Tok)(s:Shared)(Q:Value->Shared->Prop)(E:Value->Shared->Prop),C i j->Q (.int (g i j) s.toks) { s with toks:=s.toks+1 }->wpAny (model X.prog X.w) X.A (f (.int i t) (.int j u)) Q E s):
  OpR X f (rI C fun i j=>.int (g i j)):=by
 walk_at "k"
 obtain⟨i,j,rfl,rfl,hc,q⟩:=h
 k_dat (t,rx) "F"
 k_dat (t',ry) "F"
 exact rule i j t t' s _ _ hc #[.int (g i j),H,I.tok _,#[_,rfl],q]
theorem opI0{f:Value->Value->Sem Value}{g:Int->Int->Int}
  (rule:∀(i j:Int)(t u:Tok)(s:Shared)(Q:Value->Shared->Prop)(E:Value->Shared->Prop),Q (.int (g i j) s.toks) { s with toks:=s.toks+1 }->wpAny (model X.prog X.w) X.A (f (.int i t) (.int j u)) Q E s):
  OpR X f (rI0 fun i j=>.int (g i j)):=by
 walk_at "k"
 obtain⟨i,j,rfl,rfl,q⟩:=h
 k_dat (t,rx) "F"
 k_dat (t',ry) "F"
 exact rule i j t t' s _ _ #[.int (g i j),H,I.tok _,#[_,rfl],q]
theorem opB0{f:Value->Value->Sem Value}{g:Int->Int->Bool}
  (rule:∀(i j:Int)(t u:Tok)(s:Shared)(Q:Value->Shared->Prop)(E:Value->Shared->Prop),Q (.bool (g i j)) s->wpAny (model X.prog X.w) X.A (f (.int i t) (.int j u)) Q E s):
  OpR X f (rI0 fun i j=>.bl (g i j)):=by
 walk_at "k"
 obtain⟨i,j,rfl,rfl,q⟩:=h
 k_dat (t,rx) "F"
 k_dat (t',ry) "F"
 exact rule i j t t' s _ _ #[.bl (g i j),H,I,rfl,q]
def CDiv(i j:Int):Prop:=0<j/\j<1073741824
def CPow(i j:Int):Prop:=0<=j/\j<=1000000/\i.natAbs<2 ^ 64
def als(i j:Int):Prop:=(-(2 ^ 64)<i/\i<2 ^ 64)\/(-(2 ^ 64)<j/\j<2 ^ 64)
theorem als.ok{i j:Int}(h:als i j):IntMulOk i j:=by
 rcases h with⟨h1,h2⟩|⟨h1,h2⟩
 ·exact .of_left (ajj h1 h2)
 ·exact .of_right (ajj h1 h2)
theorem je:OpR X (jx .Add) (rI0 fun i j=>.int (i+j)):=opI0 fun _ _ _ _ _ _ _ q=>add_int q
theorem arU:OpR X (jx .Sub) (rI0 fun i j=>.int (i-j)):=opI0 fun _ _ _ _ _ _ _ q=>sub_int q
theorem arV:OpR X (jx .Mult) (rI als fun i j=>.int (i*j)):=opI fun _ _ _ _ _ _ _ hc q=>mul_int q hc.ok
theorem aob:OpR X (jx .FloorDiv) (rI CDiv fun i j=>.int (i / j)):=opI fun i j _ _ _ _ _ hc q=>by
 have h1:(0:Int)<j:=hc.1;have h2:j<1073741824:=hc.2;exact akl tb_g% (by rwa[ajP i tb_g%]) (.inl (PyProof.noPylong_small tb_g%))
theorem arW:OpR X (jx .Mod) (rI (fun _ j=>0<j) fun i j=>.int (i % j)):=opI fun i j _ _ _ _ _ hc q=>by
 have h1:(0:Int)<j:=hc;exact mod_int' tb_g% (by rwa[Int.fmod_eq_emod_of_nonneg i tb_g%])
theorem arX:OpR X (jx .LShift) (rI CPow fun i j=>.int (i*2 ^ j.toNat)):=opI fun _ _ _ _ _ _ _ hc q=>lshift_int_small hc.1 hc.2.1 hc.2.2 q
theorem unI{f:Value->Sem Value}{g:Int->Int}
  (rule:∀(i:Int)(t:Tok)(s:Shared)(Q:Value->Shared->Prop)(E:Value->Shared->Prop),Q (.int (g i) s.toks) { s with toks:=s.toks+1 }->wpAny (model X.prog X.w) X.A (f (.int i t)) Q E s):
  UnR X f (rU fun i=>.int (g i)):=by
 intro pins s σ H x v Q I rx h;obtain⟨i,rfl,q⟩:=h
 k_dat (t,rx) "F"
 exact rule i t s _ _ #[.int (g i),H,I.tok _,#[_,rfl],q]
theorem arY:UnR X (unaryOp .USub) (rU fun i=>.int (-i)):=unI fun _ _ _ _ _ q=>neg_int q
end
def scal:V->V->Bool
 | .non,.non=>true | .non,.int _=>true | .int _,.non=>true | .non,.bl _=>true | .bl _,.non=>true | .non,.str _=>true | .str _,.non=>true
 | .int _,.int _=>true | .bl _,.bl _=>true | .str _,.str _=>true | .byt _,.byt _=>true
 | .int _,.str _=>true | .str _,.int _=>true | .bl _,.str _=>true | .str _,.bl _=>true
 |_,_=>false
def rEq:R2:=fun x y H Q=>scal x y=true/\Q (.bl (decide (x=y))) H
def rNe:R2:=fun x y H Q=>scal x y=true/\Q (.bl (!decide (x=y))) H
theorem afI{i j:Int}:decide (V.int i=V.int j)=(i == j):=by
 rw[NP];simp
theorem alu{i j:Bool}:decide (V.bl i=V.bl j)=(i == j):=by
 rw[NP];simp
theorem afJ{i j:Str}:decide (V.str i=V.str j)=(i == j):=by
 rw[NP];simp
theorem afK{i j:Array UInt8}:decide (V.byt i=V.byt j)=(i.toList == j.toList):=by
 rw[NP];cases i;cases j;simp
section
variable{X:Cx}{a b c:Expr}{ta tb tc:TE}{pos:Pos}
theorem cO{pins:List (Addr × Obj)}{σ:St}{H:Hp}{s:Shared}{Q:VK}{k k':Bool}(I:Inv X pins σ H s)(q:Q (.bl k) H)(e:k=k'):EP X pins σ Q (.bool k') s:=by
 subst e;show#[.bl k,H,I,rfl,q]
theorem aao:OpR X (fB .Eq) rEq:=by
 walk_at "k"
 obtain⟨hs,q⟩:=h;cases x with
 |non =>
  cases rx;cases y with
  |non=>cases ry;exact aq5 (cO I q (by simp))
  |bl j=>cases ry;exact aq6 (cO I q (by simp))
  |int j=>obtain⟨t',rfl⟩:=ry;exact arb (cO I q (by simp))
  |str j=>obtain⟨t',rfl⟩:=ry;exact ard (cO I q (by simp))
  |_=>exact absurd (show false=true from hs) d9
 |bl i =>
  cases rx;cases y with
  |non=>cases ry;exact aq7 (cO I q (by simp))
  |bl j=>cases ry;exact eq_bool (cO I q alu)
  |str j=>obtain⟨t',rfl⟩:=ry;exact arn (cO I q (by simp))
  |_=>exact absurd (show false=true from hs) d9
 |int i =>
  k_dat (t,rx) "F"
  cases y with
  |non=>cases ry;exact arf (cO I q (by simp))
  |int j=>obtain⟨t',rfl⟩:=ry;exact eq_int (cO I q afI)
  |str j=>obtain⟨t',rfl⟩:=ry;exact ars (cO I q (by simp))
  |_=>exact absurd (show false=true from hs) d9
 |str i =>
  k_dat (t,rx) "F"
  cases y with
  |non=>cases ry;exact arh (cO I q (by simp))
  |bl j=>cases ry;exact aro (cO I q (by simp))
  |int j=>obtain⟨t',rfl⟩:=ry;exact aru (cO I q (by simp))
  |str j=>obtain⟨t',rfl⟩:=ry;exact eq_str (cO I q afJ)
  |_=>exact absurd (show false=true from hs) d9
 |byt i =>
  k_dat (t,rx) "F"
  cases y with
  |byt j=>obtain⟨t',rfl⟩:=ry;exact PySem.W.eq_bytes (cO I q afK)
  |_=>exact absurd (show false=true from hs) d9
 |_=>cases y <;> exact absurd (show false=true from hs) d9
theorem apL:OpR X (fB .NotEq) rNe:=by
 walk_at "k"
 obtain⟨hs,q⟩:=h;cases x with
 |non =>
  cases rx;cases y with
  |non=>cases ry;exact aq8 (cO I q (by simp))
  |bl j=>cases ry;exact aq9 (cO I q (by simp))
  |int j=>obtain⟨t',rfl⟩:=ry;exact ari (cO I q (by simp))
  |str j=>obtain⟨t',rfl⟩:=ry;exact arj (cO I q (by simp))
  |_=>exact absurd (show false=true from hs) d9
 |bl i =>
  cases rx;cases y with
  |non=>cases ry;exact ara (cO I q (by simp))
  |bl j=>cases ry;exact ne_bool (cO I q (congrArg not alu))
  |str j=>obtain⟨t',rfl⟩:=ry;exact arp (cO I q (by simp))
  |_=>exact absurd (show false=true from hs) d9
 |int i =>
  k_dat (t,rx) "F"
  cases y with
  |non=>cases ry;exact ark (cO I q (by simp))
  |int j=>obtain⟨t',rfl⟩:=ry;exact ne_int (cO I q (congrArg not afI))
  |str j=>obtain⟨t',rfl⟩:=ry;exact arv (cO I q (by simp))
  |_=>exact absurd (show false=true from hs) d9
 |str i =>
  k_dat (t,rx) "F"
  cases y with
  |non=>cases ry;exact arl (cO I q (by simp))
  |bl j=>cases ry;exact arq (cO I q (by simp))
  |int j=>obtain⟨t',rfl⟩:=ry;exact arw (cO I q (by simp))
  |str j=>obtain⟨t',rfl⟩:=ry;exact ne_str (cO I q (congrArg not afJ))
  |_=>exact absurd (show false=true from hs) d9
 |byt i =>
  k_dat (t,rx) "F"
  cases y with
  |byt j=>obtain⟨t',rfl⟩:=ry;exact PySem.W.ne_bytes (cO I q (congrArg not afK))
  |_=>exact absurd (show false=true from hs) d9
 |_=>cases y <;> exact absurd (show false=true from hs) d9
theorem apM:OpR X (fB .Lt) (rI0 fun i j=>.bl (decide (i<j))):=opB0 fun _ _ _ _ _ _ _ q=>lt_int q
theorem op_le:OpR X (fB .LtE) (rI0 fun i j=>.bl (decide (i<=j))):=opB0 fun _ _ _ _ _ _ _ q=>le_int q
theorem apO:OpR X (fB .Gt) (rI0 fun i j=>.bl (decide (j<i))):=opB0 fun _ _ _ _ _ _ _ q=>gt_int q
theorem alv:OpR X (fB .GtE) (rI0 fun i j=>.bl (decide (j<=i))):=opB0 fun _ _ _ _ _ _ _ q=>ge_int q
theorem arZ:OpR X (fB .Is) (fun x y H Q=>y=.non/\Q (.bl (decide (x=.non))) H):=by
 walk_at "k"
 obtain⟨rfl,q⟩:=h;cases ry;refine is_none_gen (cO I q ?_);cases x <;> first
  |(cases rx;rfl)
  |(obtain⟨t,rfl⟩:=rx;rfl)
theorem Xp:OpR X (fB .IsNot) (fun x y H Q=>y=.non/\Q (.bl (!decide (x=.non))) H):=by
 walk_at "k"
 obtain⟨rfl,q⟩:=h;cases ry;refine isnot_none_gen (cO I q ?_);cases x <;> first
  |(cases rx;rfl)
  |(obtain⟨t,rfl⟩:=rx;rfl)
theorem vB(b:Expr){op:CmpOp}(h:op≠.In:=by decide)(h2:op≠.NotIn:=by decide):Wf op b=false:=by
 have e1:(op == CmpOp.In)=false:=by cases op <;> first|rfl|exact absurd rfl h
 have e2:(op == CmpOp.NotIn)=false:=by cases op <;> first|rfl|exact absurd rfl h2
 cases b <;> simp[Wf,e1,e2]
theorem Du{op:CmpOp}{r:R2}(ho:OpR X (fB op) r)(ha:PE X a ta)(hb:PE X b tb)(hm:Wf op b=false):PE X (.Compare a [op] [b] pos) (tOp r ta tb):=by
 walk_at "l"
 exact wpAny_Compare1 (binT ha hb I h fun v u s2 x y H2 I2 rx ry q=>ho pins s2 σ H2 x y v u Q I2 rx ry q) hm
inductive RB (x:V) (H:Hp) (Q:Bool->Hp->Prop):Prop
 |k (b:Bool):x=.bl b->Q b H->RB x H Q
@[reducible] def alw(t:TE):TT:=fun σ H Q=>t σ H fun x H'=>RB x H' Q
theorem zL{op:CmpOp}{r:R2}(ho:OpR X (fB op) r)(ha:PE X a ta)(hb:PE X b tb)(hm:Wf op b=false):PT X (.Compare a [op] [b] pos) (alw (tOp r ta tb)):=by
 walk_at "l"
 refine wpAny_isTrue_Compare1 (thn (ha pins s σ H _ I h) fun v s1 ⟨x,H1,I1,r1,q1⟩=>thn (hb pins s1 σ H1 _ I1 q1) fun u s2 ⟨y,H2,I2,r2,q2⟩ =>
  thn (ho pins s2 σ H2 x y v u _ I2 r1 r2 q2) fun c s3 ⟨z,H3,I3,r3,k,e,q3⟩=>?_) hm
 subst e;cases r3;exact Bk #[H3,I3,q3]
def ar0(r r':R2)(ta tb tc:TE):TE:=fun σ H Q=>ta σ H fun x H1=>tb σ H1 fun y H2=>r x y H2 fun z H3=>∃k,z=.bl k /\
 (if k=true then tc σ H3 fun w' H4=>r' y w' H4 Q else Q (.bl false) H3)
theorem aap{op op':CmpOp}{r r':R2}(ho:OpR X (fB op) r)(ho':OpR X (fB op') r')(ha:PE X a ta)(hb:PE X b tb)(hc:PE X c tc)
  (hm:lastMarks [op,op'] [b,c]=false:=by with_unfolding_all rfl):PE X (.Compare a [op,op'] [b,c] pos) (ar0 r r' ta tb tc):=by
 walk_at "l"
 refine Compare_chain (thn (ha pins s σ H _ I h) fun v s1 ⟨x,H1,I1,r1,q1⟩=>chain_link (thn (hb pins s1 σ H1 _ I1 q1) fun u s2 ⟨y,H2,I2,r2,q2⟩ =>
  thn (ho pins s2 σ H2 x y v u _ I2 r1 r2 q2) fun d s3 ⟨z,H3,I3,r3,k,e,q3⟩=>?_)) hm
 subst e;cases r3;refine Bk ?_;cases k with
 |false=>exact ite_ff #[.bl false,H3,I3,rfl,q3]
 |true=>exact ite_tt (chain_last (thn (hc pins s3 σ H3 _ I3 q3) fun w' s4 ⟨z',H4,I4,r4,q4⟩=>ho' pins s4 σ H4 y z' u w' Q I4 r2 r4 q4))
theorem O2:(sizeLine:Nat)<2 ^ 63:=by rw[Ng];decide
theorem eX:OpR X (jx .Add) (fun x y H Q=>∃i j,x=.str i/\y=.str j/\i.length+j.length<=sizeLine/\Q (.str (i++j)) H):=by
 walk_at "k"
 obtain⟨i,j,rfl,rfl,hz,q⟩:=h
 k_dat (t,rx) "F"
 k_dat (t',ry) "F"
 exact add_str (fun t' tk=>#[.str (i++j),H,I.tok _,#[_,rfl],q]) hz
theorem vals1{x:V}{us:List Value}(r:Vals [x] us):∃u,us=[u]/\RelV x u:=by
 cases r with
 |cons r1 r2=>cases r2;show#[_,rfl,r1]
theorem vals2{x y:V}{us:List Value}(r:Vals [x,y] us):∃u w',us=[u,w']/\RelV x u/\RelV y w':=by
 cases r with
 |cons r1 r2 =>
  cases r2 with
  |cons r3 r4=>cases r4;show#[_,_,rfl,r1,r3]
theorem Xq:fW X (.type "str") (fun xs H Q=>∃i,xs=[.int i]/\i.natAbs.log2<1920/\Q (.str (toString i)) H):=by
 walk_at "s"
 obtain⟨i,rfl,hz,q⟩:=h;obtain⟨u,rfl,t,rfl⟩:=vals1 r;exact PySem.P.str_of_int hz #[.str _,H,I.tok _,#[_,rfl],q]
def LenV(K:aG)(x:V)(H:Hp)(n:Nat):Prop:=
 match x with
 | .str y=>y.length<=sizeLine/\n=y.length
 | .byt y=>y.size<=sizeLine/\n=y.size
 | .ref p=>(∃xs,SqL K H p xs/\n=xs.length)\/∃xs,SqT K H p xs/\n=xs.length
 |_=>False
theorem alx:fW X (.builtin "len") (fun xs H Q=>∃x n,xs=[x]/\LenV X.K x H n/\Q (.int n) H):=by
 walk_at "s"
 obtain⟨x,n,rfl,e,q⟩:=h;obtain⟨u,rfl,rx⟩:=vals1 r;have hl:=O2;have hs:sizeLine=16777216:=Ng;cases x with
 |str y =>
  k_dat (t,rx) "F"
  obtain⟨hy,e'⟩:y.length<=sizeLine/\n=y.length:=e;subst e';exact len_str tb_g% #[.int _,H,I.tok _,#[_,rfl],q]
 |byt y =>
  k_dat (t,rx) "F"
  obtain⟨hy,e'⟩:y.size<=sizeLine/\n=y.size:=e;subst e';exact PySem.W.len_bytes tb_g% #[.int _,H,I.tok _,#[_,rfl],q]
 |ref p =>
  cases rx;have e':(∃xs,SqL X.K H p xs/\n=xs.length)\/∃xs,SqT X.K H p xs/\n=xs.length:=e;rcases e' with⟨xs,hx,e'⟩|⟨xs,hx,e'⟩
  ·subst e';obtain⟨its,r',pl,hz⟩:=I.list hx;have hlen:=r'.length;exact Calls.call_len_list pl.isList (by simp only[bH];lia) #[.int xs.length,H,I.tok _,#[_,by simp only[bH];rw[hlen]],q]
  ·subst e';obtain⟨its,r',pl,hz⟩:=I.tuple hx;have hlen:=r'.length;exact len_tuple pl (by simp only[bH];lia) #[.int xs.length,H,I.tok _,#[_,by simp only[bH];rw[hlen]],q]
 |_=>exact(show False from e).elim
end
structure ad8(h:Heap)(x dx C:Addr)(mA:Str->Option Value):Prop where
 obj:h.get? x=some (xO C dx)
 ns:h.Ns1 dx mA
 ne:dx≠x
theorem Ud{h:Heap}{dx:Addr}{mA:Str->Option Value}(n:h.Ns1 dx mA):∃od,h.get? dx=some od/\∀name,VR name od=some (mA name):=by
 obtain⟨o,es,ep,ho,hd,hk,_,hm⟩:=n;show#[o,ho,fun name=>?_];have e:=hm name;unfold nsFind findBy at e;rw[<-akA]at e;unfold VR;rw[hd];dsimp only;split
 ·rename_i y q;rw[q]at e;exact congrArg some e
 ·rename_i q;rw[q]at e;have a:es.toList.any (·.refKey)=false:=by
   rw[List.any_eq_false];intro y hy;obtain⟨z,t,hkey⟩:=hk y (Array.mem_toList_iff.mp hy);simp[arI,hkey]
  have a':¬ es.toList.any (·.refKey)=true:=by rw[a];exact d9
  rw[if_neg a'];exact congrArg some e
theorem ad8.look{h:Heap}{x dx C:Addr}{mA:Str->Option Value}(I:ad8 h x dx C mA):∃od,acG h x (xO C dx) C (some od)/\∀name,VR name od=some (mA name):=
 let ⟨od,ho,hl⟩:=Ud I.ns
 #[od,#[I.obj,rfl,rfl,ho],hl]
section
variable{prog:aH}{w:World}{A:aP}{E:Value->Shared->Prop}{s:Shared}{K:aG}{x dx C f:Addr}{mA:Str->Option Value}{name:Str}{v:Value}
theorem get_map{expr:Bool}{Q:Value->Shared->Prop}(X:K.In s.heap)(I:ad8 s.heap x dx C mA)(hg:Ge K C name=true)(hh:xM K C=true)
  (ha:fD K (.ref C) name=some none) (hv:mA name=some v) (hv':VN v=true) (h:Q v { s with toks:=s.toks+1 }):
  wpAny (model prog w) A (Nq (.ref x) name expr) Q E s:=by
 obtain⟨od,J,hl⟩:=I.look;exact PySem.W.get_value X J (acy hg).1 (aiG hh ha rfl (by rw[hl,hv])) hv' h
theorem aly{pl:Sem Bool}{Q:Value × List Value->Shared->Prop}(X:K.In s.heap)(I:ad8 s.heap x dx C mA)(hg:Ge K C name=true)
  (hf:fD K (.ref C) name=some (some (.ref f))) (ht:MP K (.ref f)=true) (hv:mA name=none) (h:Q (.ref f,[.ref x]) s):
  wpAny (model prog w) A (Nj (.ref x) name pl) Q E s:=by
 obtain⟨od,J,hl⟩:=I.look;exact PySem.W.method_fn X J (acy hg).1 (acy hg).2 hf (beq_iff_eq.mp ht) (by show(VR name od).map (·.isSome)=some false;rw[hl,hv];rfl) h
theorem aoc{ns:List Str}{Q:Unit->Shared->Prop}(X:K.In s.heap)(I:ad8 s.heap x dx C mA)
  (hs:fD K (.ref C) "__setattr__" = some (some (.builtin "object.__setattr__"))) (hp:VL K C=true) (ht:acC K C name=some none) (hh:xM K C=true)
  (hw:acQ mA ns) (hsz:ns.length<=sizeLine)
  (h:∀h',ad8 h' x dx C (fun y=>if y=name then some v else mA y)->rA dx s.heap h'->Q () { s with heap:=h',toks:=s.toks+2 }):
  wpAny (model prog w) A (setAttr (.ref x) name v) Q E s:=by
 obtain⟨od,J,hl⟩:=I.look;refine aiI X J hs (PySem.W.osa_open (s:={ s with toks:=s.toks+1 }) (r:=none) X J hp ht fun b=>?_);obtain⟨cd,hc,hd'⟩:=aiL hh;have hx:s.heap.get? x=some #[.ref C,some dx,.plain,#[]]:=I.obj;refine aA (aK (aA (aA (aja hx (aA (Hl (s:={ s with toks:=s.toks+1 }) (acz X hc) ?_))))));rw[hd'];refine aK (a:=some dx) (aA (aK (aA ?_)));refine ajt (s:={ s with toks:=s.toks+1 }) I.ns fun h' hn2 hs2=>?_;obtain⟨oD,esD,epD,hoD,hdD,hcD⟩:=hn2.count (arH name v hw);refine aA (ai3 hoD (by rw[hdD];exact ai4 (bQ hcD (by rw[bh];lia))) ?_);exact aK (h _ #[(hs2.2 _ (aL I.ne)).trans I.obj,hn2,I.ne] hs2)
theorem alz{R:lC->Shared->Prop}{vs:List Value}{kw:List (Str × Value)}(X:K.In s.heap)(hm:VP K C=true)
  (hi:fD K (.ref C) "__init__" = some (some (.ref f))) (hf:Bh K (.ref f)=some (.type "function"))
  (h:fY (model prog w) (A.under (.builtin "type.__call__" #[.ref C::vs,kw])) (.call (.ref f) #[.ref (s.heap.objs.size+1)::vs,kw]) (PySem.W.InitBack (s.heap.objs.size+1) R)
   { s with heap:=(s.heap.push tQ).push (xO C s.heap.objs.size) }) :
  fY (model prog w) A (.call (.ref C) #[vs,kw]) R s:=by
 obtain⟨hh,g,d,t,os⟩:=s;exact PySem.W.make_core (PySem.W.makes_of X hm) (Bc X hi) (fun self=>PySem.W.bind_fn X self hf) (.inl rfl) h
end
def bU(f:Str)(v:V):List (Str × V)->List (Str × V)
 |[]=>[(f,v)]
 |(g,x)::r=>if g=f then(g,v)::r else(g,x)::bU f v r
theorem Jm(f g:Str)(v:V):∀fs:List (Str × V),(bU f v fs).lookup g=if g=f then some v else fs.lookup g
 |[]=>by
  show xJ g [(f,v)]=_;by_cases h:g=f
  ·have hb:(g == f)=true:=beq_iff_eq.mpr h;simp only[xJ,hb,if_pos h]
  ·have hb:(g == f)=false:=beq_eq_false_iff_ne.mpr h;simp only[xJ,hb,if_neg h]
 |(k,x)::r=>by
  have ih:=Jm f g v r;rw[show bU f v ((k,x)::r)=(if k=f then(k,v)::r else(k,x)::bU f v r)from rfl];by_cases hk:k=f
  ·rw[if_pos hk];by_cases h:g=k
   ·have hb:(g == k)=true:=beq_iff_eq.mpr h;simp only[xJ,hb,if_pos (h.trans hk)]
   ·have hb:(g == k)=false:=beq_eq_false_iff_ne.mpr h;simp only[xJ,hb,if_neg (fun e:g=f=>h (e.trans hk.symm))]
  ·rw[if_neg hk];by_cases h:g=k
   ·have hb:(g == k)=true:=beq_iff_eq.mpr h;simp only[xJ,hb,if_neg (fun e:g=f=>hk (h.symm.trans e))]
   ·have hb:(g == k)=false:=beq_eq_false_iff_ne.mpr h;simp only[xJ,hb];exact ih
theorem Hw(f:Str)(v:V):∀fs:List (Str × V),f∈(bU f v fs).map (·.1)/\∀g,g∈fs.map (·.1)->g∈(bU f v fs).map (·.1)
 |[]=>#[by simp[bU],fun g h=>by simp at h]
 |(k,x)::r=>by
  obtain⟨i1,i2⟩:=Hw f v r;rw[show bU f v ((k,x)::r)=(if k=f then(k,v)::r else(k,x)::bU f v r)from rfl];by_cases hk:k=f
  ·rw[if_pos hk];subst hk;show#[by simp,fun g h=>by simpa using h]
  ·rw[if_neg hk];show#[?_,fun g h=>?_]
   ·rw[cP];exact cB _ i1
   ·rw[cP]at h ⊢;rcases aO.mp h with e|e
    ·exact aO.mpr (.inl e)
    ·exact cB _ (i2 g e)
theorem Jo(f:Str)(v:V):∀fs:List (Str × V),(bU f v fs).length<=fs.length+1
 |[]=>by simp[bU]
 |(k,x)::r=>by
  have ih:=Jo f v r;rw[show bU f v ((k,x)::r)=(if k=f then(k,v)::r else(k,x)::bU f v r)from rfl];by_cases hk:k=f
  ·rw[if_pos hk,bh,bh];lia
  ·rw[if_neg hk,bh,bh];lia
theorem tZ.some_of{v:V}{o:Option Value}(r:tZ (some v) o):∃u,o=some u/\RelV v u:=by
 cases o with
 |none=>exact(show False from r).elim
 |some u=>show#[u,rfl,r]
theorem tZ.none_of{o:Option Value}(r:tZ none o):o=none:=by
 cases o with
 |none=>rfl
 |some u=>exact(show False from r).elim
theorem Ue{v:V}{u:Value}(r:RelV v u):VN u=true:=by
 cases v with
 |non=>cases (show u=Value.none from r);rfl
 |bl b=>cases (show u=Value.bool b from r);rfl
 |int i=>obtain⟨t,e⟩:=(show ∃t,u=Value.int i t from r);cases e;rfl
 |str x=>obtain⟨t,e⟩:=(show ∃t,u=Value.str x t from r);cases e;rfl
 |byt b=>obtain⟨t,e⟩:=(show ∃t,u=Value.bytes b t from r);cases e;rfl
 |flt b=>obtain⟨t,e⟩:=(show ∃t,u=Value.float b t from r);cases e;rfl
 |ref a=>cases (show u=Value.ref a from r);rfl
 |ty n=>cases (show u=Value.type n from r);rfl
section
variable{P:aH}{w:World}{H H':Hp}{h h':Heap}{a C dx:Addr}{fs fs':List (Str × V)}
theorem LQ(hok:HOk P w H h)(e:H a=some (.ins C dx fs)):∃mA,ad8 h a dx C mA/\(∀f,tZ (fs.lookup f) (mA f))/\acQ mA (fs.map (·.1))/\fs.length<=1000/\H dx=some (.own a):=by
 obtain⟨d,z,ne,ob,mA,n,r,q⟩:=(show cA P w H h a (.ins C dx fs)from hok a _ e);show#[mA,#[ob,n,ne],r,q,z,d]
end
structure Cls(K:aG)(C:Addr):Prop where
 pg:Ge K C acv=true
 hd:xM K C=true
 po:VL K C=true
 sa:fD K (.ref C) "__setattr__" = some (some (.builtin "object.__setattr__"))
theorem Cls.get{K:aG}{C:Addr}(c:Cls K C)(f:Str):Ge K C f=true:=c.pg
def bM(K:aG)(C:Addr)(f:Str):Prop:=fD K (.ref C) f=some none
theorem bM.taker{K:aG}{C:Addr}{f:Str}(n:bM K C f):acC K C f=some none:=by
 unfold acC;rw[show fD K (.ref C) f=some none from n];rfl
structure Con(K:aG)(C:Addr)(f:Str)(v:V)(u:Value):Prop where
 at_:fD K (.ref C) f=some (some u)
 rel:RelV v u
 get:Gd K u "__get__" = some none
 cp:PySem.W.copiedNames.contains f=false
structure Meth(K:aG)(C:Addr)(m:Str)(f:Addr):Prop where
 at_:fD K (.ref C) m=some (some (.ref f))
 fn:MP K (.ref f)=true
 kp:nP K (.ref f)=true
section
variable{X:Cx}{pins:List (Addr × Obj)}{σ:St}{H:Hp}{s:Shared}{a C dx:Addr}{fs:List (Str × V)}{f:Str}{v:V}{A:aP}{E:Value->Shared->Prop}
theorem ad9{b:Bool}{Q:Value->Shared->Prop}(I:Inv X pins σ H s)(e:H a=some (.ins C dx fs))(c:Cls X.K C)(n:bM X.K C f)(l:fs.lookup f=some v)
  (h:∀u s',Inv X pins σ H s'->RelV v u->Q u s'):wpAny (model X.prog X.w) A (Nq (.ref a) f b) Q E s:=by
 obtain⟨mA,O,r,_,_,_⟩:=LQ I.hok e;obtain⟨u,hu,ru⟩:=tZ.some_of (v:=v) (o:=mA f) (by rw[<-l];exact r f);exact get_map I.kIn O (c.get f) c.hd n hu (Ue ru) (h u _ (I.tok _) ru)
theorem aea{m:Str}{g:Addr}{pl:Sem Bool}{Q:Value × List Value->Shared->Prop}(I:Inv X pins σ H s)(e:H a=some (.ins C dx fs))(c:Cls X.K C)(k:Meth X.K C m g)(l:fs.lookup m=none)
  (h:Q (.ref g,[.ref a]) s):wpAny (model X.prog X.w) A (Nj (.ref a) m pl) Q E s:=by
 obtain⟨mA,O,r,_,_,_⟩:=LQ I.hok e;have hn:mA m=none:=tZ.none_of (by rw[<-l];exact r m);exact aly I.kIn O (c.get m) k.at_ k.fn hn h
theorem aeb{y:V}{u:Value}{Q:Unit->Shared->Prop}(I:Inv X pins σ H s)(e:H a=some (.ins C dx fs))(c:Cls X.K C)(n:bM X.K C f)(hl:fs.length<1000)(ry:RelV y u)
  (h:∀s',Inv X pins σ (upd H a (.ins C dx (bU f y fs))) s'->Q () s'):wpAny (model X.prog X.w) A (setAttr (.ref a) f u) Q E s:=by
 obtain⟨mA,O,r,wi,_,ho⟩:=LQ I.hok e;have hz:(fs.map (·.1)).length<=sizeLine:=by rw[aC,Ng];lia
 refine aoc I.kIn O c.sa c.po n.taker c.hd wi hz fun h' O' sb=>h _ ?_;have hd:∃o,h'.get? dx=some o:=let ⟨o,_,_,e',_⟩:=O'.ns;#[o,e'];refine I.write (x:=a) (e:=dx) (by rw[e];exact True.intro) (.inr ho) (fun b q hb z=>(sb.2 b hb).trans z) hd ?_;show#[by rwa[ao O.ne],?_,O.ne,O'.obj,_,O'.ns,fun g=>?_,fun g hg=>?_]
 ·have:=Jo f y fs;lia
 ·show tZ ((bU f y fs).lookup g) (if g=f then some u else mA g);rw[Jm];by_cases q:g=f
  ·rwa[if_pos q,if_pos q]
  ·rw[if_neg q,if_neg q];exact r g
 ·by_cases q:g=f
  ·rw[q];exact(Hw f y fs).1
  ·refine(Hw f y fs).2 g (wi g fun z=>hg ?_);show(if g=f then some u else mA g)=none;rwa[if_neg q]
theorem Inv.made(I:Inv X pins σ H s):Inv X pins σ (upd (upd H s.heap.objs.size (.own (s.heap.objs.size+1))) (s.heap.objs.size+1) (.ins C s.heap.objs.size []))
  { s with heap:=(s.heap.push tQ).push (xO C s.heap.objs.size) }:=by
 have e1:(s.heap.push tQ).get? s.heap.objs.size=some tQ:=dN s.heap rfl;have e2:((s.heap.push tQ).push (xO C s.heap.objs.size)).get? (s.heap.objs.size+1)=some (xO C s.heap.objs.size):=by
  have:=dN (s.heap.push tQ) (o:=xO C s.heap.objs.size) rfl
  rwa [tR]at this
 have e3:(s.heap.push tQ).Ns s.heap.objs.size (fun _=>none):=#[tQ,#[],_,e1,rfl,(fun e he=>absurd he (by simp)),fun _=>rfl];have I1:=I.laid (a:=s.heap.objs.size) (o:=.own (s.heap.objs.size+1)) (h':=s.heap.push tQ) (t':=s.toks) (fun b u q=>cU _ q) (aJ _) #[_,e1];refine I1.laid (a:=s.heap.objs.size+1) (o:=.ins C s.heap.objs.size []) (t':=s.toks) (fun b u q=>cU _ q) (GF (tR _ _)) ?_;have ne:s.heap.objs.size≠s.heap.objs.size+1:=bR (xX _);show#[by rw[ao ne,aj],cJ _,ne,e2,fun _=>none,(akW e3).at fun o q=>cU _ q,fun _=>True.intro,fun y hy=>absurd rfl hy]
theorem afL{prog:aH}{w:World}{env:Env}{e:Expr}{f:Str}{pos:Pos}{s:Shared}{Q:Value->Shared->Prop}(hb:nQ e f env (eval e env)=eval e env)
  (h:wpAny (model prog w) A (eval e env) (fun o s₁=>wpAny (model prog w) A (Nq o f true) Q E s₁) E s):wpAny (model prog w) A (eval (.Attribute e f pos) env) Q E s:=
 Attribute_any_ h (by rw[arm_eval_Attribute,hb])
end
def rFld(K:aG)(f:Str)(x:V)(H1:Hp)(Q:VK):Prop:=∃a C dx fs v,x=.ref a/\H1 a=some (.ins C dx fs)/\Cls K C/\bM K C f/\fs.lookup f=some v/\Q v H1
@[reducible] def alA(K:aG)(ta:TE)(f:Str):TE:=fun σ H Q=>ta σ H fun x H1=>rFld K f x H1 Q
def sFld(K:aG)(ta tv:TE)(f:Str):TS:=fun D σ H=>tv σ H fun y H1=>ta σ H1 fun x H2=>∃a C dx fs,x=.ref a/\H2 a=some (.ins C dx fs)/\Cls K C/\bM K C f/\fs.length<1000 /\
 D.nx σ (upd H2 a (.ins C dx (bU f y fs)))
section
variable{X:Cx}{o e value:Expr}{f:Str}{pos pos' tpos:Pos}{ta tv:TE}
theorem alB(he:PE X e ta)(hb:nQ e f X.env (eval e X.env)=eval e X.env):PE X (.Attribute e f pos) (alA X.K ta f):=by
 walk_at "l"
 refine afL hb (thn (he pins s σ H _ I h) fun u s1 zq=>?_);obtain⟨x,H1,I1,rx,a,C,dx,fs,v,ex,ea,c,n,l,q⟩:=zq;subst ex;obtain rfl:u=Value.ref a:=rx;exact ad9 I1 ea c n l fun u' s2 I2 ru=>#[v,H1,I2,ru,q]
theorem ar3(ha:PE X o ta)(hv:PE X value tv)(hs:xU value (some (.Attribute o f pos')) pos.line X.env=pure false):PS X (.Assign [.Attribute o f pos'] value pos) (sFld X.K ta tv f):=by
 walk_at "H"
 refine aiT (thn (hv pins s σ H _ I h) fun u s1 ⟨y,H1,I1,ry,q⟩=>thn (ha pins s1 σ H1 _ I1 q) fun ov s2 zq=>?_) hs;obtain⟨x,H2,I2,rx,a,C,dx,fs,ex,ea,c,n,l,q2⟩:=zq;subst ex;obtain rfl:ov=Value.ref a:=rx;exact aeb I2 ea c n l ry fun s3 I3=>#[σ,_,I3,q2]
end
section
variable{X:Cx}{pins:List (Addr × Obj)}{σ:St}{H:Hp}{s:Shared}{A:aP}{E:Value->Shared->Prop}{Q:Value->Shared->Prop}{c:Value}{b:Bool}
inductive Hx (K:aG) (H:Hp):V->Value->Prop where
 |non:Hx K H .non (.type "NoneType")
 |bl (x:Bool):Hx K H (.bl x) (.type "bool")
 |int (i:Int):Hx K H (.int i) (.type "int")
 |str (x:Str):Hx K H (.str x) (.type "str")
 |flt (x:UInt64):Hx K H (.flt x) (.type "float")
 |lst {a:Addr} {xs:List V} (e:H a=some (.lst xs)):Hx K H (.ref a) (.type "list")
 |frz {a:Addr} {o:Obj} {xs:List V} (e:H a=some (.frz o (.lst xs))):Hx K H (.ref a) (.type "list")
 |tup {a:Addr} {xs:List V} (e:H a=some (.tup xs)):Hx K H (.ref a) (.type "tuple")
 |dK {a:Addr} {kvs:List (Key × V)} (e:H a=some (.dK kvs)):Hx K H (.ref a) (.type "dict")
 |dT {a:Addr} {kvs:List (List Key × V)} (e:H a=some (.dT kvs)):Hx K H (.ref a) (.type "dict")
 |ins {a C dx:Addr} {fs:List (Str × V)} (e:H a=some (.ins C dx fs)) (cl:Cls K C) (ha:fD K (.ref C) "__class__" = some (some (.builtin "object.__class__")))
   (hn:Gd K (.builtin "object.__class__") "__get__" = some (some (.builtin "getset_descriptor.__get__"))) (htk:acB K (.builtin "object.__class__")=some true)
   (hm:jZ K C (.type "object")=some true):Hx K H (.ref a) (.ref C)
theorem ag4{x:V}{u t:Value}(I:Inv X pins σ H s)(rx:RelV x u)(ty:Hx X.K H x t)(e:qp X.K t c=some b)(h:∀tk,Q (.bool b) { s with toks:=tk }):
  wpAny (model X.prog X.w) A (call (.builtin "isinstance") [u,c]) Q E s:=by
 cases ty with
 |non=>cases (show u=Value.none from rx);exact wC PySem.W.kitx_none I.kIn True.intro e (fun z=>nomatch z) h
 |bl y=>cases (show u=Value.bool y from rx);exact wC PySem.W.kitx_bool I.kIn True.intro e (fun z=>nomatch z) h
 |int i=>obtain⟨t,q⟩:=(show ∃t,u=Value.int i t from rx);cases q;exact wC PySem.W.kitx_int I.kIn True.intro e (fun z=>nomatch z) h
 |str y=>obtain⟨t,q⟩:=(show ∃t,u=Value.str y t from rx);cases q;exact wC PySem.W.kitx_str I.kIn True.intro e (fun z=>nomatch z) h
 |flt y=>obtain⟨t,q⟩:=(show ∃t,u=Value.float y t from rx);cases q;exact wC PySem.W.kitx_float I.kIn True.intro e (fun z=>nomatch z) h
 | @lst a xs ea =>
  cases (show u=Value.ref a from rx);obtain⟨_,_,n,_,h1⟩:=(show cA X.prog X.w H s.heap a (.lst xs)from I.hok a _ ea);exact wC aiJ I.kIn #[_,h1,rfl] e (fun z=>nomatch z) h
 | @frz a ob xs ea =>
  cases (show u=Value.ref a from rx);obtain⟨_,_,_,n,_,h1⟩:=(show cA X.prog X.w H s.heap a (.frz ob (.lst xs))from I.hok a _ ea);exact wC aiJ I.kIn #[_,h1,rfl] e (fun z=>nomatch z) h
 | @tup a xs ea =>
  cases (show u=Value.ref a from rx);obtain⟨_,_,_,p⟩:=(show cA X.prog X.w H s.heap a (.tup xs)from I.hok a _ ea);obtain⟨o,h1,h2,_⟩:=p;exact wC PySem.W.kitx_tuple I.kIn #[o,h1,h2] e (fun z=>nomatch z) h
 | @dK a kvs ea =>
  cases (show u=Value.ref a from rx);obtain⟨_,_,vs,_,p⟩:=(show cA X.prog X.w H s.heap a (.dK kvs)from I.hok a _ ea);obtain⟨o,es,ep,h1,h2,_⟩:=p;exact wC aiK I.kIn #[o,h1,h2.1] e (fun z=>nomatch z) h
 | @dT a kvs ea =>
  cases (show u=Value.ref a from rx);obtain⟨_,_,xs,_,o,es,ep,h1,h2,_⟩:=(show cA X.prog X.w H s.heap a (.dT kvs)from I.hok a _ ea);exact wC aiK I.kIn #[o,h1,h2.1] e (fun z=>nomatch z) h
 | @ins a C dx fs ea cl ha hn htk hm =>
  cases (show u=Value.ref a from rx);obtain⟨mA,O,_⟩:=LQ I.hok ea;obtain⟨od,J,_⟩:=O.look;exact wC (PySem.W.kitx_own (cl.get _) cl.hd ha hn htk hm) I.kIn J e (fun z=>nomatch z) h
end
structure fV(k:Nat)(A:aP):Prop where
 hd:A.handled=none
 dp:A.depth+3*k+5<recursionLimit
 un:A.units+16*k+200<cLine
theorem fV.mono{j k:Nat}{A:aP}(r:fV k A)(h:j<=k):fV j A:=#[r.hd,by have:=r.dp;lia,by have:=r.un;lia]
theorem fV.deeper{k:Nat}{A:aP}(r:fV (k+1) A)(env:Env):fV k (A.deeper env):=
 #[r.hd,by have:=r.dp;show A.depth+1+3*k+5<_;lia,by have:=r.un;show A.units+3+16*k+200<_;lia]
theorem fV.in1{k:Nat}{A:aP}(r:fV (k+1) A):fV k A.in1:=
 #[r.hd,by have:=r.dp;show A.depth+3*k+5<_;lia,by have:=r.un;show A.units+1+16*k+200<_;lia]
theorem aec{A:aP}{C:Addr}{us:List Value}{kw:List (Str × Value)}:(A.under (.builtin "type.__call__" #[.ref C::us,kw])).depth=A.depth+1:=by
 first|rfl|simp[adJ,Code.weight,Code.isCreation,Code.isGuard,Code.isCaller,akJ,adN,guardIds]
theorem aed{A:aP}{C:Addr}{us:List Value}{kw:List (Str × Value)}:(A.under (.builtin "type.__call__" #[.ref C::us,kw])).units=A.units+1:=by
 first|rfl|simp[adJ,Code.cUnits,akJ,adN]
theorem fV.make{k:Nat}{A:aP}(r:fV (k+1) A)(C:Addr)(us:List Value)(kw:List (Str × Value)):fV k (A.under (.builtin "type.__call__" #[.ref C::us,kw])):=
 #[r.hd,by have:=r.dp;rw[aec];lia,by have:=r.un;rw[aed];lia]
theorem fV.depth{k:Nat}{A:aP}(r:fV k A):A.depth<recursionLimit:=by have:=r.dp;lia
theorem fV.units{k:Nat}{A:aP}(r:fV k A):A.units+64<cLine:=by have:=r.un;lia
@[reducible] def tNil:TA:=fun _ H Q=>Q [] H
@[reducible] def alC(ta:TE)(tr:TA):TA:=fun σ H Q=>ta σ H fun x H1=>tr σ H1 fun xs H2=>Q (x::xs) H2
section
variable{X:Cx}{e:Expr}{es:List Expr}{te:TE}{t:TA}{pos:Pos}
theorem cR:PA X [] tNil:=fun _ _ _ _ H Q I h=>yh #[[],H,I,.nil,h]
theorem aM(ha:PE X e te)(hr:PA X es t)(hs:aZ (e::es) X.env=(false,eval e X.env)::aZ es X.env:=by rfl):PA X (e::es) (alC te t):=by
 intro pos pins s σ H Q I h;rw[hs];show wpAny _ _ (spliced ((false,eval e X.env)::cY pos (aZ es X.env))) _ _ s
 k_dat (uV,ha,u) "z"
 walk_at "w"
 exact thn (hr pos pins s1 σ H1 _ I1 q1) fun us s2 ⟨xs,H2,I2,r2,q2⟩=>#[x::xs,H2,I2,.cons r1 r2,q2]
def tTup(t:TA):TE:=fun σ H Q=>t σ H fun xs H1=>xs.length<=sizeLine/\∀p,H1 p=none->Q (.ref p) (upd H1 p (.tup xs))
def tLst(t:TA):TE:=fun σ H Q=>t σ H fun xs H1=>xs.length<=sizeLine/\∀p,H1 p=none->Q (.ref p) (upd H1 p (.lst xs))
theorem alD{x1}(h:PA X es t):PE X (.Tuple es x1 pos) (tTup t):=by
 intro pins s σ H Q I hq;refine wpAny_Tuple_spliced (thn (h pos pins s σ H _ I hq) fun us s1 ⟨xs,H1,I1,r,z,q⟩=>#[by rwa[<-r.length],?_]);have hf:H1 s1.heap.objs.size=none:=I1.hok.fresh (aJ _);show#[.ref s1.heap.objs.size,upd H1 s1.heap.objs.size (.tup xs),I1.laid (t':=s1.toks) (fun b u e=>cU _ e) (aJ _) ?_,rfl,q _ hf];show#[z,us,r,#[_,dN _ rfl,rfl,_,rfl]]
theorem Xr(h:PA X es t):PE X (.List es pos) (tLst t):=by
 intro pins s σ H Q I hq;refine wpAny_List_spliced (thn (h pos pins s σ H _ I hq) fun us s1 ⟨xs,H1,I1,r,z,q⟩=>#[by rwa[<-r.length],?_]);have hf:H1 s1.heap.objs.size=none:=I1.hok.fresh (aJ _);show#[.ref s1.heap.objs.size,upd H1 s1.heap.objs.size (.lst xs),I1.laid (t':=s1.toks) (fun b u e=>cU _ e) (aJ _) ?_,rfl,q _ hf];show#[z,us,0,r,dN _ rfl]
end
abbrev Sp:=List V->Hp->VK->XK->Prop
abbrev CXT:=List Env->Hp->Shared->XK->Value->Shared->Prop
structure RQ(P:aH)(w:World)(K:aG)(mg:Str->Option Value)(base:Heap)(A:aP)(outer:List Env)(s:Shared)(H:Hp):Prop where
 frames:A.frames=some outer
 mod:Mod K mg base
 bs:∀b o,base.get? b=some o->s.heap.get? b=some o/\H b=none
 bsz:base.objs.size<=s.heap.objs.size
 Cg:s.heap.FunFrames base outer
 frf:∀b∈frs outer,H b=none
 hok:HOk P w H s.heap
 bare:rD s.gens
def CE(outer:List Env)(P:aH)(w:World)(H:Hp)(s:Shared)(Q:VK)(u:Value)(s':Shared):Prop:=
 ∃v H',s'.os=s.os/\rD s'.gens/\Un (frs outer) [] H H' s.heap s'.heap/\HOk P w H' s'.heap/\RelV v u/\Q v H'
def CR(CX:CXT)(outer:List Env)(P:aH)(w:World)(H:Hp)(s:Shared)(Q:VK)(E:XK)(r:lC)(s':Shared):Prop:=
 match r with
 | .ok (.ret u)=>CE outer P w H s Q u s'
 | .ok _=>False
 | .error e=>CX outer H s E e s'
structure nA(P:aH)(w:World)(K:aG)(mg:Str->Option Value)(base:Heap)(CX:CXT)(k:Nat)(f:Addr)(fd:FuncData)(ps:List Str)(sp:Sp):Prop where
 len:∀vs H Q E,sp vs H Q E->vs.length=ps.length
 run:∀(A:aP)(outer:List Env)(s:Shared)(H:Hp)(args:Args)(us:List Value)(vs:List V)(Q:VK)(E:XK),fV k A->RQ P w K mg base A outer s H->Gw s fd args (ps.zip us)->Vals vs us->sp vs H Q E ->
  fY (model P w) A (.call (.ref f) args) (CR CX outer P w H s Q E) s
theorem nA.imp{P:aH}{w:World}{K:aG}{mg:Str->Option Value}{base:Heap}{CX:CXT}{k:Nat}{f:Addr}{fd:FuncData}{ps:List Str}{sp sp':Sp}(F:nA P w K mg base CX k f fd ps sp)
  (h:∀vs H Q E,sp' vs H Q E->sp vs H Q E):nA P w K mg base CX k f fd ps sp':=
 #[fun vs H Q E q=>F.len vs H Q E (h _ _ _ _ q),fun A outer s H args us vs Q E hr he hb hv hs=>F.run A outer s H args us vs Q E hr he hb hv (h _ _ _ _ hs)]
theorem RQ.make{P:aH}{w:World}{K:aG}{mg:Str->Option Value}{base:Heap}{A:aP}{outer:List Env}{s:Shared}{H:Hp}(e:RQ P w K mg base A outer s H)(C:Addr)(us:List Value)(kw:List (Str × Value)):
  RQ P w K mg base (A.under (.builtin "type.__call__" #[.ref C::us,kw])) outer s H:=#[by first|exact e.frames|(simpa[adJ,Code.envs,adN,pushEnvs]using e.frames),e.mod,e.bs,e.bsz,e.Cg,e.frf,e.hok,e.bare]
theorem RQ.in1{P:aH}{w:World}{K:aG}{mg:Str->Option Value}{base:Heap}{A:aP}{outer:List Env}{s:Shared}{H:Hp}(e:RQ P w K mg base A outer s H):
  RQ P w K mg base A.in1 outer s H:=#[e.frames,e.mod,e.bs,e.bsz,e.Cg,e.frf,e.hok,e.bare]
section
variable{X:Cx}{pins:List (Addr × Obj)}{σ:St}{H:Hp}{s s':Shared}
theorem Inv.env0(I:Inv X pins σ H s):RQ X.prog X.w X.K X.mg X.base X.A X.stack s H:=
 #[I.ok.frames,I.ok.mod,I.bs,bQ I.ok.bsz I.sz,I.stack,I.zJ,I.hok,I.bare]
theorem Inv.after{Q:VK}{u:Value}(I:Inv X pins σ H s)(h:CE X.stack X.prog X.w H s Q u s'):EP X pins σ Q u s':=by
 obtain⟨v,H',os,bare,un,hok,r,q⟩:=h;obtain⟨hh,g,d,t,os'⟩:=s';obtain rfl:os'=s.os:=os;show#[v,H',I.call (h':=hh) (g':=g) (d':=d) (t':=t) (ch:=[]) un hok bare (fun b z=>absurd z (by simp)),r,q]
end
@[reducible] def alE(sp:Sp)(dvs:List V)(E:XK)(t:TA):TE:=fun σ H Q=>t σ H fun vs H1=>sp (vs++dvs) H1 Q E
@[reducible] def apP(C:Addr)(m:Str)(sp:Sp)(dvs:List V)(E:XK)(ta:TE)(t:TA):TE:=fun σ H Q=>ta σ H fun x H1=>∃a dx fs,x=.ref a/\H1 a=some (.ins C dx fs)/\fs.lookup m=none /\
 t σ H1 fun vs H2=>sp (x::(vs++dvs)) H2 Q E
def apQ(C:Addr)(sp:Sp)(dvs:List V)(E:XK)(t:TA):TE:=fun σ H Q=>t σ H fun vs H1=>∀x dx,H1 x=none->H1 dx=none->dx≠x ->
 sp (.ref x::(vs++dvs)) (upd (upd H1 dx (.own x)) x (.ins C dx [])) (fun v H2=>v=.non/\Q (.ref x) H2) E
def Binds(K:aG)(fd:FuncData)(ps:List Str)(ds:List Value):Prop:=
 ∀(s:Shared)(us:List Value),K.In s.heap->(us++ds).length=ps.length->Gw s fd #[us,[]] (ps.zip (us++ds))
theorem Binds.all{K:aG}{fd:FuncData}{ps:List Str}(h:∀us:List Value,us.length=ps.length->Bu fd #[us,[]]=pure (ps.zip us)):Binds K fd ps []:=fun s us _ hl=>by
 rw[iH]at hl ⊢;exact .of_eq (h us hl)
def Passes(CX:CXT)(X:Cx)(E:XK):Prop:=∀(pins:List (Addr × Obj)) (σ:St) (H:Hp) (s:Shared) (e:Value) (s':Shared),Inv X pins σ H s->CX X.stack H s E e s'->X.xe e s'
section
variable{X:Cx}{CX:CXT}{k:Nat}{f C:Addr}{fd:FuncData}{ps:List Str}{sp:Sp}{dvs:List V}{ds:List Value}{E:XK}{x m:Str}{p pos apos:Pos}{e o:Expr}{es:List Expr}{ta:TE}{t:TA}
theorem aee{pins:List (Addr × Obj)}{σ:St}{H:Hp}{s:Shared}{Q:VK}{us:List Value}{vs:List V}(F:nA X.prog X.w X.K X.mg X.base CX k f fd ps sp)(hr:fV k X.A)(hb:Binds X.K fd ps ds)(hd:Vals dvs ds)(hx:Passes CX X E)
  (I:Inv X pins σ H s) (r:Vals vs us) (h:sp (vs++dvs) H Q E):wpAny (model X.prog X.w) X.A (call (.ref f) us) (EP X pins σ Q) X.xe s:=by
 have r2:Vals (vs++dvs) (us++ds):=r.append hd;have hl:(us++ds).length=ps.length:=by rw[<-r2.length];exact F.len _ _ _ _ h
 refine nR (Gk (F.run X.A X.stack s H #[us,[]] (us++ds) (vs++dvs) Q E hr I.env0 (hb s us I.kIn hl) r2 h) fun r s' hq=>?_);cases r with
 |error e=>exact hx pins σ H s e s' I hq
 |ok fl =>
  cases fl with
  |ret u=>exact I.after hq
  |next=>exact gH hq
  |brk=>exact gH hq
  |cont=>exact gH hq
theorem aod(F:nA X.prog X.w X.K X.mg X.base CX k f fd ps sp)(hr:fV k X.A)(hg:Gl X x)(hm:X.mg x=some (.ref f))(hk:nP X.K (.ref f)=true)(hb:Binds X.K fd ps ds)(hd:Vals dvs ds)(hx:Passes CX X E)
  (ha:PA X (e::es) t) (hdb:(x == ("__debug__" : Str))=false:=by decide) (he:aZ (e::es) X.env=(false,eval e X.env)::aZ es X.env:=by rfl) (hpl:(cY pos (aZ es X.env)).any (·.1)=false:=by rfl):
  PE X (.Call (.Name x p) (e::es) [] pos) (alE sp dvs E t):=by
 walk_at "l"
 refine Aa (qM I hg hm ?_ hdb);refine MJ (h₀:=X.base) I.ok.mod.kin hk (thn (ha pos pins s σ H _ I h) fun us s1 ⟨vs,H1,I1,r,q⟩=>#[I1.kIn,?_]) he hpl;exact aee F hr hb hd hx I1 r q
theorem alF(F:nA X.prog X.w X.K X.mg X.base CX k f fd ps sp)(hr:fV k X.A)(hg:Gl X x)(hm:X.mg x=some (.ref f))(hk:nP X.K (.ref f)=true)(hb:Binds X.K fd ps ds)(hd:Vals dvs ds)(hx:Passes CX X E)
  (hdb:(x == ("__debug__" : Str))=false:=by decide):PE X (.Call (.Name x p) [] [] pos) (alE sp dvs E tNil):=by
 walk_at "l"
 refine Aa (qM I hg hm ?_ hdb);exact PySem.W.callWith_K0 I.kIn hk (aee (us:=[]) F hr hb hd hx I .nil h)
theorem aoe{pl:Sem Bool}(he:PE X o ta)(c:Cls X.K C)(hm:Meth X.K C m f)(F:nA X.prog X.w X.K X.mg X.base CX k f fd ps sp)(hr:fV k X.A)(hb:Binds X.K fd ps ds)(hd:Vals dvs ds)(hx:Passes CX X E)(ha:PA X (e::es) t)
  (hst:aZ (e::es) X.env=(false,eval e X.env)::aZ es X.env:=by rfl) (hpl:(cY pos (aZ es X.env)).any (·.1)=false:=by rfl)
  (ht:eval (.Call (.Attribute o m apos) (e::es) [] pos) X.env=(do
   let ov <-eval o X.env
   Np apos.atName
   let (f,first) <-BJ [ov] (Nj ov m pl)
   ac3 pos f first (cY pos (aZ (e::es) X.env)) (xW pos (xP [] X.env))):=by rfl) :
  PE X (.Call (.Attribute o m apos) (e::es) [] pos) (apP C m sp dvs E ta t):=by
 walk_at "l"
 refine aiF (pl:=pl) (thn (he pins s σ H _ I h) fun u s1 zq=>?_) ht;obtain⟨x,H1,I1,rx,a,dx,fs,ex,ea,l,q⟩:=zq;subst ex;obtain rfl:u=Value.ref a:=rx;refine aea I1 ea c hm l ?_;refine MJ (first:=[.ref a]) (h₀:=X.base) I.ok.mod.kin hm.kp (thn (ha pos pins s1 σ H1 _ I1 q) fun us s2 ⟨vs,H2,I2,r,q2⟩=>#[I2.kIn,?_]) hst hpl;exact aee (us:=.ref a::us) (vs:=.ref a::vs) F hr hb hd hx I2 (.cons rfl r) q2
structure Mk(K:aG)(C f:Addr):Prop where
 makes:VP K C=true
 init:fD K (.ref C) "__init__" = some (some (.ref f))
 fn:MP K (.ref f)=true
 kp:nP K (.ref C)=true
theorem alG{pins:List (Addr × Obj)}{σ:St}{H:Hp}{s:Shared}{Q:VK}{us:List Value}{vs:List V}(M:Mk X.K C f)(F:nA X.prog X.w X.K X.mg X.base CX k f fd ps sp)(hr:fV (k+1) X.A)(hb:Binds X.K fd ps ds)(hd:Vals dvs ds)
  (hx:Passes CX X E) (I:Inv X pins σ H s) (r:Vals vs us)
  (h:∀x dx,H x=none->H dx=none->dx≠x->sp (.ref x::(vs++dvs)) (upd (upd H dx (.own x)) x (.ins C dx [])) (fun v H2=>v=.non/\Q (.ref x) H2) E):
  wpAny (model X.prog X.w) X.A (call (.ref C) us) (EP X pins σ Q) X.xe s:=by
 have hq:=h (s.heap.objs.size+1) s.heap.objs.size (I.hok.fresh (rB _)) (I.hok.fresh (aJ _)) (bR (xX _));have I2:=Inv.made (C:=C) I;have r2:Vals (V.ref (s.heap.objs.size+1)::(vs++dvs)) (Value.ref (s.heap.objs.size+1)::(us++ds)):=.cons rfl (r.append hd);have hl:(Value.ref (s.heap.objs.size+1)::us++ds).length=ps.length:=by
  have e:=r2.length;rw[F.len _ _ _ _ hq]at e;exact e.symm
 refine nR (alz (f:=f) I.kIn M.makes M.init (beq_iff_eq.mp M.fn) (Gk (F.run _ X.stack _ _ #[Value.ref (s.heap.objs.size+1)::us,[]] (Value.ref (s.heap.objs.size+1)::(us++ds)) _ _ E (hr.make C us [])
  (I2.env0.make C us []) (hb _ (Value.ref (s.heap.objs.size+1)::us) I2.kIn hl) r2 hq) fun r s' hq'=>?_))
 cases r with
 |error e=>exact hx pins σ _ _ e s' I2 hq'
 |ok fl =>
  cases fl with
  |ret u =>
   obtain⟨v,H',I3,rv,ev,q3⟩:=I2.after hq';subst ev;show#[rv,#[V.ref (s.heap.objs.size+1),H',I3,rfl,q3]]
  |next=>exact gH hq'
  |brk=>exact gH hq'
  |cont=>exact gH hq'
theorem aof(M:Mk X.K C f)(F:nA X.prog X.w X.K X.mg X.base CX k f fd ps sp)(hr:fV (k+1) X.A)(hg:Gl X x)(hm:X.mg x=some (.ref C))(hb:Binds X.K fd ps ds)(hd:Vals dvs ds)(hx:Passes CX X E)
  (ha:PA X (e::es) t) (hdb:(x == ("__debug__" : Str))=false:=by decide) (he:aZ (e::es) X.env=(false,eval e X.env)::aZ es X.env:=by rfl) (hpl:(cY pos (aZ es X.env)).any (·.1)=false:=by rfl):
  PE X (.Call (.Name x p) (e::es) [] pos) (apQ C sp dvs E t):=by
 walk_at "l"
 refine Aa (qM I hg hm ?_ hdb);refine MJ (h₀:=X.base) I.ok.mod.kin M.kp (thn (ha pos pins s σ H _ I h) fun us s1 ⟨vs,H1,I1,r,q⟩=>#[I1.kIn,?_]) he hpl;exact alG M F hr hb hd hx I1 r q
end
section
variable{X:Cx}{CX:CXT}{k:Nat}{f C:Addr}{fd:FuncData}{ps ks:List Str}{sp:Sp}{E:XK}{x m:Str}{p pos apos kpos:Pos}{e o:Expr}{es:List Expr}{kws:List lA}{te ta:TE}{t tk:TA}{nm:Option Str}
structure KBinds(K:aG)(fd:FuncData)(ps ks:List Str)(g:List Value->List Value->List Value)(gV:List V->List V->List V):Prop where
 to:∀(s:Shared)(us ws:List Value),K.In s.heap->(g us ws).length=ps.length->Gw s fd #[us,ks.zip ws] (ps.zip (g us ws))
 rel:∀{vs:List V}{us:List Value}{zs:List V}{ws:List Value},Vals vs us->Vals zs ws->Vals (gV vs zs) (g us ws)
variable{g:List Value->List Value->List Value}{gV:List V->List V->List V}
end
structure aF(N P:List Str)(sc:Scope):Prop where
 kind:sc.kind=.function
 co:sc.isCoroutine=false
 gen:sc.isGenerator=false
 nd:N.Nodup
 pre:N.take P.length=P
 par:∀x∈P,sc.names.lookup x=some .local\/sc.names.lookup x=some .cell
 ar4:∀y∈sc.names,y.2≠.free
theorem Ug{kindOf:Str->Option Bv}{x:Str}:∀{binds:List (Str × Value)} {m:Str->Option Value},(∀v,(x,v)∉binds)->bindL kindOf binds m x=m x
 |[],_,_=>rfl
 |(n,v)::r,m,h=>by
  unfold bindL;rw[Ug fun w hw=>h w (cB _ hw)];split
  ·have:x≠n:=by rintro rfl;exact h v bV
   simp[this]
  ·rfl
theorem Uh{kindOf:Str->Option Bv}{x:Str}:∀{binds:List (Str × Value)} {m:Str->Option Value},(∀v,(x,v)∉binds)->bindC kindOf binds m x=m x
 |[],_,_=>rfl
 |(n,v)::r,m,h=>by
  unfold bindC;rw[Uh fun w hw=>h w (cB _ hw)];split
  ·rfl
  ·have:x≠n:=by rintro rfl;exact h v bV
   simp[this]
theorem Ui{kindOf:Str->Option Bv}{x:Str}{v:Value}:∀{P:List Str}{vs:List Value}{i:Nat}{m:Str->Option Value},P.Nodup->P[i]? = some x->vs[i]? = some v->kindOf x=some .local ->
  bindL kindOf (P.zip vs) m x=some v
 |[],_,_,_,_,h,_,_=>by simp at h
 |_::_,[],_,_,_,_,h,_=>by simp at h
 |p::P,w::vs,0,m,nd,h1,h2,hk=>by
  simp at h1 h2;subst h1;subst h2;show bindL kindOf ((p,w)::P.zip vs) m p=_;unfold bindL;rw[Ug fun v hv=>(iR.mp nd).1 (VD hv).1,if_pos hk];simp
 |p::P,w::vs,i+1,m,nd,h1,h2,hk=>by
  show bindL kindOf ((p,w)::P.zip vs) m x=_;unfold bindL;exact Ui (i:=i) (iR.mp nd).2 (by simpa using h1) (by simpa using h2) hk
theorem Uj{kindOf:Str->Option Bv}{x:Str}{v:Value}:∀{P:List Str}{vs:List Value}{i:Nat}{m:Str->Option Value},P.Nodup->P[i]? = some x->vs[i]? = some v->kindOf x≠some .local ->
  bindC kindOf (P.zip vs) m x=some v
 |[],_,_,_,_,h,_,_=>by simp at h
 |_::_,[],_,_,_,_,h,_=>by simp at h
 |p::P,w::vs,0,m,nd,h1,h2,hk=>by
  simp at h1 h2;subst h1;subst h2;show bindC kindOf ((p,w)::P.zip vs) m p=_;unfold bindC;rw[Uh fun v hv=>(iR.mp nd).1 (VD hv).1,if_neg hk];simp
 |p::P,w::vs,i+1,m,nd,h1,h2,hk=>by
  show bindC kindOf ((p,w)::P.zip vs) m x=_;unfold bindC;exact Uj (i:=i) (iR.mp nd).2 (by simpa using h1) (by simpa using h2) hk
def start(N:List Str)(vs:List V):St:=vs.map some++gY (N.length-vs.length) none
def kj(CX:CXT)(P:aH)(w:World)(K:aG)(mg:Str->Option Value)(base:Heap)(N:List Str)(qual:Str)(scope:Scope)(f:Addr)(cd:Value)(A:aP)(outer:List Env)(s:Shared)(H:Hp)(E:XK):Cx where
 prog:=P
 w:=w
 K:=K
 mg:=mg
 base:=base
 A:=A.deeper (fQ qual scope s.heap.objs.size f cd)
 N:=N
 s₀:=s
 H₀:=H
 env:=fQ qual scope s.heap.objs.size f cd
 outer:=outer
 stack:=fQ qual scope s.heap.objs.size f cd::outer
 ex:=[]
 calm:=true
 fn:=fun _=>true
 pn:=[]
 xe:=fun e s'=>wpAny (model P w) (A.deeper (fQ qual scope s.heap.objs.size f cd)) (Wu (fQ qual scope s.heap.objs.size f cd) e) (fun _ s''=>CX outer H s E e s'') (fun e' s''=>CX outer H s E e' s'') s'
theorem aaq{sc:Scope}{n:Nat}{x:Str}(h:sc.names.lookup x=some .cell):∃c,(acZ n sc.names []).lookup x=some c:=by
 have q:=aiE sc.names n [] (.inl h);exact adt.mp q
theorem ag5{CX:CXT}{P:aH}{w:World}{K:aG}{mg:Str->Option Value}{base:Heap}{N ps:List Str}{qual:Str}{scope:Scope}{f:Addr}{cd:Value}{A:aP}{outer:List Env}{s s1:Shared}{H:Hp}{E:XK}{us:List Value}{vs:List V}
  (S:aF N ps scope) (hd:A.handled=none) (e0:RQ P w K mg base A outer s H) (hl:vs.length=ps.length) (r:Vals vs us)
  (x:InCallC s s.heap.objs.size (bindL (fQ qual scope s.heap.objs.size f cd).kindOf (ps.zip us) fun _=>none) (acZ (s.heap.objs.size+1) scope.names []) (bindC (fQ qual scope s.heap.objs.size f cd).kindOf (ps.zip us) fun _=>none) s1):
  Inv (kj CX P w K mg base N qual scope f cd A outer s H E) [] (start N vs) H s1:=by
 have hpl:ps.length<=N.length:=by have:=congrArg gZ S.pre;rw[d8]at this;lia
 obtain ⟨h1,tk,rfl,hk⟩:=x.done;have noA:∀ b:Addr,b∉(kj CX P w K mg base N qual scope f cd A outer s H E).ex:=fun b z=>absurd (show b∈([]:List Addr) from z) (by simp);show#[#[e0.mod,S.kind,rfl,rfl,aJ _,fun y z c h1 h2=>?_,fun y hy=>?_,fun y c _ h=>?_,fun _=>hd,Around.frames_deeper e0.frames,.inr #[rfl,rfl],fun b z=>absurd z (noA b),e0.bs,e0.bsz,fun b _ _=>noA b,fun b z=>absurd z (noA b),e0.Cg,e0.frf],
  rfl,e0.bare,Un.kept hk,#[_,x.toInCall.ns,fun i y v h1 h2 h3=>?_],fun y c h=>#[_,x.cell y c h],e0.hok.fresh (aJ _),fun y c h=>?_,fun p hp=>absurd (show p∈([]:List (Addr × Obj)) from hp) (by simp),e0.hok.kept hk,?_]
 ·exact name_of_addr x.apart (Gg h1) (Gg h2)
 ·have hy:scope.names.lookup y=some .cell\/scope.names.lookup y=some .free:=hy;rcases hy with hy|hy
  ·exact aaq hy
  ·exact absurd rfl (S.ar4 _ (Gg hy))
 ·exact iV (x.above y c (Gg h))
 ·have hi:i<vs.length:=by
   unfold start at h2;by_cases hi:i<vs.length
   ·exact hi
   ·rw[xr (by simpa using hi)]at h2;rw[ah8]at h2;split at h2 <;> cases h2
  have ha:vs[i]? = some v:=by
   unfold start at h2;rw[tK (by simpa using hi),dF]at h2;cases e:vs[i]? with
   |none=>rw[e]at h2;cases h2
   |some a=>rw[e]at h2;cases h2;rfl
  obtain⟨u,hu,rv⟩:=r.get ha;have hp:ps[i]? = some y:=by
   rwa[<-S.pre,ab9 tb_g%]
  have ndP:ps.Nodup:=by rw[<-S.pre];exact S.nd.sublist (aip _ _)
  show#[u,rv,?_];rcases S.par y (xj hp)with k|k
  ·exact .inl #[k,Ui ndP hp hu k]
  ·obtain⟨c,e⟩:=aaq (n:=s.heap.objs.size+1) k;refine .inr #[.inl k,c,e,?_];have q:=x.cell y c e;rwa[Uj ndP hp hu (by show scope.names.lookup y≠_;rw[k];decide)]at q
 ·exact e0.hok.fresh (iV (x.above y c (Gg h)))
 ·unfold start;show _=N.length;rw[bB,aC,Df];lia
theorem apR{CX:CXT}{P:aH}{w:World}{K:aG}{mg:Str->Option Value}{base:Heap}{k:Nat}{f:Addr}{name qual:Str}{params:Arguments}{body:List Stmt}{scope:Scope}{dV kV doc pm cdv ct oc:Value}{an od:Option Addr}
  {osl:Array (Option Value)} {N ps:List Str} {sp:Sp} (lk:K.lookup f=some #[oc,od,.func (jw name qual params body scope dV kV doc pm an cdv ct),osl]) (hcd:MN K cdv qual=true) (S:aF N ps scope)
  (len:∀vs H Q E,sp vs H Q E->vs.length=ps.length)
  (hbody:∀ (A:aP) (outer:List Env) (s:Shared) (H:Hp) (vs:List V) (Q:VK) (E:XK),fV k (A.deeper (fQ qual scope s.heap.objs.size f cdv))->sp vs H Q E ->
   ∃ t,PSs (kj CX P w K mg base N qual scope f cdv A outer s H E) body t/\t { nx:=fun _ H'=>Q .non H',rt:=Q } (start N vs) H) :
  nA P w K mg base CX (k+1) f (jw name qual params body scope dV kV doc pm an cdv ct) ps sp:=by
 show#[len,fun A outer s H args us vs Q E hr e0 hb r hsp=>?_];have hl:=len _ _ _ _ hsp;have KX:K.In s.heap:=e0.mod.kin.keeps fun b o e=>(e0.bs b o e).1;have lim:s.heap.NoLimit:=e0.mod.nolimit.keeps fun b o e=>(e0.bs b o e).1;have hkind:∀y∈ps.zip us,scope.names.lookup y.1=some .local\/(scope.names.lookup y.1=some .cell/\((acZ (s.heap.objs.size+1) scope.names []).lookup y.1).isSome=true):=fun⟨n,v⟩ hy=>by
  rcases S.par n (VD hy).1 with q|q
  ·exact .inl q
  ·exact .inr #[q,aiE _ _ _ (.inl q)]
 refine codeAny_call_function hr.depth (KX _ _ lk) rfl S.co S.gen rfl (PySem.W.codeRec_of KX hcd) (hb _ _ _ _ ?_);refine wpAny_newFunctionEnv_cells S.kind hkind fun env he s1 x=>?_;subst he;show#[lim.keeps x.toInCall.keep,codeAny_func ?_];obtain⟨t,ht,hq⟩:=hbody A outer s H vs Q E (hr.deeper _) hsp;have I:Inv (kj CX P w K mg base N qual scope f cdv A outer s H E) [] (start N vs) H s1:=ag5 S hr.hd e0 hl r x;refine dH (ht [] s1 (start N vs) H _ I hq) (fun fl s' hs=>?_) fun e s' hs=>hs;have fin:∀{σ':St}{H':Hp}{v:V}{u:Value},Inv (kj CX P w K mg base N qual scope f cdv A outer s H E) [] σ' H' s'->RelV v u->Q v H'->CE outer P w H s Q u s':=
  fun {σ' H' v u} J rv q=>#[v,H',J.os,J.bare,J.base,J.hok,rv,q]
 cases fl with
 |ret u =>
  obtain⟨v,σ',H',J,rv,q⟩:=hs;exact fin J rv q
 |next =>
  obtain⟨σ',H',J,q⟩:=hs;exact fin (v:=V.non) (u:=Value.none) J rfl q
 |brk =>
  obtain⟨_,_,_,q⟩:=hs;exact gH q
 |cont =>
  obtain⟨_,_,_,q⟩:=hs;exact gH q
section
variable{X:Cx}{x:Str}{p pos:Pos}{e:Expr}{es:List Expr}{t:TA}{id T:String}{r:List V->Hp->VK->Prop}
@[reducible] def tCB(r:List V->Hp->VK->Prop)(t:TA):TE:=fun σ H Q=>t σ H fun vs H1=>r vs H1 Q
theorem cV(hc:fW X (.builtin id) r)(hg:Gl X x)(hm:X.mg x=none)(hv:uP x=some (.builtin id))(ha:PA X (e::es) t)(hn:x ≠ "__name__" := by decide)(hdb:(x == ("__debug__" : Str))=false:=by decide)
  (he:aZ (e::es) X.env=(false,eval e X.env)::aZ es X.env:=by rfl) (hpl:(cY pos (aZ es X.env)).any (·.1)=false:=by rfl):PE X (.Call (.Name x p) (e::es) [] pos) (tCB r t):=by
 walk_at "l"
 refine Aa (iB I hg hm hv ?_ hn hdb);exact aj6 (thn (ha pos pins s σ H _ I h) fun us s1 ⟨vs,H1,I1,r1,q1⟩=>hc pins s1 σ H1 vs us Q I1 r1 q1) he hpl
theorem ud(hc:fW X (.type T) r)(hg:Gl X x)(hm:X.mg x=none)(hv:uP x=some (.type T))(ha:PA X (e::es) t)(hn:x ≠ "__name__" := by decide)(hdb:(x == ("__debug__" : Str))=false:=by decide)
  (he:aZ (e::es) X.env=(false,eval e X.env)::aZ es X.env:=by rfl) (hpl:(cY pos (aZ es X.env)).any (·.1)=false:=by rfl):PE X (.Call (.Name x p) (e::es) [] pos) (tCB r t):=by
 walk_at "l"
 refine Aa (iB I hg hm hv ?_ hn hdb);exact yg (thn (ha pos pins s σ H _ I h) fun us s1 ⟨vs,H1,I1,r1,q1⟩=>hc pins s1 σ H1 vs us Q I1 r1 q1) he hpl
end
end L2
namespace HT
open PySem PyProof.Rows
section
open PySem.SeqAt
open PySem.AutoSeq1 (wpAny_loadPart')
open PySem.MeetsSeq PySem.MeetsSeq2 PySem.MeetsSeq3
end
section
variable{prog:aH}{w:World}{A:aP}{E:Value->Shared->Prop}{s:Shared}
def sIx(n d:Nat):Option Int->Nat
 |none=>d
 |some v=>if v<0 then(v+(n:Int)).toNat else min v.toNat n
theorem aar(n d:Nat):sIx n d none=d:=rfl
theorem afM(n d k:Nat):sIx n d (some (k:Int))=min k n:=by
 show(if(k:Int)<0 then((k:Int)+(n:Int)).toNat else min (k:Int).toNat n)=min k n;rw[if_neg tb_g%,adg]
end
end HT
namespace L2
open PySem PySem.Spec PyProof.Rows
abbrev TO:=St->Hp->(Option Int->Hp->Prop)->Prop
def PO(X:Cx)(e:Option Expr)(t:TO):Prop:=
 ∀(pins:List (Addr × Obj)) (s:Shared) (σ:St) (H:Hp) (Q:Option Int->Hp->Prop),Inv X pins σ H s->t σ H Q ->
  wpAny (model X.prog X.w) X.A (evalPart e X.env) (fun u s'=>∃o H',Inv X pins σ H' s'/\IsPart u o/\Q o H') X.xe s
def aog:TO:=fun _ H Q=>Q none H
def tPart(t:TE):TO:=fun σ H Q=>t σ H fun x H1=>∃i,x=.int i/\Q (some i) H1
theorem intsAre_of{ns:List Int}:∀{us:List Value},Vals (ns.map V.int) us->rE us ns:=by
 induction ns with
 |nil=>intro us r;rw[Ga]at r;cases r;exact .nil
 |cons n ns ih =>
  intro us r;rw[cP]at r;cases r with
  |cons r1 r2 =>
   obtain⟨t,e⟩:=r1;subst e;exact .cons n t (ih r2)
section
variable{X:Cx}{e:Expr}{te:TE}{lo hi:Option Expr}{tl th:TO}{pos p2:Pos}
theorem aoh:PO X none aog:=by
 walk_at "l"
 rw[ajk];exact aK #[none,H,I,.none,h]
theorem aoi(h:PE X e te):PO X (some e) (tPart te):=by
 intro pins s σ H Q I hw;rw[evalPart_some];refine thn (h pins s σ H _ I hw) fun u s1 zq=>?_
 walk_at "w"
 obtain⟨i,rfl,q⟩:=q1
 k_dat (t,r1) "F"
 show#[some i,H1,I1,.int i t,q]
def SlR(X:Cx)(r:V->Option Int->Option Int->Hp->VK->Prop):Prop:=
 ∀(pins:List (Addr × Obj)) (s:Shared) (σ:St) (H:Hp) (x:V) (v vl vu:Value) (lo hi:Option Int) (sl:Addr) (Q:VK),Inv X pins σ H s->RelV x v->s.heap.IsSliceOf sl vl vu .none->IsPart vl lo->IsPart vu hi->r x lo hi H Q ->
  ∃T id,xQ (.type T) "__getitem__" = pure (some (.builtin id))/\s.TypeIs v T/\wpAny (model X.prog X.w) X.A (Wv v (.ref sl)) (EP X pins σ Q) X.xe s
def tSl(r:V->Option Int->Option Int->Hp->VK->Prop)(te:TE)(tl th:TO):TE:=fun σ H Q=>te σ H fun x H1=>tl σ H1 fun l H2=>th σ H2 fun u H3=>r x l u H3 Q
theorem alH{r:V->Option Int->Option Int->Hp->VK->Prop}(hr:SlR X r)(he:PE X e te)(hl:PO X lo tl)(hu:PO X hi th):PE X (.Subscript e (.Slice lo hi none p2) pos) (tSl r te tl th):=by
 walk_at "l"
 k_dat (adx,he,v) "z"
 walk_at "w"
 refine wpAny_Slice (thn (hl pins s1 σ H1 _ I1 q1) fun vl s2 ⟨l,H2,I2,pl,q2⟩=>thn (hu pins s2 σ H2 _ I2 q2) fun vu s3 zq=>?_);obtain⟨u,H3,I3,pu,q3⟩:=zq;rw[ajk];refine aK ?_;have I4:Inv X pins σ H3 { s3 with heap:=s3.heap.push { cls:=.type "slice",data:=.fields [vl,vu,.none].toArray } }:=I3.kept (t':=s3.toks) fun b ob q=>cU _ q;obtain⟨T,id,hT,ht,hg⟩:=hr pins { s3 with heap:=s3.heap.push { cls:=.type "slice",data:=.fields [vl,vu,.none].toArray } } σ H3 x v vl vu l u s3.heap.objs.size Q I4 r1 (akS ..) pl pu q3;show wpAny (model X.prog X.w) X.A (W4 e (.Slice lo hi none p2) v (.ref s3.heap.objs.size)) (EP X pins σ Q) X.xe { s3 with heap:=s3.heap.push { cls:=.type "slice",data:=.fields [vl,vu,.none].toArray } };exact adz (ops:=[.ref s3.heap.objs.size,v]) ht hT hg (by with_unfolding_all rfl)
def rY(xs:List V)(lo hi:Option Int):List V:=(xs.drop (HT.sIx xs.length 0 lo)).take (HT.sIx xs.length xs.length hi-HT.sIx xs.length 0 lo)
theorem aas(xs:List V)(lo hi:Option Int):(rY xs lo hi).length<=xs.length:=by
 unfold rY;rw[d8,uL];lia
end
def ixN(n:Nat)(i:Int):Option Nat:=if 0<=i then(if i<n then some i.toNat else none)else if -(n:Int)<=i then some (i+n).toNat else none
def atI{α:Type}(xs:List α)(i:Int):Option α:=(ixN xs.length i).bind fun j=>xs[j]?
theorem afN{n:Nat}{i:Int}{j:Nat}(h:ixN n i=some j):seqIndex? i n=some j/\j<n /\ -(n:Int)<=i/\i<n:=by
 unfold ixN at h;by_cases h0:0<=i
 ·rw[if_pos h0]at h;by_cases h1:i<n
  ·rw[if_pos h1]at h;have e:i.toNat=j:=bN h;show#[by rw[acS h0 h1,e],by lia,by lia,h1]
  ·rw[if_neg h1]at h;cases h
 ·rw[if_neg h0]at h;by_cases h1:-(n:Int)<=i
  ·rw[if_pos h1]at h;have e:(i+n).toNat=j:=bN h;show#[by rw[acR tb_g% h1,e],by lia,h1,by lia]
  ·rw[if_neg h1]at h;cases h
theorem Xu{α:Type}{xs:List α}{i:Int}{v:α}(h:atI xs i=some v):∃j,seqIndex? i xs.length=some j/\xs[j]? = some v/\j<xs.length /\ -(xs.length:Int)<=i/\i<xs.length:=by
 unfold atI at h;cases e:ixN xs.length i with
 |none=>rw[e]at h;cases h
 |some j =>
  rw[e]at h;obtain⟨h1,h2,h3,h4⟩:=afN e;show#[j,h1,h,h2,h3,h4]
theorem cZ{α:Type}{xs:List α}{j:Nat}{v:α}(h:xs[j]? = some v):atI xs (j:Int)=some v:=by
 have hj:j<xs.length:=(fu.mp h).1;have e:ixN xs.length (j:Int)=some j:=by
  unfold ixN;rw[if_pos tb_g%,if_pos tb_g%];simp
 unfold atI;rwa[e]
def aoj(b:Expr):Prop:=∀o i,acT b false o i=operate [o,i] (Wv o i)
def IxR(X:Cx)(r:R2):Prop:=
 ∀(value slice:Expr) (pins:List (Addr × Obj)) (s:Shared) (σ:St) (H:Hp) (x y:V) (v u:Value) (Q:VK),Inv X pins σ H s->RelV x v->RelV y u->r x y H Q ->
  acT slice false v u=operate [v,u] (Wv v u)->wpAny (model X.prog X.w) X.A (W4 value slice v u) (EP X pins σ Q) X.xe s
def MtR(X:Cx)(id:String)(r:V->List V->Hp->VK->Prop):Prop:=
 ∀(pins:List (Addr × Obj)) (s:Shared) (σ:St) (H:Hp) (x:V) (xs:List V) (v:Value) (us:List Value) (Q:VK),Inv X pins σ H s->RelV x v->Vals xs us->r x xs H Q ->
  wpAny (model X.prog X.w) X.A (call (.builtin id) (v::us)) (EP X pins σ Q) X.xe s
section
variable{X:Cx}{a b:Expr}{ta tb:TE}{pos:Pos}
theorem IxR.or{r r':R2}(h:IxR X r)(h':IxR X r'):IxR X (fun x y H Q=>r x y H Q\/r' x y H Q):=by
 intro value slice pins s σ H x y v u Q I rx ry q hs;rcases q with q|q
 ·exact h value slice pins s σ H x y v u Q I rx ry q hs
 ·exact h' value slice pins s σ H x y v u Q I rx ry q hs
theorem aat{r:R2}(hr:IxR X r)(ha:PE X a ta)(hb:PE X b tb)(hs:aoj b):PE X (.Subscript a b pos) (tOp r ta tb):=by
 walk_at "l"
 exact adx (binT ha hb I h fun v u s2 x y H2 I2 rx ry q=>hr a b pins s2 σ H2 x y v u Q I2 rx ry q (hs _ _))
def rIxL(K:aG):R2:=fun x y H Q=>∃p xs i v,x=.ref p/\y=.int i/\SqL K H p xs/\atI xs i=some v/\Q v H
def rIxT(K:aG):R2:=fun x y H Q=>∃p xs i v,x=.ref p/\y=.int i/\SqT K H p xs/\atI xs i=some v/\Q v H
def rIxS:R2:=fun x y H Q=>∃z i c,x=.str z/\y=.int i/\z.length<=sizeLine/\atI z.cps.toList i=some c/\Q (.str #[[c].toArray]) H
theorem aok:IxR X (rIxL X.K):=by
 intro value slice pins s σ H x y v u Q I rx ry h hs;obtain⟨p,xs,i,z,rfl,rfl,hq,he,q⟩:=h;cases rx
 k_dat (t,ry) "F"
 obtain⟨its,r,pl,hz⟩:=I.list hq;obtain⟨j,h1,h2,h3,h4,h5⟩:=Xu he;obtain⟨w,ew,rw'⟩:=r.get h2;have hl:=r.length;have hn:=O2;have fin:EP X pins σ Q w s:=#[z,H,I,rw',q];by_cases h0:0<=i
 ·have hj:i.toNat=j:=by
   rw[acS h0 h5]at h1;exact bN h1
  exact item_listR pl.isList h0 tb_g% (by rw[hj];simpa using ew) fin hs
 ·have hj:(i+(its.toArray.size:Int)).toNat=j:=by
   rw[acR tb_g% h4]at h1;rw[bH,<-hl];exact bN h1
  exact akb (x:=w) pl.isList.typeIs acK.lookup
   (wpAny_getItem_list_neg (Q:=fun r s'=>r=w/\EP X pins σ Q r s') pl.isList tb_g% (by rw[bH] <;> lia) tb_g% (by rw[hj];simpa using ew) #[rfl,fin]) hs
theorem ar5:IxR X (rIxT X.K):=by
 intro value slice pins s σ H x y v u Q I rx ry h hs;obtain⟨p,xs,i,z,rfl,rfl,hq,he,q⟩:=h;cases rx
 k_dat (t,ry) "F"
 obtain⟨its,r,pl,hz⟩:=I.tuple hq;obtain⟨j,h1,h2,h3,h4,h5⟩:=Xu he;obtain⟨w,ew,rw'⟩:=r.get h2;have hl:=r.length;have hn:=O2;have fin:EP X pins σ Q w s:=#[z,H,I,rw',q];exact akb (x:=w) pl.typeIs slot_tuple_getitem.lookup
  (getItem_tuple (j:=j) (Q:=fun r s'=>r=w/\EP X pins σ Q r s') pl tb_g% tb_g% (by rwa[bH,<-hl]) (by simpa using ew) #[rfl,fin]) hs
theorem ar6:IxR X rIxS:=by
 intro value slice pins s σ H x y v u Q I rx ry h hs;obtain⟨z,i,c,rfl,rfl,hz,he,q⟩:=h
 k_dat (t,rx) "F"
 k_dat (t',ry) "F"
 obtain⟨j,h1,h2,h3,h4,h5⟩:=Xu he;have hl:z.cps.toList.length=z.length:=by simp[aiD]
 rw [hl] at h1 h4 h5;have hn:=O2;exact adz (xR s z t) slot_str_getitem.lookup (getItem_str (c:=c) (by
  have e1:decide (i < -(2 ^ 63:Int))=false:=decide_eq_false tb_g%;have e2:decide (i>=2 ^ 63)=false:=decide_eq_false tb_g%;rw [e1,e2,adf]) (by rw [h1];simpa using h2) #[.str #[[c].toArray],H,I.tok _,#[_,rfl],q]) hs
theorem aef(its:List Value)(n j:Nat)(u:Value):gq (·.setIfInBounds j u) { cls:=.type "list",data:=.seq its.toArray n }={ cls:=.type "list",data:=.seq (its.set j u).toArray n }:=by
 simp[gq]
theorem Inv.lst{pins:List (Addr × Obj)}{σ:St}{H:Hp}{s:Shared}{p:Addr}{xs:List V}(I:Inv X pins σ H s)(h:H p=some (.lst xs)):
  ∃(its:List Value)(n:Nat),Vals xs its/\s.heap.get? p=some { cls:=.type "list",data:=.seq its.toArray n }/\xs.length<=sizeLine:=by
 obtain⟨z,its,n,r,e⟩:=I.hok p _ h;show#[its,n,r,e,z]
theorem Inv.ar7{pins:List (Addr × Obj)}{σ:St}{H:Hp}{s:Shared}{p:Addr}{xs ys:List V}{its its':List Value}{n n':Nat}{f:Obj->Obj}(I:Inv X pins σ H s)(h:H p=some (.lst xs))
  (ho:s.heap.get? p=some { cls:=.type "list",data:=.seq its.toArray n }) (hf:f { cls:=.type "list",data:=.seq its.toArray n }={ cls:=.type "list",data:=.seq its'.toArray n' }) (r:Vals ys its') (hz:ys.length<=sizeLine) (t:Nat):
  Inv X pins σ (upd H p (.lst ys)) { s with heap:=s.heap.update p f,toks:=t }:=by
 have e:(s.heap.update p f).get? p=some { cls:=.type "list",data:=.seq its'.toArray n' }:=by
  rw[qu f ho (by rw[hf] <;> rfl),hf]
 refine I.write (x:=p) (e:=p) (by rw[h];trivial) (.inl rfl) (fun b u hb q=>(mO _ _ (aL hb)).trans q) #[_,e] ?_;show#[hz,its',n',r,e]
def apS:V->V->V->Hp->(Hp->Prop)->Prop:=fun o i v H Q=>∃p xs k j,o=.ref p/\i=.int k/\H p=some (.lst xs)/\ixN xs.length k=some j/\Q (upd H p (.lst (xs.set j v)))
theorem set_list:PSet X apS:=by
 intro pins s σ H o i v ov iv u Q I ro ri rv h;obtain⟨p,xs,k,j,rfl,rfl,hp,hj,q⟩:=h;cases ro
 k_dat (t,ri) "F"
 obtain⟨its,n,r,ho,hz⟩:=I.lst hp;obtain⟨h1,h2,h3,h4⟩:=afN hj;have hl:=r.length;have hn:=O2;have I':Inv X pins σ (upd H p (.lst (xs.set j v))) { s with heap:=s.heap.update p (gq (·.setIfInBounds j u)) }:=
  I.ar7 hp ho (aef its n j u) (r.set rv j) (by rwa[iI]) s.toks
 by_cases h0:0<=k
 ·have hk:k.toNat=j:=by
   rw[acS h0 h4]at h1;exact bN h1
  exact PySem.W.ki_setAt ho h0 tb_g% (by rwa[bH,<-hl]) (by rw[hk];show#[_,I',q])
 ·have hk:(k+(its.toArray.size:Int)).toNat=j:=by
   rw[acR tb_g% h3]at h1;rw[bH,<-hl];exact bN h1
  exact PySem.W.ki_setBack ho tb_g% (by rwa[bH,<-hl]) tb_g% (by rw[hk];show#[_,I',q])
theorem Xv(lo hi:Option Int)(n:Nat):(jr lo hi none n).1=((HT.sIx n 0 lo:Nat):Int)/\(jr lo hi none n).2.1=((HT.sIx n n hi:Nat):Int)/\(jr lo hi none n).2.2=1:=by
 show#[?_,?_,rfl]
 ·cases lo with
  |none=>simp[jr,HT.sIx]
  |some i =>
   simp only[jr,HT.sIx,aj5,show(1:Int)>0 by decide,if_true];by_cases h:i<0
   ·simp only[h,if_true] <;> lia
   ·simp only[h,if_false] <;> lia
 ·cases hi with
  |none=>simp[jr,HT.sIx]
  |some i =>
   simp only[jr,HT.sIx,aj5,show(1:Int)>0 by decide,if_true];by_cases h:i<0
   ·simp only[h,if_true] <;> lia
   ·simp only[h,if_false] <;> lia
theorem RT(its:List Value)(lo hi:Option Int):Nm its.toArray lo hi none=((its.drop (HT.sIx its.length 0 lo)).take (HT.sIx its.length its.length hi-HT.sIx its.length 0 lo)).toArray:=by
 obtain⟨h1,h2,h3⟩:=Xv lo hi its.toArray.size;unfold Nm;rw[h1,h2,h3];simp only[sliceRange_one,pick_run,bH] <;> rfl
def rSlL(K:aG):V->Option Int->Option Int->Hp->VK->Prop:=fun x lo hi H Q=>∃a xs,x=.ref a/\SqL K H a xs/\∀p,H p=none->Q (.ref p) (upd H p (.lst (rY xs lo hi)))
theorem aol:SlR X (rSlL X.K):=by
 intro pins s σ H x v vl vu lo hi sl Q I rx hs pl pu h;obtain⟨a,xs,rfl,hx,q⟩:=h;cases rx;obtain⟨its,r,ht,hz⟩:=I.list hx;have hlen:=r.length;show#["list",_,acK.lookup,ht.isList.typeIs,?_];refine aiU ht.isList hs pl pu .none (by simp) ?_ (by rw[bH] <;> lia);rw[RT,<-hlen];show#[.ref s.heap.objs.size,_,I.laid (t':=s.toks) (o:=.lst (rY xs lo hi)) (fun b ob q=>cU _ q) (aJ _) ?_,rfl,q _ (I.hok.fresh (aJ _))];show#[bQ (aas xs lo hi) hz,_,0,(r.drop (HT.sIx xs.length 0 lo)).take (HT.sIx xs.length xs.length hi-HT.sIx xs.length 0 lo),dN _ rfl]
def yE:V->Bool
 | .non=>true
 | .bl _=>true
 | .int _=>true
 | .str _=>true
 |_=>false
def eqV:V->V->Bool
 | .non,.non=>true
 | .bl a,.bl b=>a == b
 | .bl a,.int b=>(if a then 1 else 0) == b
 | .int a,.bl b=>a == (if b then 1 else 0)
 | .int a,.int b=>a == b
 | .str a,.str b=>a == b
 |_,_=>false
theorem aeg{A:aP}{s:Shared}{y x:V}{u v:Value}(ry:RelV y u)(rx:RelV x v)(fy:yE y=true)(fx:yE x=true):Od A s u v (eqV y x):=by
 cases y with
 |non =>
  cases ry;cases x with
  |non=>cases rx;exact adP _
  |bl b=>cases rx;exact aqF b
  |int b=>obtain⟨t,rfl⟩:=rx;exact aqI b t
  |str b=>obtain⟨t,rfl⟩:=rx;exact aqJ b t
  |_=>exact absurd (show false=true from fx) d9
 |bl a =>
  cases ry;cases x with
  |non=>cases rx;exact aqG a
  |bl b=>cases rx;exact aqH a b
  |int b=>obtain⟨t,rfl⟩:=rx;exact aqK a b t
  |str b=>obtain⟨t,rfl⟩:=rx;exact aqL a b t
  |_=>exact absurd (show false=true from fx) d9
 |int a =>
  k_dat (t',ry) "F"
  cases x with
  |non=>cases rx;exact aqM a t'
  |bl b=>cases rx;exact aqN a t' b
  |int b=>obtain⟨t,rfl⟩:=rx;exact aqQ a t' b t
  |str b=>obtain⟨t,rfl⟩:=rx;exact akL a t' b t
  |_=>exact absurd (show false=true from fx) d9
 |str a =>
  k_dat (t',ry) "F"
  cases x with
  |non=>cases rx;exact aqO a t'
  |bl b=>cases rx;exact aqP a t' b
  |int b=>obtain⟨t,rfl⟩:=rx;exact akM a t' b t
  |str b=>obtain⟨t,rfl⟩:=rx;exact aqR a t' b t
  |_=>exact absurd (show false=true from fx) d9
 |_=>exact absurd (show false=true from fy) d9
def eqU(x:V)(u:Value):Bool:=match u with
 | .none=>eqV .non x
 | .bool b=>eqV (.bl b) x
 | .int i _=>eqV (.int i) x
 | .str z _=>eqV (.str z) x
 |_=>false
theorem alI{x y:V}{u:Value}(r:RelV y u)(f:yE y=true):eqU x u=eqV y x:=by
 cases y with
 |non=>cases r;rfl
 |bl b=>cases r;rfl
 |int i=>obtain⟨t,rfl⟩:=r;rfl
 |str z=>obtain⟨t,rfl⟩:=r;rfl
 |_=>exact absurd (show false=true from f) d9
theorem Xw{x:V}:∀{xs:List V}{us:List Value},Vals xs us->xs.all yE=true->us.any (eqU x)=xs.any fun y=>eqV y x
 |_,_,.nil,_=>rfl
 |y::xs,u::us,.cons r t,f=>by
  rw[aiy,adb]at f;rw[Bb,Bb,alI r f.1,Xw t f.2]
theorem O3{A:aP}{s:Shared}{x:V}{v:Value}(rx:RelV x v)(fx:yE x=true):∀{xs:List V}{us:List Value},Vals xs us->xs.all yE=true->∀u∈us,Od A s u v (eqU x u)
 |_,_,.nil,_=>fun u hu=>by cases hu
 |y::xs,u::us,.cons r t,f=>fun u' hu=>by
  rw[aiy,adb]at f;rcases aO.mp hu with rfl|hu
  ·rw[alI r f.1];exact aeg r rx f.1 fx
  ·exact O3 rx fx t f.2 u' hu
def inV(x:V)(xs:List V):Bool:=xs.any fun y=>eqV y x
def rIn(K:aG)(neg:Bool):R2:=fun x y H Q=>∃p xs,y=.ref p/\(SqL K H p xs\/SqT K H p xs)/\yE x=true/\xs.all yE=true/\Q (.bl (if neg then !inV x xs else inV x xs)) H
theorem Xx:OpR X (fB .NotIn) (rIn X.K true):=by
 walk_at "k"
 obtain⟨p,xs,rfl,hq,fx,fs,q⟩:=h;cases ry;rcases hq with hq|hq
 ·obtain⟨its,r,pl,hz⟩:=I.list hq;refine SeqAt.notIn_listAt (eqU x) pl.isList (fun w hw=>O3 rx fx r fs w (by simpa using hw)) #[.bl _,H,I,rfl,?_];rwa[show its.toArray.any (eqU x)=its.any (eqU x) by simp,Xw r fs]
 ·obtain⟨its,r,pl,hz⟩:=I.tuple hq;refine SeqAt.notIn_tupleAt (eqU x) pl (fun w hw=>O3 rx fx r fs w (by simpa using hw)) #[.bl _,H,I,rfl,?_];rwa[show its.toArray.any (eqU x)=its.any (eqU x) by simp,Xw r fs]
theorem fW.or{f:Value}{r r':List V->Hp->VK->Prop}(h:fW X f r)(h':fW X f r'):fW X f (fun xs H Q=>r xs H Q\/r' xs H Q):=by
 intro pins s σ H xs us Q I rs q;rcases q with q|q
 ·exact h pins s σ H xs us Q I rs q
 ·exact h' pins s σ H xs us Q I rs q
theorem Xy:fW X (.type "list") (fun xs H Q=>∃p ys,xs=[.ref p]/\(SqL X.K H p ys\/SqT X.K H p ys)/\∀l,H l=none->Q (.ref l) (upd H l (.lst ys))):=by
 walk_at "s"
 obtain⟨p,ys,rfl,hq,q⟩:=h;obtain⟨u,rfl,rx⟩:=vals1 r;cases rx;have fin:∀(its:List Value),Vals ys its->ys.length<=sizeLine->∀(h':Heap)(c':Nat),(∀b o',s.heap.get? b=some o'->h'.get? b=some o') ->
   h'.get? s.heap.objs.size=some { cls:=.type "list",dict:=none,data:=.seq its.toArray c',slots:=#[] }->EP X pins σ Q (.ref s.heap.objs.size) { s with heap:=h' }:=fun its r' hz h' c' kp e =>
  #[.ref s.heap.objs.size,_,I.laid (t':=s.toks) kp (aJ _) (show cA X.prog X.w _ h' _ (.lst ys)from#[hz,its,c',r',e]),rfl,q _ (I.hok.fresh (aJ _))]
 rcases hq with hq|hq
 ·obtain⟨its,r',pl,hz⟩:=I.list hq;have hlen:=r'.length;obtain⟨o,ho,hc,n,hd⟩:=pl.isList;exact ajl p (.inl rfl) ho hc hd (fun h' c' kp e=>fin its r' hz h' c' kp e) (by simp only[bH] <;> lia)
 ·obtain⟨its,r',pl,hz⟩:=I.tuple hq;have hlen:=r'.length;obtain⟨o,ho,hc,n,hd⟩:=pl;exact ajl p (.inr rfl) ho hc hd (fun h' c' kp e=>fin its r' hz h' c' kp e) (by simp only[bH] <;> lia)
def tyV(K:aG)(T:String)(x:V)(H:Hp):Prop:=match x with
 | .str _=>T = "str"
 | .int _=>T = "int"
 | .ref p=>(T = "list" /\ ∃xs,SqL K H p xs)\/(T = "tuple" /\ ∃o,K.lookup p=some o/\o.cls=.type "tuple" /\ o.dict=none) \/
   (T = "dict" /\ ((∃kvs,H p=some (.dK kvs))\/∃kvs,H p=some (.dT kvs)))\/(T = "set" /\ ∃S n,H p=some (.set S n))
 |_=>False
theorem ar8{pins:List (Addr × Obj)}{σ:St}{H:Hp}{s:Shared}{T:String}{x:V}{v:Value}(I:Inv X pins σ H s)(r:RelV x v)(ty:tyV X.K T x H):
  s.TypeIs v T/\∀a,v=.ref a->∃ob,s.heap.get? a=some ob/\ob.dict=none:=by
 cases x with
 |str z =>
  k_dat (t,r) "F"
  cases (show T = "str" from ty);show#[xR s z t,fun _ e=>nomatch e]
 |int i =>
  k_dat (t,r) "F"
  cases (show T = "int" from ty);show#[typeIs_int s i t,fun _ e=>nomatch e]
 |ref p =>
  cases r;rcases ty with⟨rfl,xs,hq⟩|⟨rfl,o,hk,hc,hd⟩|⟨rfl,hk⟩|⟨rfl,S,n,hk⟩
  ·obtain⟨its,_,pl,_⟩:=I.list hq;show#[pl.isList.typeIs,fun a e=>?_];cases e;obtain⟨o,n,e,c,hd,_⟩:=pl;show#[o,e,hd]
  ·show#[#[o,I.kIn p o hk,hc],fun a e=>?_];cases e;show#[o,I.kIn _ o hk,hd]
  ·have z:∃o,s.heap.get? p=some o/\o.ExactDict:=by
    rcases hk with⟨kvs,hk⟩|⟨kvs,hk⟩
    ·obtain⟨_,_,_,_,o,_,_,e,ex,_⟩:=I.hok p _ hk;show#[o,e,ex]
    ·obtain⟨_,_,_,_,o,_,_,e,ex,_⟩:=I.hok p _ hk;show#[o,e,ex]
   obtain⟨o,e,ex⟩:=z;show#[#[o,e,ex.1],fun a e2=>?_];cases e2;show#[o,e,ex.2.1]
  ·obtain⟨o,_,_,_,e,ex,_⟩:=I.hok p _ hk;show#[#[o,e,ex.1],fun a e2=>?_];cases e2;show#[o,e,ex.2.1]
 |_=>exact gH ty
def tBM(K:aG)(T:String)(r:V->List V->Hp->VK->Prop)(to:TE)(t:TA):TE:=fun σ H Q=>to σ H fun x H1=>tyV K T x H1/\t σ H1 fun xs H2=>r x xs H2 Q
variable{o e:Expr}{es:List Expr}{to:TE}{t:TA}{name:Str}{apos cpos:Pos}{T id:String}{r:V->List V->Hp->VK->Prop}
theorem mR(pa:PlainAttrs T)(slot:Slot T name id)(hty:WD (.builtin id)=pure (.type "method_descriptor"))(hm:MtR X id r)(ho:PE X o to)(ha:PA X (e::es) t)
  (hbase:nQ o name X.env (eval o X.env)=eval o X.env:=by rfl)
  (hfew:((cY cpos (aZ (e::es) X.env)).all (fun x=>!x.1) && (xW cpos (xP [] X.env)).all (fun x=>x.1.isSome)
   && decide ((e::es).length+([]:List lA).length+(if ([]:List lA).isEmpty then 0 else 1)<30))=true:=by rfl)
  (hline:(apos.endLine == cpos.line)=true:=by rfl) (hs:aZ (e::es) X.env=(false,eval e X.env)::aZ es X.env:=by rfl) (hplain:(cY cpos (aZ es X.env)).any (·.1)=false:=by rfl):
  PE X (.Call (.Attribute o name apos) (e::es) [] cpos) (tBM X.K T r to t):=by
 walk_at "l"
 refine aiV hbase hfew hline rfl (thn (ho pins s σ H _ I h) fun v s1 zq=>?_);obtain⟨x,H1,I1,r1,ty,q1⟩:=zq;obtain⟨h1,h2⟩:=ar8 I1 r1 ty;show#[T,id,pa,slot,hty,h1,h2,?_];have hA:=ha cpos pins s1 σ H1 _ I1 q1;rw[hs]at hA ⊢;refine adK (by show(false || (cY cpos (aZ es X.env)).any (·.1))=false;rw[hplain] <;> rfl) (adL ?_);exact thn hA fun us s2 ⟨vs,H2,I2,r2,q2⟩=>hm pins s2 σ H2 x vs v us Q I2 r1 r2 q2
end
def MtM(X:Cx)(id:String)(r:V->List V->Hp->VK->Prop):Prop:=
 ∀(pins:List (Addr × Obj)) (s:Shared) (σ:St) (H:Hp) (x:V) (xs:List V) (v:Value) (us:List Value) (Q:VK),Inv X pins σ H s->RelV x v->Vals xs us->r x xs H Q ->
  wpAny (model X.prog X.w) X.A (call (.builtin id) (v::us)) (EP X pins σ Q) X.xe s
theorem Vals.one:∀{x:V}{us:List Value},Vals [x] us->∃u,us=[u]/\RelV x u
 |_,_,.cons r .nil=>#[_,rfl,r]
theorem Vals.dropLast{xs:List V}{us:List Value}(h:Vals xs us):Vals xs.dropLast us.dropLast:=by
 induction h with
 |nil=>exact .nil
 |cons r t ih =>
  cases t with
  |nil=>exact .nil
  |cons q t'=>exact .cons r ih
theorem Vals.reverse{xs:List V}{us:List Value}(h:Vals xs us):Vals xs.reverse us.reverse:=by
 induction h with
 |nil=>exact .nil
 |cons r t ih=>rw[aiq,aiq];exact Vals.append ih (.cons r .nil)
section
variable{X:Cx}{pins:List (Addr × Obj)}{σ:St}{H:Hp}{s:Shared}{l b:Addr}{xs ys zs:List V}
theorem Inv.lset{its its':List Value}{n:Nat}{f:Array Value->Array Value}{t':Nat}(I:Inv X pins σ H s)(hH:H l=some (.lst xs))
  (e:s.heap.get? l=some { cls:=.type "list",data:=.seq its.toArray n }) (hf:f its.toArray=its'.toArray) (hv:Vals ys its') (hz:ys.length<=sizeLine):
  Inv X pins σ (upd H l (.lst ys)) { s with heap:=s.heap.update l (gq f),toks:=t' }:=by
 have q:=arJ e f;rw[hf]at q;refine I.write (x:=l) (e:=l) (by rw[hH];exact trivial) (.inl rfl) (fun b' u hb hu=>(mO s.heap (gq f) (aL hb)).trans hu) #[_,q] ?_;show#[hz,its',_,hv,q]
theorem Inv.lnew{its:List Value}{t':Nat}(I:Inv X pins σ H s)(hv:Vals ys its)(hz:ys.length<=sizeLine):
  Inv X pins σ (upd H s.heap.objs.size (.lst ys)) { s with heap:=s.heap.push { cls:=.type "list",data:=.seq its.toArray },toks:=t' }:=
 I.laid (fun _ _ q=>cU _ q) (aJ _) #[hz,its,0,hv,dN _ rfl]
theorem Inv.fresh(I:Inv X pins σ H s):H s.heap.objs.size=none:=I.hok.fresh (aJ _)
theorem Inv.yF(I:Inv X pins σ H s)(hH:H l=some (.lst xs)):xs.length<=sizeLine/\∃(its:List Value)(n:Nat),Vals xs its/\xs.length=its.length/\s.heap.get? l=some { cls:=.type "list",data:=.seq its.toArray n }:=by
 obtain⟨z,its,n,r,e⟩:=I.hok l _ hH;show#[z,its,n,r,r.length,e]
theorem aau{n:Nat}(h:n<=sizeLine):adC n=false:=by
 unfold adC;exact decide_eq_false tb_g%
end
section
variable{X:Cx}
inductive afO (x:V) (vs:List V) (H:Hp) (Q:VK):Prop
 |k (l:Addr) (xs:List V) (y:V):x=.ref l->vs=[y]->H l=some (.lst xs)->xs.length<sizeLine->Q .non (upd H l (.lst (xs++[y])))->afO x vs H Q
theorem Hy:MtM X "list.append" afO:=by
 walk_at "E"
 obtain⟨l,xs,y,rfl,rfl,hH,hz,q⟩:=h;cases rx;obtain⟨u,rfl,ru⟩:=rv.one;obtain⟨z,its,n,r,hl,e⟩:=I.yF hH;refine Gn F.slot_list_append #[_,e,rfl] F.entry_list_append (F.args_list_append_2 _ _) (PySem.list_append l its.toArray n u (by rw[bH];lia)) #[e,?_];show#[.non,_,I.lset (its':=its++[u]) hH e (by simp) (r.append (.cons ru .nil)) ?_,rfl,q];rw[bB,List.length_singleton];lia
def aom:V->List V->Hp->VK->Prop:=fun x vs H Q=>∃l b xs zs,x=.ref l/\vs=[.ref b]/\H l=some (.lst xs)/\H b=some (.lst zs)/\xs.length+zs.length<=sizeLine/\Q .non (upd H l (.lst (xs++zs)))
theorem Uk:MtM X "list.extend" aom:=by
 walk_at "E"
 obtain⟨l,b,xs,zs,rfl,rfl,hH,hB,hz,q⟩:=h;cases rx;obtain⟨u,rfl,ru⟩:=rv.one;cases ru;obtain⟨z,its,n,r,hl,e⟩:=I.yF hH;obtain⟨z2,its2,n2,r2,hl2,e2⟩:=I.yF hB;have hsz:its.toArray.size+its2.toArray.size<=sizeLine:=by rw[bH,bH];lia
 have hlong:¬ (!its.toArray.isEmpty && adC (its.toArray.size+its2.toArray.size))=true:=by
  rw[aau hsz,GP];exact d9
 refine Gn F.slot_list_extend #[_,e,rfl] F.entry_list_extend (F.args_list_extend_2 _ _)
  (aq2 l its.toArray n b its2.toArray n2 hlong (by rw[bH];lia) tb_g%) #[e,e2,?_]
 show#[.non,_,I.lset (its':=its++its2) hH e (by simp) (r.append r2) ?_,rfl,q];rw[bB];lia
def rCat:R2:=fun x y H Q=>∃l b xs zs,x=.ref l/\y=.ref b/\H l=some (.lst xs)/\H b=some (.lst zs)/\xs.length+zs.length<=sizeLine/\∀p,H p=none->Q (.ref p) (upd H p (.lst (xs++zs)))
theorem pq:OpR X (jx .Add) rCat:=by
 walk_at "k"
 obtain⟨l,b,xs,zs,rfl,rfl,hH,hB,hz,q⟩:=h;cases rx;cases ry;obtain⟨z,its,n,r,hl,e⟩:=I.yF hH;obtain⟨z2,its2,n2,r2,hl2,e2⟩:=I.yF hB;refine PySem.P.add_list e e2 ?_ (by rw[bH,bH];lia);have ea:its.toArray++its2.toArray=(its++its2).toArray:=by simp
 rw[ea];show#[.ref _,_,I.lnew (t':=s.toks) (r.append r2) (by rw[bB];lia),rfl,q _ I.fresh]
end
section
variable{prog:aH}{w:World}{A:aP}{E:Value->Shared->Prop}{s:Shared}
set_option maxRecDepth 100000 in
end
section
variable{X:Cx}
end
section
variable{κ:Type}[DecidableEq κ]
def zX(kvs:List (κ × V))(k:κ):Option V:=(kvs.find? fun kv=>decide (kv.1=k)).map (·.2)
def putK(kvs:List (κ × V))(k:κ)(v:V):List (κ × V):=
 if(kvs.any fun kv=>decide (kv.1=k))=true then kvs.map (fun kv=>if kv.1=k then(kv.1,v)else kv)else kvs++[(k,v)]
theorem Dv{p:κ × V}{r:List (κ × V)}{k:κ}(e:p.1=k):zX (p::r) k=some p.2:=by simp[zX,Az,e]
theorem Dw{p:κ × V}{r:List (κ × V)}{k:κ}(e:¬ p.1=k):zX (p::r) k=zX r k:=by simp[zX,Az,e]
theorem aav(k:κ):∀kvs:List (κ × V),(kvs.any fun kv=>decide (kv.1=k))=(zX kvs k).isSome
 |[]=>rfl
 |p::r=>by
  rw[Bb];by_cases e:p.1=k
  ·simp only[Dv e,decide_eq_true e,Bool.true_or,Option.isSome_some]
  ·rw[Dw e,decide_eq_false e,ajM];exact aav k r
theorem Jp(kvs:List (κ × V))(k:κ)(v:V):(putK kvs k v).length<=kvs.length+1:=by
 unfold putK;split
 ·rw[aC];lia
 ·rw[bB,bh,acq];lia
theorem tZ.Hz{o:Option V}{u:Option Value}(r:tZ o u):o.isSome=u.isSome:=by
 cases o with
 |none=>cases u with
  |none=>rfl
  |some _=>exact(show False from r).elim
 |some _=>cases u with
  |none=>exact(show False from r).elim
  |some _=>rfl
theorem tZ.getD{o:Option V}{u:Option Value}{d:V}{d':Value}(r:tZ o u)(rd:RelV d d'):RelV (o.getD d) (u.getD d'):=by
 cases o with
 |none=>cases u with
  |none=>exact rd
  |some _=>exact(show False from r).elim
 |some _=>cases u with
  |none=>exact(show False from r).elim
  |some _=>exact r
theorem KV.val{kvs:List (κ × V)}{vs:List (κ × Value)}(r:KV kvs vs)(k:κ):tZ (zX kvs k) (BK vs k):=by
 unfold KV at r
 induction r with
 |nil=>exact True.intro
 | @cons p q ps qs h t ih =>
  obtain⟨h1,h2⟩:=h;by_cases e:p.1=k
  ·have e':q.1=k:=h1.symm.trans e;have b:BK (q::qs) k=some q.2:=by simp[BK,Az,e']
   rwa[Dv e,b]
  ·have e':¬ q.1=k:=fun z=>e (h1.trans z);have b:BK (q::qs) k=BK qs k:=by simp[BK,Az,e']
   rwa[Dw e,b]
theorem KV.any{kvs:List (κ × V)}{vs:List (κ × Value)}(r:KV kvs vs)(k:κ):(kvs.any fun kv=>decide (kv.1=k))=vs.any fun kv=>decide (kv.1=k):=by
 unfold KV at r
 induction r with
 |nil=>rfl
 |cons h t ih=>rw[Bb,Bb,ih,h.1]
theorem KV.repl{kvs:List (κ × V)}{vs:List (κ × Value)}(r:KV kvs vs)(k:κ){y:V}{u:Value}(ry:RelV y u):
  KV (kvs.map fun kv=>if kv.1=k then(kv.1,y)else kv) (vs.map fun kv=>if kv.1=k then(kv.1,u)else kv):=by
 unfold KV at r ⊢
 induction r with
 |nil=>exact .nil
 | @cons p q ps qs h t ih =>
  rw[cP,cP];refine .cons ?_ ih;obtain⟨h1,h2⟩:=h;by_cases e:p.1=k
  ·rw[if_pos e,if_pos (h1.symm.trans e)];show#[h1,ry]
  ·rw[if_neg e,if_neg (fun z=>e (h1.trans z))];show#[h1,h2]
theorem KV.put{kvs:List (κ × V)}{vs:List (κ × Value)}(r:KV kvs vs)(k:κ){y:V}{u:Value}(ry:RelV y u):KV (putK kvs k y) (nY vs k u):=by
 unfold putK nY;rw[r.any k];by_cases e:(vs.any fun kv=>decide (kv.1=k))=true
 ·rw[if_pos e,if_pos e];exact r.repl k ry
 ·rw[if_neg e,if_neg e];exact akR r #[rfl,ry]
theorem KV.length{kvs:List (κ × V)}{vs:List (κ × Value)}(r:KV kvs vs):kvs.length=vs.length:=adR r
end
theorem aaw{P:aH}{w:World}{k:Key}{u:Value}(r:RelV (kV k) u):(bL P w).is k u=true:=by
 cases k with
 |inl i=>obtain⟨t,e⟩:=(show ∃t,u=Value.int i t from r);subst e;exact aai P w i t
 |inr x=>obtain⟨t,e⟩:=(show ∃t,u=Value.str x t from r);subst e;exact aaj P w x t
theorem Ul{P:aH}{w:World}:∀{ks:List Key}{us:List Value},Vals (ks.map kV) us->ItemsAre (bL P w) ks us
 |[],_,r=>by rw[Ga]at r;cases r;exact .nil
 |k::ks,_,r=>by
  rw[cP]at r;cases r with
  |cons h t=>exact .cons (aaw h) (Ul t)
abbrev KT(H:Hp):List (List Key × V)->List (List Key × Addr × Value)->Prop:=Paired fun p q=>p.1=q.1/\H q.2.1=some (.tup (p.1.map kV))/\RelV p.2 q.2.2
theorem KT.val{H:Hp}{kvs:List (List Key × V)}{xs:List (List Key × Addr × Value)}(r:KT H kvs xs)(k:List Key):tZ (zX kvs k) ((atKey xs k).map (·.2)):=by
 induction r with
 |nil=>exact True.intro
 | @cons p q ps qs h t ih =>
  obtain⟨h1,_,h2⟩:=h;by_cases e:p.1=k
  ·have e':q.1=k:=h1.symm.trans e;have b:atKey (q::qs) k=some q.2:=by simp[atKey,Az,e']
   rwa[Dv e,b]
  ·have e':¬ q.1=k:=fun z=>e (h1.trans z);have b:atKey (q::qs) k=atKey qs k:=by simp[atKey,Az,e']
   rwa[Dw e,b]
theorem KT.repl{H:Hp}{kvs:List (List Key × V)}{xs:List (List Key × Addr × Value)}(r:KT H kvs xs)(k:List Key){y:V}{u:Value}(ry:RelV y u):
  KT H (kvs.map fun kv=>if kv.1=k then(kv.1,y)else kv) (xs.map (putAt k u)):=by
 induction r with
 |nil=>exact .nil
 | @cons p q ps qs h t ih =>
  rw[cP,cP];refine .cons ?_ ih;obtain⟨h1,h2,h3⟩:=h;unfold putAt;by_cases e:p.1=k
  ·rw[if_pos e,if_pos (h1.symm.trans e)];show#[h1,h2,ry]
  ·rw[if_neg e,if_neg (fun z=>e (h1.trans z))];show#[h1,h2,h3]
theorem KT.put{H:Hp}{kvs:List (List Key × V)}{xs:List (List Key × Addr × Value)}(r:KT H kvs xs)(k:List Key){b:Addr}{y:V}{u:Value}(hb:H b=some (.tup (k.map kV)))(ry:RelV y u):
  KT H (putK kvs k y) (storedH xs k b u):=by
 have e:(kvs.any fun kv=>decide (kv.1=k))=(atKey xs k).isSome:=by
  rw[aav,(r.val k).Hz,aj3]
 unfold putK storedH;rw[e];by_cases q:(atKey xs k).isSome=true
 ·rw[if_pos q,if_pos q];exact r.repl k ry
 ·rw[if_neg q,if_neg q];exact akR r #[rfl,hb,ry]
theorem KT.keeps{H H':Hp}{kvs:List (List Key × V)}{xs:List (List Key × Addr × Value)}(r:KT H kvs xs)(ht:∀b ys,H b=some (.tup ys)->H' b=some (.tup ys)):KT H' kvs xs:=
 Paired.mapP r fun _ _ z=>#[z.1,ht _ _ z.2.1,z.2.2]
section
variable{P:aH}{w:World}{H:Hp}{h:Heap}{a:Addr}
theorem apT{u:HO}(ok:HOk P w H h)(e:Rd H a u):cA P w H h a u:=e.ok ok
theorem yG{kvs:List (Key × V)}(ok:HOk P w H h)(e:Rd H a (.dK kvs)):kvs.length<=sizeLine/\(a == rm)=false/\∃vs,KV kvs vs/\h.DictOf (bL P w) a vs:=
 show cA P w H h a (.dK kvs)from apT ok e
theorem apU{kvs:List (Key × V)}(ok:HOk P w H h)(e:H a=some (.dK kvs)):kvs.length<=sizeLine/\(a == rm)=false/\∃vs,KV kvs vs/\h.DictOf (bL P w) a vs:=yG ok (.inl e)
theorem O4{ks:List Key}(ok:HOk P w H h)(e:H a=some (.tup (ks.map kV))):(Gp (bL P w)).is h ks a:=by
 obtain⟨_,its,r,o,h1,h2,n,h3⟩:=(show cA P w H h a (.tup (ks.map kV))from ok a _ e);show#[o,its.toArray,n,h1,h2,h3,by simpa using Ul r]
theorem Um{kvs:List (List Key × V)}(ok:HOk P w H h)(e:Rd H a (.dT kvs)):kvs.length<=sizeLine/\(a == rm)=false /\
  ∃xs,KT H kvs xs/\h.DictOfH (Gp (bL P w)) a xs:=by
 obtain⟨z,y,xs,r,o,es,ep,h1,h2,h3,h4,h5⟩:=(show cA P w H h a (.dT kvs)from apT ok e);show#[z,y,xs,r,o,es,ep,h1,h2,h3,h4,fun x hx=>?_,h5];have all:∀{l:List (List Key × V)} {m:List (List Key × Addr × Value)},KT H l m->∀x∈m,(Gp (bL P w)).is h x.1 x.2.1:=by
  intro l m q
  induction q with
  |nil=>intro x hx;exact nomatch hx
  | @cons p q ps qs hq t ih =>
   intro x hx;rcases aO.mp hx with e|hx
   ·subst e;exact O4 ok (by rw[<-hq.1];exact hq.2.1)
   ·exact ih x hx
 exact all r x hx
theorem dt_of{kvs:List (List Key × V)}(ok:HOk P w H h)(e:H a=some (.dT kvs)):kvs.length<=sizeLine/\(a == rm)=false /\
  ∃xs,KT H kvs xs/\h.DictOfH (Gp (bL P w)) a xs:=Um ok (.inl e)
end
def Xz(H:Hp)(a:Addr)(y:V)(r:Option V):Prop:=
 (∃kvs k,Rd H a (.dK kvs)/\y=kV k/\r=zX kvs k)\/∃kvs k b,Rd H a (.dT kvs)/\y=.ref b/\H b=some (.tup (k.map kV))/\r=zX kvs k
def DPut(H:Hp)(a:Addr)(y v:V)(H':Hp):Prop:=
 (∃kvs k,H a=some (.dK kvs)/\y=kV k/\kvs.length<sizeLine/\H'=upd H a (.dK (putK kvs k v))) \/
 ∃kvs k b,H a=some (.dT kvs)/\y=.ref b/\H b=some (.tup (k.map kV))/\kvs.length<sizeLine/\H'=upd H a (.dT (putK kvs k v))
section
variable{X:Cx}{pins:List (Addr × Obj)}{σ:St}{H:Hp}{s:Shared}{a:Addr}{y v:V}{u r:Value}{o:Option V}{A:aP}{E:Value->Shared->Prop}
theorem Inv.big(I:Inv X pins σ H s):rm<s.heap.objs.size:=by
 have h:cu<s.heap.objs.size:=(I.mod.glob.keeps I.bk).lt;exact oA tb_g% h
theorem ag6{Q:Value->Shared->Prop}(hu:A.units+1<cLine)(I:Inv X pins σ H s)(g:Xz H a y (some v))(ry:RelV y u)(h:∀w' s',Inv X pins σ H s'->RelV v w'->Q w' s'):
  wpAny (model X.prog X.w) A (Wv (.ref a) u) Q E s:=by
 rcases g with⟨kvs,k,e,ey,l⟩|⟨kvs,k,b,e,ey,eb,l⟩
 ·subst ey;obtain⟨z,hd,vs,rel,dd⟩:=yG I.hok e;obtain⟨w',hw,rw'⟩:=tZ.some_of (v:=v) (o:=BK vs k) (by rw[l];exact rel.val k);exact wpAny_getItem_of (aaw ry) dd.mapOf hw (h w' _ (I.tok _) rw')
 ·subst ey;cases (show u=Value.ref b from ry);obtain⟨z,hd,xs,rel,dd⟩:=Um I.hok e;obtain⟨w',hw,rw'⟩:=tZ.some_of (v:=v) (o:=(atKey xs k).map (·.2)) (by rw[l];exact rel.val k);obtain⟨p,hp,hp2⟩:=j6.mp hw;refine wpAny_getItem_heap (V6 hu) (O4 I.hok eb) dd hp ?_;rw[hp2];exact h w' _ (I.tok _) rw'
theorem aon{Q:Value->Shared->Prop}(hu:A.units+1<cLine)(I:Inv X pins σ H s)(g:Xz H a y o)(ry:RelV y u)(h:∀s',Inv X pins σ H s'->Q (.bool (!o.isSome)) s'):
  wpAny (model X.prog X.w) A (fB .NotIn u (.ref a)) Q E s:=by
 rcases g with⟨kvs,k,e,ey,l⟩|⟨kvs,k,b,e,ey,eb,l⟩
 ·subst ey;obtain⟨z,hd,vs,rel,dd⟩:=yG I.hok e;refine wpAny_notIn_of (aaw ry) hd dd.mapOf ?_;rw[<-(rel.val k).Hz,<-l];exact h _ (I.tok _)
 ·subst ey;cases (show u=Value.ref b from ry);obtain⟨z,hd,xs,rel,dd⟩:=Um I.hok e;refine wpAny_notIn_heap (V6 hu) (O4 I.hok eb) hd dd ?_;have q:=(rel.val k).Hz;rw[aj3]at q;rw[<-q,<-l];exact h _ (I.tok _)
theorem afP{h':Heap}{t':Nat}{ob:HO}(I:Inv X pins σ H s)(mu:Mut (H a))(hs:rA a s.heap h')(he:∃q,h'.get? a=some q)(new:cA X.prog X.w (upd H a ob) h' a ob):
  Inv X pins σ (upd H a ob) { s with heap:=h',toks:=t' }:=
 I.write (x:=a) (e:=a) mu (.inl rfl) (fun b q hb z=>(hs.2 b hb).trans z) he new
theorem aeh{P:aH}{w:World}{H':Hp}{h':Heap}{kvs:List (Key × V)}{vs:List (Key × Value)}(z:kvs.length<=sizeLine)(hd:(a == rm)=false)(rel:KV kvs vs)(dd:h'.DictOf (bL P w) a vs):
  cA P w H' h' a (.dK kvs):=#[z,hd,vs,rel,dd]
theorem ag7{H':Hp}{Q:Unit->Shared->Prop}(hu:A.units+1<cLine)(I:Inv X pins σ H s)(g:DPut H a y v H')(ry:RelV y u)(rv:RelV v r)(h:∀s',Inv X pins σ H' s'->Q () s'):
  wpAny (model X.prog X.w) A (setItem (.ref a) u r) Q E s:=by
 rcases g with⟨kvs,k,e,ey,l,eH⟩|⟨kvs,k,b,e,ey,eb,l,eH⟩
 ·subst ey eH;obtain⟨z,hd,vs,rel,dd⟩:=apU I.hok e;have hz:vs.length<=sizeLine:=by rwa[<-rel.length]
  have hl:(putK kvs k v).length<=sizeLine:=by have:=Jp kvs k v;lia
  refine wpAny_setItem_pairs (hsz:=hz) (aaw ry) dd fun h' dd' hs=>h _ ?_;have he:∃q,h'.get? a=some q:=let ⟨q,_,_,hq,_⟩:=dd';#[q,hq];exact afP I (by rw[e];exact True.intro) hs he (aeh hl hd (rel.put k rv) dd')
 ·subst ey eH;cases (show u=Value.ref b from ry);obtain⟨z,hd,xs,rel,dd⟩:=dt_of I.hok e;have hz:xs.length<=sizeLine:=by rwa[<-adR rel]
  have hl:(putK kvs k v).length<=sizeLine:=by have:=Jp kvs k v;lia
  refine wpAny_setItem_heap (hsz:=hz) (V6 hu) (O4 I.hok eb) dd fun h' dd' hs=>h _ ?_;obtain⟨q,es,ep,hq,h2,h3,h4,_,h5⟩:=dd';refine afP I (by rw[e];exact True.intro) hs #[q,hq] #[hl,hd,_,(rel.put k eb rv).keeps fun c ys ec=>?_,q,es,ep,hq,h2,h3,h4,h5];rwa[ao (jd ec e (fun z=>nomatch z))]
end
section
variable{X:Cx}{pins:List (Addr × Obj)}{σ:St}{H:Hp}{s:Shared}{a:Addr}{kvs:List (Key × V)}{k:Key}{u:Value}{A:aP}{E:Value->Shared->Prop}
theorem d_len{Q:Value->Shared->Prop}(I:Inv X pins σ H s)(e:Rd H a (.dK kvs))(h:∀t s',Inv X pins σ H s'->Q (.int kvs.length t) s'):wpAny (model X.prog X.w) A (call (.builtin "len") [.ref a]) Q E s:=by
 obtain⟨z,hd,vs,rel,dd⟩:=yG I.hok e;refine call_len_dict hd dd (by rw[<-rel.length];rw[Ng]at z;lia) ?_;rw[<-rel.length];exact h _ _ (I.tok _)
end
theorem aax{X:Cx}{pins:List (Addr × Obj)}{σ:St}{H:Hp}{s:Shared}{a:Addr}{y:V}{o:Option V}(I:Inv X pins σ H s)(g:Xz H a y o):s.TypeIs (.ref a) "dict" := by
 rcases g with⟨kvs,k,e,_,_⟩|⟨kvs,k,b,e,_,_,_⟩
 ·obtain⟨_,_,vs,_,dd⟩:=yG I.hok e;exact dd.typeIs
 ·obtain⟨_,_,xs,_,dd⟩:=Um I.hok e;exact dd.typeIs
section
variable{X:Cx}{o i e value:Expr}{pos pos' tpos:Pos}{td ty tv:TE}
end
theorem alJ{P:aH}{w:World}{H:Hp}(h:Heap)(hb:rm<h.objs.size):cA P w H (h.push { cls:=.type "dict",data:=.dict #[] }) h.objs.size (.dK []):=
 #[cJ _,beq_eq_false_iff_ne.mpr (aL (bR hb)),[],.nil,ak0 h]
def ar9:TE:=fun _ H Q=>∀p,H p=none->Q (.ref p) (upd H p (.dK []))
section
variable{X:Cx}{pos:Pos}
theorem aay:PE X (.Dict [] [] pos) ar9:=fun pins s σ H Q I h =>
 wpAny_Dict_empty #[.ref s.heap.objs.size,_,I.laid (a:=s.heap.objs.size) (o:=.dK []) (t':=s.toks) (fun _ _ q=>cU _ q) (aJ _) (alJ s.heap I.big),rfl,h _ (I.hok.fresh (aJ _))]
end
structure M1(X:Cx)(o:Expr)(m:Str)(apos:Pos)(e:Expr)(cpos:Pos):Prop where
 base:nQ o m X.env (eval o X.env)=eval o X.env
 few:((cY cpos (aZ [e] X.env)).all (fun x=>!x.1) && (xW cpos (xP [] X.env)).all (fun x=>x.1.isSome)
  && decide (([e]:List Expr).length+([]:List lA).length+(if ([]:List lA).isEmpty then 0 else 1)<30))=true
 line:(apos.endLine == cpos.line)=true
 trees:cY cpos (aZ [e] X.env)=[(false,eval e X.env)]
structure M2(X:Cx)(o:Expr)(m:Str)(apos:Pos)(e f:Expr)(cpos:Pos):Prop where
 base:nQ o m X.env (eval o X.env)=eval o X.env
 few:((cY cpos (aZ [e,f] X.env)).all (fun x=>!x.1) && (xW cpos (xP [] X.env)).all (fun x=>x.1.isSome)
  && decide (([e,f]:List Expr).length+([]:List lA).length+(if ([]:List lA).isEmpty then 0 else 1)<30))=true
 line:(apos.endLine == cpos.line)=true
 trees:cY cpos (aZ [e,f] X.env)=[(false,eval e X.env),(false,eval f X.env)]
def IsD(H:Hp)(a:Addr):Prop:=(∃kvs,Rd H a (.dK kvs))\/∃kvs,Rd H a (.dT kvs)
theorem aei{X:Cx}{pins:List (Addr × Obj)}{σ:St}{H:Hp}{s:Shared}{a:Addr}(I:Inv X pins σ H s)(d:IsD H a):
  s.TypeIs (.ref a) "dict" /\ (∀b,Value.ref a=.ref b->∃ob,s.heap.get? b=some ob/\ob.dict=none)/\(a == rm)=false:=by
 rcases d with⟨kvs,e⟩|⟨kvs,e⟩
 ·obtain⟨_,hd,vs,_,dd⟩:=yG I.hok e;show#[dd.typeIs,fun b q=>?_,hd];cases q;obtain⟨ob,_,_,h1,h2,_⟩:=dd;show#[ob,h1,h2.2.1]
 ·obtain⟨_,hd,xs,_,dd⟩:=Um I.hok e;show#[dd.typeIs,fun b q=>?_,hd];cases q;obtain⟨ob,_,_,h1,h2,_⟩:=dd;show#[ob,h1,h2.2.1]
section
variable{X:Cx}{pins:List (Addr × Obj)}{σ:St}{H:Hp}{s:Shared}{a:Addr}{y d:V}{u r:Value}{o:Option V}{A:aP}{E:Value->Shared->Prop}
theorem asa{Q:Value->Shared->Prop}(hu:A.units+1<cLine)(I:Inv X pins σ H s)(g:Xz H a y o)(ry:RelV y u)(rd:RelV d r)(h:∀w' s',Inv X pins σ H s'->RelV (o.getD d) w'->Q w' s'):
  wpAny (model X.prog X.w) A (call (.builtin "dict.get") [.ref a,u,r]) Q E s:=by
 rcases g with⟨kvs,k,e,ey,l⟩|⟨kvs,k,b,e,ey,eb,l⟩
 ·subst ey;obtain⟨z,hd,vs,rel,dd⟩:=yG I.hok e;refine aju adG dd.typeIs akx (akt _ _ _) (meets_dict_get_default (bL X.prog X.w) a (aaw ry) hd r) #[_,dd.mapOf,h _ _ (I.tok _) ?_];rw[l];exact(rel.val k).getD rd
 ·subst ey;cases (show u=Value.ref b from ry);obtain⟨z,hd,xs,rel,dd⟩:=Um I.hok e;refine aju adG dd.typeIs akx (akt _ _ _) (meetsH_dict_get_default (Gp (bL X.prog X.w)) a b hd r) #[V6 hu,k,xs,O4 I.hok eb,dd,h _ _ (I.tok _) ?_];rw[l];exact(rel.val k).getD rd
end
def asb(td ty tx:TE):TE:=fun σ H Q=>td σ H fun x H1=>∃a,x=.ref a/\IsD H1 a/\ty σ H1 fun y H2=>tx σ H2 fun z H3=>∃o,Xz H3 a y o/\Q (o.getD z) H3
section
variable{X:Cx}{o e f:Expr}{apos cpos:Pos}{td ty tx:TE}
theorem alK(hu:X.A.units+1<cLine)(ho:PE X o td)(he:PE X e ty)(hf:PE X f tx)(m:M2 X o "get" apos e f cpos):PE X (.Call (.Attribute o "get" apos) [e,f] [] cpos) (asb td ty tx):=by
 walk_at "l"
 refine acL m.base m.few m.line adF adG PySem.F.type_dict_get (thn (ho pins s σ H _ I h) fun u s1 zq=>?_);obtain ⟨x,H1,I1,rx,a,ex,d,q1⟩:=zq;subst ex;obtain rfl:u=Value.ref a:=rx;obtain ⟨t1,t2,_⟩:=aei I1 d;show#[t1,t2,?_];rw [m.trees];refine adK rfl (adL (uV (thn (he pins s1 σ H1 _ I1 q1) fun iv s2 ⟨y,H2,I2,ry,q2⟩ =>
  uV (thn (hf pins s2 σ H2 _ I2 q2) fun fv s3 ⟨z,H3,I3,rz,ov,g,q3⟩=>yh ?_))))
 exact asa hu I3 g ry rz fun w' s4 I4 rw'=>#[_,H3,I4,rw',q3]
end
section
variable{X:Cx}{pins:List (Addr × Obj)}{σ:St}{H:Hp}{s:Shared}{a:Addr}{kvs:List (Key × V)}{A:aP}{E:Value->Shared->Prop}
theorem alL{Q:Value->Shared->Prop}(I:Inv X pins σ H s)(e:Rd H a (.dK kvs))(h:∀p s',H p=none->Inv X pins σ (upd H p (.dK kvs)) s'->Q (.ref p) s'):wpAny (model X.prog X.w) A (call (.type "dict") [.ref a]) Q E s:=by
 obtain⟨z,hd,vs,rel,dd⟩:=yG I.hok e;refine kt_call_dict hd dd (by rwa[<-rel.length]) fun h' dd' hs=>?_;refine h _ _ (I.hok.fresh (aJ _)) (I.laid (a:=s.heap.objs.size) (o:=.dK kvs) (t':=s.toks) (fun b q hq=>?_) (aJ _) (aeh z (beq_eq_false_iff_ne.mpr (aL (bR I.big))) rel dd'));exact(hs.2 b (bR (aR hq))).trans (cU _ hq)
end
section
variable{X:Cx}{pins:List (Addr × Obj)}{σ:St}{H:Hp}{s:Shared}{a:Addr}{y:V}{u:Value}{A:aP}{E:Value->Shared->Prop}
end
end L2
namespace Att
open PySem PySem.W PySem.Calls PyProof.Rows
theorem JK{P:Gx}{h:Heap}:∀(ns:List Int)(vs:List Value),WellAll P h vs (ns.map WData.int)->rE vs ns:=by
 intro ns
 induction ns with
 |nil =>
  intro vs w;rw[Ga]at w;cases w;exact .nil
 |cons n ns ih =>
  intro vs w;rw[cP]at w;cases w with
  |cons a b =>
   cases a;exact .cons _ _ (ih _ b)
theorem ag8{l:OpenLaw}{n:Nat}(hn:l.most=some n){P:Gx}{h:Heap}{args:List WData}{vals:List Value}
  (hpre:l.row.toRowW.claim.pre args=true) (hwl:WellAll P h vals args):
  ∃a vs ns,vals=[Value.ref a]/\args=[WData.list (ns.map WData.int)]/\h.get? a=some { cls:=.type "list",data:=.seq vs.toArray }/\rE vs ns/\ns.length<=n:=by
 have hsh:WShape.hasAll [] args [.list .int]=true:=(pre_splitW hpre).1;have hc:l.pre.holds [] { args:=args }=true:=(pre_splitW hpre).2;obtain⟨d,r,rfl,h1,h2⟩:=hasAllW_cons hsh;obtain rfl:=hasAllW_nil h2;obtain⟨xs,rfl,h3⟩:=hasW_list h1;obtain⟨ns,rfl⟩:=items_int h3;have hlen:ns.length<=n:=by
  unfold OpenLaw.pre at hc;have h4:(WTm.not (.lt (.lit (.int (n:Int))) (.len (.arg 0)))).holds [] { args:=[.list (ns.map .int)] }=true:=by
   have h4:=(holds_andW hc).1;rwa[hn]at h4
  have h5:=condW_of h4 (w_not (w_lt w_lit (w_len_list (w_arg rfl))));rw[aC]at h5;refine WL fun q=>?_;have q':(n:Int)<((ns.length:Nat):Int):=by lia
  first
   |(rw[decide_eq_true q']at h5;exact absurd h5 tb_g%)
   |(simp at h5;lia)
 cases hwl with
 |cons w1 w2 =>
  cases w2;cases w1 with
  |list ho hall=>show#[_,_,ns,rfl,rfl,ho,JK ns _ hall,hlen]
theorem ag9(l:OpenLaw)(args:List WData):l.row.toRowW.claim.post args (.bool true) args=true:=
 postW_of (r:=l.row.toRowW) (X:=(true == true))
  (show WShape.has [] (.bool true) .bool=true by first|rfl|decide|simp[WShape.has,WShape.arms,WShape.armsAll])
  (show(WTm.eq .res (.lit (.bool true))).value [] { args:=args,res:=some (.bool true),after:=args }=some (.bool (true == true))from w_eq_bool (w_res rfl) w_lit) rfl
theorem aaz{l:OpenLaw}{n:Nat}{q:aH}{loose:List Str}{XP:(Str->Option Value)->Heap->Prop}{YP:World->Heap->Prop}{d:Wz}
  (hn:l.most=some n) (hdf:d.params.defaults=[])
  (call:∀ (w:World) (s₀ s₁:Shared) (mg mb:Str->Option Value) (fa:Addr) (o:Obj) (pm cd doc:Value) (a:Addr) (vs:List Value) (ns:List Int),
   Ground q loose [] XP w s₀ mg mb s₁.heap->YP w s₁.heap ->
   s₁.heap.get? fa=some o->o.data=.func (docDef d.name d.params d.body d.scope pm cd doc)->s₁.heap.CodeRec cd d.name->mg d.name=some (.ref fa) ->
   s₁.heap.get? a=some { cls:=.type "list",data:=.seq vs.toArray }->rE vs ns->ns.length<=n->s₁.gens=#[] ->
   fY (model l.prog w) BL (.call (.ref fa) #[[.ref a],[]]) (fun r s'=>r = .ok (.ret (.bool true))/\OldK s₁.heap s'.heap/\s'.os=s₁.os/\rD s'.gens) s₁) :
  WalkO q loose XP YP l.row.toRowW d [] (fun f vs=>Wj f vs):=by
 intro w s₀ s₁ mg mb G Y fa o pm cd doc dV kV ho hd hcd hD hmg hg args vals as hpre hlay hrd hwl hlo;obtain rfl:dV=.none:=Dflts.none hD hdf;obtain rfl:kV=.none:=Dflts.noKw hD;obtain⟨a,vs,ns,rfl,rfl,hobj,hints,hlen⟩:=ag8 hn hpre hwl;refine enter_call (Gk (call w s₀ s₁ mg mb fa o pm cd doc a vs ns G Y ho (fd_plain hd) hcd hmg hobj hints hlen hg) fun r s' hq=>?_);obtain⟨rfl,h2,h3,h4⟩:=hq;show#[.inl #[.bool true,.bool true,[],rfl,fun _=>rfl,.bool true,ag9 l _,fun _=>#[List.Pairwise.nil,fun _ hm=>(nomatch hm)]],h2,h3,h4]
section
variable{prog:aH}{w:World}{A:aP}{E:Value->Shared->Prop}{s:Shared}{K:Frag}
def ledger(h:Heap)(L d:Addr):List (Addr × Obj):=(ju h.objs.size).filterMap fun a=>if a=L\/a=d then none else(h.get? a).map fun o=>(a,o)
end
end Att
namespace L2
open PySem PySem.Spec PyProof.Rows
theorem uf:∀{vs:List Value}{ns:List Int},rE vs ns->Vals (ns.map V.int) vs
 |_,_,.nil=>.nil
 |_,_,.cons n t h=>.cons #[t,rfl] (uf h)
def Only(H:Hp):Prop:=∀b,H b=none\/∃o xs,H b=some (.frz o (.lst xs))
theorem alM{P:aH}{w:World}{K:aG}{mg mb:Str->Option Value}{CX:CXT}{k:Nat}{fa a:Addr}{fd:FuncData}{x:Str}{sp:Sp}{s₁:Shared}{vs:List Value}{ns:List Int}
  (KX:K.In s₁.heap) (hns:s₁.heap.Ns cu mg) (hb:s₁.heap.Ns acW mb) (hbb:∀x:Str,x ≠ "__name__" -> mb x=uP x) (hlim:s₁.heap.NoLimit) (hg:s₁.gens=#[])
  (ha:s₁.heap.get? a=some { cls:=.type "list",data:=.seq vs.toArray }) (hi:rE vs ns) (hl:ns.length<=sizeLine) (hr:fV k BL)
  (F:∀base:Heap,K.In base->base.Ns cu mg->nA P w K mg base CX k fa fd [x] sp) (hbind:∀(s:Shared)(u:Value),Gw s fd #[[u],[]] [(x,u)])
  (hsp:∀H:Hp,Only H->SqL K H a (ns.map V.int)->sp [.ref a] H (fun v _=>v=.bl true) fun _ _ _=>False)
  (hCX:∀H e s',CX [] H s₁ (fun _ _ _=>False) e s'->False):
  fY (model P w) BL (.call (.ref fa) #[[.ref a],[]]) (fun r s'=>r=.ok (.ret (.bool true))/\OldK s₁.heap s'.heap/\s'.os=s₁.os/\rD s'.gens) s₁:=by
 have rv:=uf hi;have lenV:=hi.length;have core:∀H:Hp,Only H->SqL K H a (ns.map V.int)->HOk P w H s₁.heap->(∀b,H b≠none->b=a)->(H a≠none->K.lookup a=none) ->
   fY (model P w) BL (.call (.ref fa) #[[.ref a],[]]) (fun r s'=>r=.ok (.ret (.bool true))/\OldK s₁.heap s'.heap/\s'.os=s₁.os/\rD s'.gens) s₁:=by
  intro H hO hS hok hA hK;have afQ:∀{b:Addr}{o:Obj},s₁.heap.get? b=some o->H b=none->(Xm s₁.heap H).get? b=some o:=fun e n=>alf e n;have noA:∀{b:Addr}{o:Obj}{es:Array ac0}{ep:Nat},s₁.heap.get? b=some o->o.data=.dict es ep->H b=none:=fun {b o es ep} e d=>by
   cases q:H b with
   |none=>rfl
   |some u =>
    have e':b=a:=hA b (by rw[q];simp);subst e'
    k_dat (ha,e) "I"
    have d':Data.seq vs.toArray _=Data.dict es ep:=d;cases d'
  have nsK:∀ {b:Addr} {m:Str->Option Value},s₁.heap.Ns b m->(Xm s₁.heap H).Ns b m:=fun {b m} ⟨o,es,ep,e,d,r⟩=>#[o,es,ep,afQ e (noA e d),d,r];have hKb:K.In (Xm s₁.heap H):=fun b o e=>afQ (KX b o e) (by
   cases q:H b with
   |none=>rfl
   |some u =>
    have e':b=a:=hA b (by rw [q];simp);subst e';rw [hK (by rw [q];simp)] at e;cases e)
  have hM:Mod K mg (Xm s₁.heap H):=#[hKb,nsK hns,#[mb,nsK hb,hbb],let ⟨mc,h1,h2⟩:=hlim;#[mc,nsK h1,h2]];have e0:RQ P w K mg (Xm s₁.heap H) BL [] s₁ H:=#[rfl,hM,fun b o e=>an9 e,GF (agX _ _),trivial,fun b hb=>absurd (show b∈([]:List Addr)from hb) (by simp),hok,.of_eq hg];refine Gk ((F _ hKb (nsK hns)).run BL [] s₁ H #[[.ref a],[]] [.ref a] [.ref a] _ _ hr e0 (hbind s₁ (.ref a)) (.cons rfl .nil) (hsp H hO hS)) fun r s' h=>?_;cases r with
  |error e=>exact(hCX H e s' h).elim
  |ok fl =>
   cases fl with
   |next=>exact gH h
   |brk=>exact gH h
   |cont=>exact gH h
   |ret u =>
    obtain⟨v,H',os,bare,un,hok',r',q⟩:=h;have q':v=.bl true:=q;subst q';obtain rfl:u=Value.bool true:=r';show#[rfl,OldK.of_keep fun b o e=>?_,os,bare];cases q:H b with
    |none=>exact un.keep b o e q (by intro z;exact absurd (show b∈([]:List Addr)from z) (by simp)) (by simp)
    |some u =>
     rcases hO b with z|⟨ob,xs,z⟩
     ·k_dat (q,z) "I"
     ·have z2:=un.rR b ob _ z;obtain⟨e1,_⟩:=hok b _ z;obtain⟨e2,_⟩:=hok' b _ z2
      k_dat (e,e1) "I"
      exact e2
 cases hk:K.lookup a with
 |some o =>
  have e:=KX a o hk;rw[ha]at e;cases e;refine core (fun _=>none) (fun _=>.inl rfl) (.inr #[_,vs.toArray,_,hk,rfl,rfl,rfl,by rwa[bH,lenV],by simpa using rv]) (fun b u z=>by have z':(none:Option HO)=some u:=z;cases z') (fun b z=>absurd rfl z) fun z=>absurd rfl z
 |none =>
  refine core (fun b=>if b=a then some (.frz { cls:=.type "list",data:=.seq vs.toArray } (.lst (ns.map V.int)))else none) (fun b=>?_) (.inl (.inr #[{ cls:=.type "list",data:=.seq vs.toArray },if_pos rfl])) (fun b u z=>?_) (fun b z=>?_) fun _=>hk
  ·by_cases hb:b=a
   ·exact .inr #[_,_,if_pos hb]
   ·exact .inl (if_neg hb)
  ·by_cases hb:b=a
   ·have z':=(if_pos hb).symm.trans z;cases z';subst hb;show#[ha,by rwa[aC],vs,_,rv,ha]
   ·have z':=(if_neg hb).symm.trans z;cases z'
  ·by_cases hb:b=a
   ·exact hb
   ·exact absurd (if_neg hb) z
abbrev KOf{K:aG}{h:Heap}(_:K.In h):aG:=K
theorem aoo{l:PySem.W.OpenLaw}{n k:Nat}{q:aH}{loose:List Str}{XP:(Str->Option Value)->Heap->Prop}{YP:World->Heap->Prop}{d:Wz}{K:Gx->aG}{CX:World->CXT}{sp:World->Sp}{x:Str}
  (hn:l.most=some n) (hn2:n<=sizeLine) (hdf:d.params.defaults=[]) (hr:fV k BL)
  (hY:∀(w:World)(h:Heap),YP w h->(K w.params).In h)
  (F:∀ (w:World) (mg:Str->Option Value) (fa:Addr) (h:Heap),(K w.params).In h->h.Ns cu mg->mg d.name=some (.ref fa) ->
   ∃fd:FuncData,(∀(s:Shared)(u:Value),Gw s fd #[[u],[]] [(x,u)]) /\
    ∀ base:Heap,(K w.params).In base->base.Ns cu mg->nA l.prog w (K w.params) mg base (CX w) k fa fd [x] (sp w))
  (hsp:∀(w:World)(H:Hp)(a:Addr)(ns:List Int),ns.length<=n->Only H->SqL (K w.params) H a (ns.map V.int)->sp w [.ref a] H (fun v _=>v=.bl true) fun _ _ _=>False)
  (hCX:∀(w:World)(H:Hp)(s:Shared)(e:Value)(s':Shared),CX w [] H s (fun _ _ _=>False) e s'->False):
  acH q loose XP YP l.row.toRowW d [] (fun f vs=>Wj f vs):=by
 refine Att.aaz hn hdf fun w s₀ s₁ mg mb fa o pm cd doc a vs ns G Y ho hd hcd hmg hobj hints hlen hg=>?_;have KX:=hY w _ Y;obtain⟨fd,hb,hF⟩:=F w mg fa _ KX G.T.g hmg;exact alM KX G.T.g G.T.b G.T.builtins G.T.nolimit hg hobj hints (bQ hlen hn2) hr hF hb (fun H hO hS=>hsp w H a ns hlen hO hS) fun H e s'=>hCX w H s₁ e s'
abbrev CX0:CXT:=fun _ _ _ _ _ _=>False
abbrev E0:XK:=fun _ _ _=>False
theorem aaA{X:Cx}:Passes CX0 X E0:=fun _ _ _ _ _ _ _ h=>h.elim
structure Fun(K:aG)(x qual:Str)(st:Stmt)(f:Addr)(fd:FuncData):Prop where
 ex:∃(oc:Value)(od:Option Addr)(kV doc pm:Value)(an:Option Addr)(cdv ct:Value) (osl:Array (Option Value)),
  fd=jw x qual (iW st) (gQ st) (aq st) .none kV doc pm an cdv ct/\K.lookup f=some #[oc,od,.func fd,osl]/\MN K cdv qual=true
 kp:nP K (.ref f)=true
section
variable{P:aH}{w:World}{K:aG}{mg:Str->Option Value}{base:Heap}
theorem Fun.ok{x qual:Str}{st:Stmt}{f:Addr}{fd:FuncData}{N ps:List Str}{k:Nat}{sp:Sp}(F:Fun K x qual st f fd)(S:aF N ps (aq st))(len:∀vs H Q E,sp vs H Q E->vs.length=ps.length)
  (hbody:∀ (cdv:Value) (A:aP) (outer:List Env) (s:Shared) (H:Hp) (vs:List V) (Q:VK) (E:XK),fV k (A.deeper (fQ qual (aq st) s.heap.objs.size f cdv))->sp vs H Q E ->
   ∃ t,PSs (kj CX0 P w K mg base N qual (aq st) f cdv A outer s H E).nox (gQ st) t/\t { nx:=fun _ H'=>Q .non H',rt:=Q } (start N vs) H):nA P w K mg base CX0 (k+1) f fd ps sp:=by
 obtain⟨oc,od,kV,doc,pm,an,cdv,ct,osl,rfl,lk,hcd⟩:=F.ex;refine apR lk hcd S len fun A outer s H vs Q E hr hsp=>?_;obtain⟨t,h,q⟩:=hbody cdv A outer s H vs Q E hr hsp;show#[t,h.nox,q]
theorem Fun.binds{x qual:Str}{st:Stmt}{f:Addr}{fd:FuncData}{ps:List Str}(F:Fun K x qual st f fd)
  (h:∀(kV doc pm:Value)(an:Option Addr)(cdv ct:Value)(us:List Value),us.length=ps.length->Bu (jw x qual (iW st) (gQ st) (aq st) .none kV doc pm an cdv ct) #[us,[]]=pure (ps.zip us)):Binds K fd ps []:=by
 obtain⟨oc,od,kV,doc,pm,an,cdv,ct,osl,rfl,lk,hcd⟩:=F.ex;exact .all (h kV doc pm an cdv ct)
theorem asd{x qual:Str}{st:Stmt}{f:Addr}{oc:Value}{od an:Option Addr}{osl:Array (Option Value)}{kV doc pm cdv ct:Value}(l:K.lookup f=some #[oc,od,.func (jw x qual (iW st) (gQ st) (aq st) .none kV doc pm an cdv ct),osl])
  (c:MN K cdv qual=true) (k:nP K (.ref f)=true):Fun K x qual st f (jw x qual (iW st) (gQ st) (aq st) .none kV doc pm an cdv ct):=#[#[oc,od,kV,doc,pm,an,cdv,ct,osl,rfl,l,c],k]
end
theorem alN{A:aP}{k:Nat}(hr:fV k A):A.units+1<cLine:=nZ (ac7 (by decide:1<=64) _) hr.units
theorem aQ{n:Nat}(h:n<=1000):n<sizeLine:=nZ h tb_g%
section
variable{X:Cx}
theorem pv(i:Nat){x:Str}{pos:Pos}(hN:X.N[i]? = some x:=by rfl)(hv:Vis X.env.scope x:=by first|exact Or.inl rfl|exact Or.inr (Or.inl rfl)|exact Or.inr (Or.inr rfl))(hd:(x == ("__debug__" : Str))=false:=by decide)
  (hcd:(x == ("__classdict__" : Str))=false:=by decide):PE X (.Name x pos) (alg i):=arP hN hv hd hcd
end
theorem qm{A B:Prop}(h:B):if false=true then A else B:=by
 rwa[if_neg d9]
theorem JL{A B:Prop}(h:A):if true=true then A else B:=by
 rwa[if_pos rfl]
theorem cD{c A B:Prop}[Decidable c](h1:c->A)(h2:¬ c->B):if c then A else B:=by
 by_cases h:c
 ·rw[if_pos h];exact h1 h
 ·rw[if_neg h];exact h2 h
theorem aaB{c A B:Prop}[Decidable c](hc:c)(h:B):if(!decide c)=true then A else B:=by
 rw[decide_eq_true hc];exact qm h
def Same(H H':Hp):Prop:=∀b o,H b=some o->H' b=some o
theorem Same.refl(H:Hp):Same H H:=fun _ _ h=>h
theorem Same.trans{H H1 H2:Hp}(a:Same H H1)(b:Same H1 H2):Same H H2:=fun c o h=>b c o (a c o h)
theorem Same.free{H H':Hp}(e:Same H H'){l:Addr}(h:H' l=Option.none):H l=Option.none:=by
 cases q:H l with
 |none=>rfl
 |some o =>
  rw[e l o q]at h;cases h
theorem Same.seq{K:aG}{H H':Hp}{a:Addr}{xs:List V}(e:Same H H')(h:SqL K H a xs):SqL K H' a xs:=by
 rcases h with(h|⟨o,h⟩)|h
 ·exact .inl (.inl (e _ _ h))
 ·exact .inl (.inr #[o,e _ _ h])
 ·exact .inr h
section
variable{κ:Type}[DecidableEq κ]
end
end L2
set_option Elab.async false
set_option maxRecDepth 100000
namespace L2
open PySem PySem.Spec PyProof.Rows
section
variable{X:Cx}
def afR(K:aG):List V->Hp->VK->Prop:=fun xs H Q=>(∃x n,xs=[x]/\LenV K x H n/\Q (.int n) H)\/∃a kvs,xs=[V.ref a]/\Rd H a (.dK kvs)/\Q (.int kvs.length) H
theorem aej:fW X (.builtin "len") (fun xs H Q=>∃a kvs,xs=[V.ref a]/\Rd H a (.dK kvs)/\Q (.int kvs.length) H):=by
 walk_at "s"
 obtain⟨a,kvs,rfl,ha,q⟩:=h;obtain⟨u,rfl,ru⟩:=vals1 r;cases ru;exact d_len I ha fun t s' I'=>#[.int kvs.length,H,I',#[t,rfl],q]
theorem Uo:fW X (.builtin "len") (afR X.K):=alx.or aej
def aek(K:aG):R2:=fun x y H Q=>rIxL K x y H Q\/rIxT K x y H Q\/∃a v,x=.ref a/\Xz H a y (some v)/\Q v H
theorem aop(hu:X.A.units+1<cLine):IxR X (fun x y H Q=>∃a v,x=.ref a/\Xz H a y (some v)/\Q v H):=by
 intro value slice pins s σ H x y v u Q I rx ry h hs;obtain⟨a,z,rfl,g,q⟩:=h;obtain rfl:v=Value.ref a:=rx;have hT:=aax I g;unfold W4;refine aA ?_;rw[getitemInPython_of_ne hT.not_modules];refine aA (M8 hT PySem.F.slot_dict_getitem.lookup ?_);have fin:wpAny (model X.prog X.w) X.A (acT slice false (.ref a) u) (fun r s₃=>wpAny (model X.prog X.w) X.A (letTemporaryGo value (.ref a) r >>= fun _=>pure r) (EP X pins σ Q) X.xe s₃) X.xe s:=by
  rw[hs];exact wpAny_operating (ag6 hu I g ry fun w' s3 I3 rw'=>aA (wpAny_letTemporaryGo (aK #[z,H,I3,rw',q])))
 first
  |exact aK (aA fin)
  |exact aA (aK (aA fin))
  |exact aA fin
theorem ixG(hu:X.A.units+1<cLine):IxR X (aek X.K):=aok.or (ar5.or (aop hu))
def apV:V->V->V->Hp->(Hp->Prop)->Prop:=fun o i v H Q=>apS o i v H Q\/∃a H',o=.ref a/\DPut H a i v H'/\Q H'
theorem setG(hu:X.A.units+1<cLine):PSet X apV:=by
 intro pins s σ H o i v ov iv u Q I ro ri rv h;rcases h with h|⟨a,H',rfl,g,q⟩
 ·exact set_list pins s σ H o i v ov iv u Q I ro ri rv h
 ·obtain rfl:ov=Value.ref a:=ro;exact ag7 hu I g ri rv fun s' I'=>#[H',I',q]
def rInG(K:aG)(neg:Bool):R2:=fun x y H Q=>rIn K neg x y H Q\/∃a o,y=.ref a/\Xz H a x o/\Q (.bl (if neg then !o.isSome else o.isSome)) H
theorem ase(hu:X.A.units+1<cLine):OpR X (fB .NotIn) (rInG X.K true):=by
 walk_at "k"
 rcases h with h|⟨a,o,rfl,g,q⟩
 ·exact Xx pins s σ H x y v u Q I rx ry h
 ·obtain rfl:u=Value.ref a:=ry;exact aon hu I g rx fun s' I'=>#[.bl (!o.isSome),H,I',rfl,q]
def asf:List V->Hp->VK->Prop:=fun xs H Q=>∃a kvs,xs=[V.ref a]/\Rd H a (.dK kvs)/\∀p,H p=none->Q (.ref p) (upd H p (.dK kvs))
theorem ael:fW X (.type "dict") asf:=by
 walk_at "s"
 obtain⟨a,kvs,rfl,ha,q⟩:=h;obtain⟨u,rfl,ru⟩:=vals1 r;cases ru;exact alL I ha fun p s' hp I'=>#[.ref p,_,I',rfl,q p hp]
theorem afS{P:aH}{w:World}{k:Key}{u:Value}(h:(bL P w).is k u=true):RelV (kV k) u:=by
 rcases eV (show Ov k u=true from h)with⟨i,t,rfl,rfl⟩|⟨x,t,rfl,rfl⟩
 ·show#[t,rfl]
 ·show#[t,rfl]
theorem HB{P:aH}{w:World}:∀{kvs:List (Key × V)} {vs:List (Key × Value)} {us:List Value},KV kvs vs->us.length=vs.length ->
  (∀(j:Nat)(u:Value),us[j]? = some u->∃k x,vs[j]? = some (k,x)/\(bL P w).is k u=true)->Vals (kvs.map fun p=>kV p.1) us
 |[],_,[],.nil,_,_=>.nil
 |[],_,_::_,.nil,hl,_=>by cases hl
 |_::_,_,[],.cons _ _,hl,_=>by cases hl
 |p::ps,_,u::us,.cons (b:=q) r t,hl,h=>by
  obtain⟨k,x,e,hk⟩:=h 0 u rfl;have e':q=(k,x):=by simpa using e
  have e2:p.1=k:=by rw[r.1,e']
  refine .cons (by show RelV (kV p.1) u;rw[e2];exact afS hk) (HB (P:=P) (w:=w) t (by simpa using hl) fun j v hv=>?_);obtain⟨k',x',e'',hk'⟩:=h (j+1) v (by simpa using hv);show#[k',x',by simpa using e'',hk']
theorem Uq:∀{kvs:List (Key × V)} {vs:List (Key × Value)} {us:List Value},KV kvs vs->us.length=vs.length ->
  (∀(j:Nat)(u:Value),us[j]? = some u->∃k,vs[j]? = some (k,u))->Vals (kvs.map (·.2)) us
 |[],_,[],.nil,_,_=>.nil
 |[],_,_::_,.nil,hl,_=>by cases hl
 |_::_,_,[],.cons _ _,hl,_=>by cases hl
 |p::ps,_,u::us,.cons (b:=q) r t,hl,h=>by
  obtain⟨k,e⟩:=h 0 u rfl;have e':q=(k,u):=by simpa using e
  refine .cons (by have:=r.2;rwa[e']at this) (Uq t (by simpa using hl) fun j v hv=>?_);obtain⟨k',e''⟩:=h (j+1) v (by simpa using hv);show#[k',by simpa using e'']
def alO:List V->Hp->VK->Prop:=fun xs H Q=>∃a kvs,xs=[V.ref a]/\Rd H a (.dK kvs)/\∀p,H p=none->Q (.ref p) (upd H p (.lst (kvs.map fun p=>kV p.1)))
theorem aem(hc:X.calm=true):fW X (.type "list") alO:=by
 walk_at "s"
 obtain⟨a,kvs,rfl,ha,q⟩:=h;obtain⟨u,rfl,ru⟩:=vals1 r;cases ru;obtain⟨z,hd,vs,rel,dd⟩:=yG I.hok ha;obtain⟨ep,hat⟩:=dd.dictAt;have hl:=rel.length;refine PySem.W.kdl_call (aiM (knd:=bL X.prog X.w) (kvs:=vs) (ep:=ep) hd) (I.ok.hd hc) hat (by rwa[<-hl]) fun h' tk acc' c' hk hD hacc=>?_;have hv:Vals (kvs.map fun p=>kV p.1) acc'.toList:=HB rel (by rw[tU];exact hacc.1) fun j v e=>hacc.2 j v (by rwa[<-Hg]);show#[.ref s.heap.objs.size,_,I.laid (a:=s.heap.objs.size) (o:=.lst (kvs.map fun p=>kV p.1)) (t':=tk) hk (aJ _) ?_,rfl,q _ (I.hok.fresh (aJ _))];show#[by rwa[aC],acc'.toList,c',hv,by first|(rwa[Xc])|simpa using hD]
def ash(K:aG):List V->Hp->VK->Prop:=fun xs H Q=>(∃p ys,xs=[.ref p]/\(SqL K H p ys\/SqT K H p ys)/\∀l,H l=none->Q (.ref l) (upd H l (.lst ys)))\/alO xs H Q
theorem O5(hc:X.calm=true):fW X (.type "list") (ash X.K):=Xy.or (aem hc)
def rIsi(K:aG):List V->Hp->VK->Prop:=fun xs H Q=>∃x c t cv b,xs=[x,c]/\RelV c cv/\(∀u,RelV c u->u=cv)/\Hx K H x t/\qp K t cv=some b/\Q (.bl b) H
theorem call_isinstance:fW X (.builtin "isinstance") (rIsi X.K):=by
 walk_at "s"
 obtain⟨x,c,t,cv,b,rfl,rc,inj,ty,e,q⟩:=h;obtain⟨u,w',rfl,ru,rw'⟩:=vals2 r;obtain rfl:=inj w' rw';exact ag4 I ru ty e fun tk=>#[.bl b,H,I.tok tk,rfl,q]
variable{a b c d:Expr}{ta tb tc td:TE}{pos:Pos}
end
section
variable{P:aH}{w:World}{H H':Hp}{h h':Heap}{a:Addr}{o:HO}
theorem cA.ex(x:cA P w H h a o):∃u,h.get? a=some u:=by
 cases o with
 |lst xs=>obtain⟨_,_,_,_,e⟩:=x;show#[_,e]
 |tup xs=>obtain⟨_,_,_,ob,e,_⟩:=x;show#[ob,e]
 |dK kvs=>obtain⟨_,_,_,_,o,_,_,e,_⟩:=x;show#[o,e]
 |dT kvs=>obtain⟨_,_,_,_,o,_,_,e,_⟩:=x;show#[o,e]
 |set S n=>obtain⟨o,_,_,_,e,_⟩:=x;show#[o,e]
 |ins C dx fs=>obtain⟨_,_,_,e,_⟩:=x;show#[_,e]
 |own y=>exact x
 |xd fs=>obtain⟨_,⟨o,_,_,e,_⟩,_⟩:=x;show#[o,e]
 |rng lo hi=>obtain⟨_,_,_,e⟩:=x;show#[_,e]
 |frz ob u=>obtain⟨e,_⟩:=x;show#[_,e]
 |tbl ps=>show#[_,show h.get? a=some _ from x]
 |met f y=>show#[_,show h.get? a=some _ from x]
 |ext φ=>obtain⟨_,⟨o,e⟩,_⟩:=x;show#[o,e]
theorem HOk.O6(x:HOk P w H h)(k:∀b u,h.get? b=some u->h'.get? b=some u)(hn:H a=none)(new:cA P w (upd H a o) h' a o):HOk P w (upd H a o) h':=fun b u e=>by
 by_cases hb:b=a
 ·subst hb;rw[aj]at e;cases e;exact new
 ·rw[ao hb]at e;exact(x b u e).stay (fun c v _ q=>k c v q) (fun c q=>by rwa[ao (ak q hn)]) fun c xs q=>by rwa[ao (ak q hn)]
theorem Un.O6{fs ex:List Addr}(k:∀b u,h.get? b=some u->h'.get? b=some u)(hne:∀b u,h.get? b=some u->b≠a)(hn:H a=none):Un fs ex H (upd H a o) h h' where
 keep:=fun b u q _ _ _=>k b u q
 slot:=fun b u q _ _ _=>#[u.slots,k b u q]
 free:=fun b u q n _=>by rwa[ao (hne b u q)]
 there:=fun b u q _=>#[u,k b u q]
 tups:=fun b xs q=>by rwa[ao (ak q hn)]
 rR:=fun b u xs q=>by rwa[ao (ak q hn)]
 wZ:=fun b ps q=>#[#[],by rw[ao (ak q hn),q];simp]
end
section
variable{X:Cx}{pins:List (Addr × Obj)}{σ:St}{H H':Hp}{s:Shared}{h':Heap}
theorem Inv.none_of(I:Inv X pins σ H s){a:Addr}(hne:∀b u,s.heap.get? b=some u->b≠a):H a=none:=by
 cases q:H a with
 |none=>rfl
 |some u =>
  obtain⟨v,e⟩:=(I.hok a u q).ex;exact absurd rfl (hne a v e)
theorem Inv.O6{a:Addr}{o:HO}{t':Nat}(I:Inv X pins σ H s)(k:∀b u,s.heap.get? b=some u->h'.get? b=some u)(hne:∀b u,s.heap.get? b=some u->b≠a)(new:cA X.prog X.w (upd H a o) h' a o):
  Inv X pins σ (upd H a o) { s with heap:=h',toks:=t' }:=I.un (Un.O6 k hne (I.none_of hne)) (I.hok.O6 k (I.none_of hne) new)
theorem Inv.alP{t':Nat}{it t:Addr}{o:HO}(I:Inv X pins σ H s)(k:∀b u,b≠it->s.heap.get? b=some u->h'.get? b=some u)(hie:∃u,h'.get? it=some u)(hn:H it=none)(hL:it≠X.env.locals)
  (h1:it∈X.ex\/X.s₀.heap.objs.size<=it) (h2:∀x c,X.env.cells.lookup x=some c->c≠it) (h3:∀p∈X.pn++pins,p.1≠it) (ht:s.heap.objs.size<=t)
  (new:cA X.prog X.w (upd H t o) h' t o):Inv X pins σ (upd H t o) { s with heap:=h',toks:=t' }:=by
 have nit:∀b u,H b=some u->b≠it:=fun b u e z=>by rw[z,hn]at e;cases e
 have ntt:H t=none:=I.hok.fresh ht;have lt:∀b u,s.heap.get? b=some u->b≠t:=fun b u e=>bR (dI (aR e) ht);refine I.step (g':=s.gens) (d':=s.drawn) (ch:=[it]) (fun b hb=>?_) (fun b o _ _ hc e _=>k b o (fun z=>hc (by simp[z])) e) (fun b o _ _ hc e _=>#[o.slots,k b o (fun z=>hc (by simp[z])) e]) (fun b u _ e n=>by rwa[ao (lt b u e)])
  (fun b o hc e=>#[o,k b o (fun z=>hc (by simp[z])) e]) (fun b xs e=>by rwa[ao (ak e ntt)]) (fun b q u e=>by rwa[ao (ak e ntt)]) (fun b ps e=>#[#[],by rw[ao (ak e ntt),e];simp]) (fun m hm=>?_) (fun b u e=>?_) I.bare
 ·have e:b=it:=by simpa using hb
  subst e;show#[h1,hL,h2,h3]
 ·obtain⟨o,es,ep,ho,r⟩:=hm;show#[o,es,ep,k _ o (aL hL) ho,r]
 ·by_cases hb:b=t
  ·subst hb;rw[aj]at e;cases e;exact new
  ·rw[ao hb]at e;refine(I.hok b u e).stay (fun c v hc q=>k c v ?_ q) (fun c q=>by rwa[ao (ak q ntt)]) fun c xs q=>by rwa[ao (ak q ntt)]
   rcases hc with z|z
   ·rw[z];exact nit b u e
   ·exact nit c _ z
theorem Inv.freeze{a:Addr}{kvs:List (Key × V)}(I:Inv X pins σ H s)(e:H a=some (.dK kvs)):∃o es ep,o.data=.dict es ep/\s.heap.get? a=some o/\Inv X pins σ (upd H a (.frz o (.dK kvs))) s:=by
 obtain⟨z,hd,vs,rel,o,es,ep,ho,hx⟩:=apU I.hok e;show#[o,es,ep,hx.2.1,ho,?_];have I':Inv X pins σ (upd H a (.frz o (.dK kvs))) { s with heap:=s.heap,toks:=s.toks }:=I.write (x:=a) (e:=a) (by rw[e];exact trivial) (.inl rfl) (fun _ _ _ q=>q) #[o,ho] #[ho,z,hd,vs,rel,o,es,ep,ho,hx];exact I'
theorem Inv.thaw{a:Addr}{o:Obj}{kvs:List (Key × V)}(I:Inv X pins σ H s)(e:H a=some (.frz o (.dK kvs)))(th:∀q u,X.H₀ a≠some (.frz q u)):Inv X pins σ (upd H a (.dK kvs)) s:=by
 have ne:∀b,H b=none->b≠a:=fun b n z=>by rw[z,e]at n;cases n
 have nt:∀b xs,H b=some (.tup xs)->b≠a:=fun b xs n z=>by rw[z,e]at n;cases n
 have no:∀b y,H b=some (.own y)->b≠a:=fun b y n z=>by rw[z,e]at n;cases n
 show#[I.ok,I.os,I.bare,#[I.base.keep,I.base.slot,fun b ob q n hx=>?_,I.base.there,fun b xs q=>?_,fun b ob u q=>?_,fun b ps q=>?_],I.loc,I.cell,?_,fun x c q=>?_,fun p hp=>?_,fun b u q=>?_,I.len]
 ·have n':=I.base.free b ob q n hx;rwa[ao (ne b n')]
 ·have q':=I.base.tups b xs q;rwa[ao (nt b xs q')]
 ·have q':=I.base.rR b ob u q;rwa[ao (fun(z:b=a)=>th ob u (z ▸ q))]
 ·obtain⟨m,q'⟩:=I.base.wZ b ps q;show#[m,by rwa[ao (fun z=>by rw[z,e]at q';cases q')]]
 ·rw[ao (ne _ I.free)];exact I.free
 ·have n:=I.qK x c q;rwa[ao (ne _ n)]
 ·obtain⟨h1,n,r⟩:=I.pin p hp;show#[h1,by rwa[ao (ne _ n)],r]
 ·by_cases hb:b=a
  ·subst hb;rw[aj]at q;cases q;obtain⟨_,r⟩:=(show cA X.prog X.w H s.heap b (.frz o (.dK kvs))from I.hok b _ e);exact r
  ·rw[ao hb]at q;exact(I.hok b u q).stay (fun _ _ _ r=>r) (fun c r=>by rwa[ao (no c b r)]) fun c xs r=>by rwa[ao (nt c xs r)]
end
def Iti(a:Addr)(o:Obj)(kvs:List (Key × V)):It:=
 #[fun i H=>H a=some (.frz o (.dK kvs))/\i<kvs.length,fun i H x H'=>∃p t,kvs[i]? = some p/\H t=none/\x=.ref t/\H'=upd H t (.tup [kV p.1,p.2]),fun i H=>H a=some (.frz o (.dK kvs))/\kvs.length<=i]
theorem aen{P:aH}{w:World}{H:Hp}{h:Heap}{a:Addr}{o:Obj}{kvs:List (Key × V)}{es:Array ac0}{ep:Nat}(hok:HOk P w H h)(e:H a=some (.frz o (.dK kvs)))(hd:o.data=.dict es ep):
  ∃vs,KV kvs vs/\h.DictAt (bL P w) a vs ep:=by
 obtain⟨ho,_,_,vs,rel,o',es',ep',ho',h2,h3,r⟩:=(show cA P w H h a (.frz o (.dK kvs))from hok a _ e)
 k_dat (ho,ho') "I"
 k_dat (hd,h3) "I"
 show#[vs,rel,o,_,ho,h2,hd,r]
theorem KV.at{kvs:List (Key × V)}{vs:List (Key × Value)}(r:KV kvs vs):∀{i:Nat}{p:Key × V},kvs[i]? = some p->∃v,vs[i]? = some (p.1,v)/\RelV p.2 v:=by
 unfold KV at r
 induction r with
 |nil=>intro i p e;simp at e
 | @cons a b as bs h t ih =>
  intro i p e;cases i with
  |zero =>
   have e':a=p:=by simpa using e
   subst e';show#[b.2,by rw[h.1];rfl,h.2]
  |succ j =>
   obtain⟨v,h1,h2⟩:=ih (i:=j) (p:=p) (by simpa using e);show#[v,by simpa using h1,h2]
theorem zY:Gs table "dict_itemiterator.__iter__" = some dM.«dict_keyiterator.__iter__» :=
 ajb (id' := "dict_keyiterator.__iter__") (by kernel_rfl) rfl tb_g% (by kernel_rfl)
theorem xg{prog:aH}{w:World}{A:aP}{E:Value->Shared->Prop}{s:Shared}{it d:Addr}{i n ep:Nat}{ok ov:Value}{Q:Value->Shared->Prop}(hit:IsItemIter s.heap it d i n ep ok ov)(h:Q (.ref it) s):
  wpAny (model prog w) A (Gy (.ref it)) Q E s:=by
 have hT:s.TypeIs (.ref it) "dict_itemiterator" := #[_,hit,rfl];refine wpAny_pyIter_slot hT F.slot_dict_itemiterator_iter (V7 F.slot_dict_itemiterator_iter hT zY ?_ (F.args_dict_itemiterator_iter_1 _));show wpAny _ _ (ret (.ref it)) _ _ s;exact aK #[_,rfl,"dict_itemiterator",_,hT,F.slot_dict_itemiterator_next.lookup,h]
theorem aeo{P:aH}{w:World}{K:aG}{elts:List Expr}{x1}{tpos:Pos}(a it:Addr)(o:Obj)(kvs:List (Key × V)){es:Array ac0}{ep:Nat}(hd:o.data=.dict es ep):
  Turn P w K (.Tuple elts x1 tpos) (Iti a o kvs) [it] it (fun i h=>∃ok ov,IsItemIter h it a i kvs.length ep ok ov) where
 mem:=by simp
 obj:=fun i h st b hb=>by
  have e:b=it:=by simpa using hb
  subst e;obtain⟨ok,ov,e⟩:=st;show#[_,e,fun v z=>by cases z]
 keep:=fun i h h' st k=>by
  obtain⟨ok,ov,e⟩:=st;show#[ok,ov,k it (by simp) _ e]
 item:=by
  walk_at "g"
  subst hP hw hK;obtain⟨e,hi⟩:=hg;obtain⟨vs,rel,dm⟩:=aen I.hok e hd;have hl:=rel.length;obtain⟨p,hp⟩:∃p,kvs[i]? = some p:=#[kvs[i],by simp[hi]];obtain⟨v,hv,rv⟩:=rel.at hp
  k_dat it "i"
  obtain⟨ok,ov,st⟩:=st;refine wpAny_pyNext_items_item (knd:=bL X.prog X.w) (by rwa[<-hl]) dm hv fun key h' hkey heo ht hz hk=>?_;have hit:it<s.heap.objs.size:=aR st;have nt:H s.heap.objs.size=none:=I.hok.fresh (aJ _);have I1:Inv X pins σ (upd H s.heap.objs.size (.tup [kV p.1,p.2])) { s with heap:=h' }:=I.alP (t':=s.toks) hk #[_,heo] f0 f1 f3 f4 f5 (aJ _)
   #[tb_g%,[key,v],.cons (afS hkey) (.cons rv .nil),#[_,ht,rfl,_,rfl]]
  have n1:(upd H s.heap.objs.size (.tup [kV p.1,p.2])) it=none:=by rwa[ao (bR hit)]
  show#[.ref s.heap.objs.size,rfl,wpAny_letOwnedTupleGo_items heo fun h2 he2 hs2=>?_];show#[.ref s.heap.objs.size,_,I1.turned (t':=s.toks) (fun b ob hb q=>(hs2.2 b hb).trans q) n1 f1 f3 f4 f5,rfl,#[p,_,hp,nt,rfl,rfl],#[key,v,by rwa[<-hl]at he2],fun b hb=>?_];have eb:b=it:=by simpa using hb
  subst eb;exact n1
 done:=by
  walk_at "g"
  subst hP hw hK;obtain⟨e,hi⟩:=hg;obtain⟨vs,rel,dm⟩:=aen I.hok e hd;have hl:=rel.length
  k_dat it "i"
  obtain⟨ok,ov,st⟩:=st;exact wpAny_pyNext_items_end (knd:=bL X.prog X.w) (I.ok.hd hc) (by rwa[<-hl]) dm (by rw[ab8];lia) fun h' eb=>#[rfl,I.turned (t':=s.toks) (fun b o hb e=>eb b o hb e) f0 f1 f3 f4 f5]
 self:=fun A i s Q E st h=>by
  obtain⟨ok,ov,e⟩:=st;exact xg e h
section
variable{X:Cx}{tg:Expr}
abbrev Warm(X:Cx)(a:Addr):Prop:=∀q u,X.H₀ a≠some (.frz q u)
theorem Inv.warm{pins:List (Addr × Obj)}{σ:St}{H:Hp}{s:Shared}{a:Addr}{kvs:List (Key × V)}(I:Inv X pins σ H s)(e:H a=some (.dK kvs)):Warm X a:=fun q u z=>by
 have:=I.base.rR a q u z;rw[e]at this;cases this
def alQ(X:Cx)(td:TE):TI:=fun σ H R=>td σ H fun x H1=>∃a kvs,x=.ref a/\H1 a=some (.dK kvs)/\∀o,Warm X a->R (Iti a o kvs) (upd H1 a (.frz o (.dK kvs)))
structure MI(X:Cx)(o:Expr)(m:Str)(apos cpos:Pos):Prop where
 base:nQ o m X.env (eval o X.env)=eval o X.env
 line:(apos.endLine == cpos.line)=true
theorem alR{l:Expr}{td:TE}{elts:List Expr}{x1}{tpos apos cpos:Pos}(hl:PE X l td)(m:MI X l "items" apos cpos):PI X (.Tuple elts x1 tpos) (.Call (.Attribute l "items" apos) [] [] cpos) (alQ X td):=by
 intro pins s σ H R I h;refine acL (T := "dict") (id := "dict.items") m.base rfl m.line adF aku PySem.F.type_dict_items (thn (hl pins s σ H _ I h) fun v s1 zq=>?_)
 walk_at "w"
 obtain ⟨a,kvs,rfl,e,q⟩:=q1;obtain rfl:v=Value.ref a:=r1;obtain ⟨t1,t2,hS⟩:=aei I1 (.inl #[kvs,.inl e]);show#[t1,t2,?_];obtain ⟨o,es,ep,hd,ho,If⟩:=I1.freeze e;obtain ⟨vs,rel,dm⟩:=aen If.hok aj hd;have hl':=rel.length;refine ajc aku PySem.F.entry_dict_items rfl (aiX #[rfl,t1,PySem.F.args_dict_items_1 _,_,meets_dict_items (bL X.prog X.w) a hS,#[vs,dm.dictOf],?_]);refine wpAny_pyIter_items (knd:=bL X.prog X.w) (d:=a) #[_,dN _ rfl,rfl,rfl] (dm.push _) ?_;have I2:=If.kept (h':=s1.heap.push { cls:=.type "dict_items",data:=.fields [.ref a].toArray }) (t':=s1.toks) fun b ob e=>cU _ e;show#[(s1.heap.push { cls:=.type "dict_items",data:=.fields [.ref a].toArray }).objs.size,[(s1.heap.push { cls:=.type "dict_items",data:=.fields [.ref a].toArray }).objs.size],_,_,_,rfl,I2.kept (t':=s1.toks) fun b ob e=>cU _ e,aeo a _ o kvs hd,
  #[.none,.none,by rw [hl'];exact dN _ rfl],fun b hb=>?_,q o (I1.warm e)]
 have eb:b=(s1.heap.push { cls:=.type "dict_items",data:=.fields [.ref a].toArray }).objs.size:=by simpa using hb
 subst eb;exact I2.ad5 (aJ _) (I2.hok.fresh (aJ _))
def alS(X:Cx)(D:Ends):Ends where
 nx:=fun σ H=>∃a kvs o,Warm X a/\H a=some (.frz o (.dK kvs))/\D.nx σ (upd H a (.dK kvs))
 rt:=fun v H=>∃a kvs o,Warm X a/\H a=some (.frz o (.dK kvs))/\D.rt v (upd H a (.dK kvs))
theorem aoq{pins:List (Addr × Obj)}{D:Ends}{f:Flow}{s':Shared}(h:SP X pins (alS X D) f s'):SP X pins D f s':=by
 cases f with
 |next =>
  obtain⟨σ',H',I,a,kvs,o,w,e,q⟩:=h;show#[σ',_,I.thaw e w,q]
 |brk =>
  obtain⟨σ',H',I,q⟩:=h;exact q.elim
 |cont =>
  obtain⟨σ',H',I,q⟩:=h;exact q.elim
 |ret u =>
  obtain⟨v,σ',H',I,r,a,kvs,o,w,e,q⟩:=h;show#[v,σ',_,I.thaw e w,r,q]
def tForI(X:Cx)(td:TE)(g:TG)(tb:TS):TS:=fun D σ H=>tFor (alQ X td) g tb (alS X D) σ H
theorem aor{l:Expr}{td:TE}{body:List Stmt}{elts:List Expr}{x1}{tpos apos cpos:Pos}{g:TG}{tb:TS}{pos:Pos}(hp:acY (model X.prog X.w) X.A X.env X.xe)(hc:X.calm=true)(hl:PE X l td)(m:MI X l "items" apos cpos)
  (hg:PG X (.Tuple elts x1 tpos) g) (hb:PSs X body tb)
  (hs:∀x,uN (.Call (.Attribute l "items" apos) [] [] cpos) X.env x=pure x:=by intro _;rfl):PS X (.For (.Tuple elts x1 tpos) (.Call (.Attribute l "items" apos) [] [] cpos) body [] pos) (tForI X td g tb):=
 fun pins s σ H D I h=>thn (alr hp hc (alR hl m) hg hb hs pins s σ H (alS X D) I h) fun _ _ q=>aoq q
theorem aha{a:Addr}{o:Obj}{kvs:List (Key × V)}{g:TG}{tb:TS}{D:Ends}{σ:St}{H:Hp}(Pv:Nat->St->Hp->Prop)(h0:Pv 0 σ H)(hl:∀i σ H,Pv i σ H->H a=some (.frz o (.dK kvs)))
  (hs:∀i p t σ H,kvs[i]? = some p->Pv i σ H->H t=none->g (.ref t) σ (upd H t (.tup [kV p.1,p.2])) fun σ2 H2=>tb { D with nx:=Pv (i+1),ct:=Pv (i+1),bk:=D.nx } σ2 H2) (hd:∀σ H,Pv kvs.length σ H->D.nx σ H):
  ∃W:Nat->Nat->St->Hp->Prop,(∃m,W 0 m σ H)/\∀i m σ H,W i m σ H ->
   ((Iti a o kvs).stop i H/\D.nx σ H)\/((Iti a o kvs).go i H/\∃N:St->Hp->Prop,(∀σ' H',N σ' H'->∃m',m'<m/\W (i+1) m' σ' H')/\∀x H',(Iti a o kvs).yld i H x H'->g x σ H' fun σ2 H2=>tb { D with nx:=N,ct:=N,bk:=D.nx } σ2 H2):=by
 show#[fun i m σ H=>m=kvs.length-i/\i<=kvs.length/\Pv i σ H,#[kvs.length,by simp,cJ _,h0],?_];rintro i m σ H ⟨rfl,hi,p⟩;have q:=hl i σ H p;by_cases hlt:i<kvs.length
 ·refine .inr #[#[q,hlt],Pv (i+1),fun σ' H' p'=>#[kvs.length-(i+1),by lia,rfl,hlt,p'],fun x H' y=>?_];obtain⟨pr,t,hp,ht,ex,e⟩:=y;subst e ex;exact hs i pr t σ H hp p ht
 ·have e:i=kvs.length:=by lia
  subst e;exact .inl #[#[q,aJ _],hd σ H p]
end
section
variable{X:Cx}{l:Expr}{td:TE}{p kp cpos apos pos:Pos}{j:Nat}{bpos:Pos}
def aos(td:TE):TE:=fun σ H Q=>td σ H fun x H1=>∃a kvs ns,x=.ref a/\Rd H1 a (.dK kvs)/\kvs.map (·.2)=ns.map V.int/\ns.length<64 /\
 ∀(l:Addr)(ns':List Int),H1 l=none->ns'.Perm ns->ns'.Pairwise (· >= ·)->Q (.ref l) (upd H1 l (.lst (ns'.map V.int)))
theorem O7{A:aP}{E:Value->Shared->Prop}{s:Shared}{T:String}{r d:Addr}{n:Nat}{P:Nat->Value->Prop}{OK:Heap->Prop}{ns:List Int}{bb:Bool}{Q:Value->Shared->Prop}
  (K:aiS X.prog X.w T r d n P OK) (hh:A.handled=none) (hok:OK s.heap) (hn:n<=sizeLine) (h64:n<64) (hP:∀us:List Value,us.length=n->(∀(j:Nat)(v:Value),us[j]? = some v->P j v)->rE us ns)
  (h:∀ (h':Heap) (tk:Nat) (l:Addr) (out:Array Value) (ns':List Int) (e:Nat),(∀ b ob,s.heap.get? b=some ob->h'.get? b=some ob)->(∀ b ob,s.heap.get? b=some ob->b≠l)->h'.get? l=some (GZ "list" out e) ->
   rE out.toList ns'->ns'.Perm ns->Ordered bb ns'->Q (.ref l) { s with heap:=h',toks:=tk }) :
  wpAny (model X.prog X.w) A (call (.builtin "sorted") [.ref r] [(aD "reverse",.bool bb)]) Q E s:=by
 refine call_function_entry_kw kind_sorted akm akn (args_sorted_rev _ _) ?_;unfold dM.«sorted»;refine aA (m:=checkCount "sorted" 1 1 _) (aK ?_);refine aA (aiH (A:=A.in1) K hh hok hn fun h1 tk acc hk hacc=>?_);have hl:acc.toList.length=n:=by rw[tU];exact hacc.1
 have hI:=hP acc.toList hl fun j v e=>hacc.2 j v (by rwa[<-Hg]);refine aA (ajm ?_ (by rwa[hl]));have hoL:(h1.push (GZ "list" acc.toList.toArray 0)).get? h1.objs.size=some (GZ "list" acc.toList.toArray 0):=dN _ rfl;refine aA (iU (wpAny_call_entry_kw akh #[_,hoL,rfl] akg (list_sort_tree_rev hoL hI (by rwa[hl]) fun out ns' a1 a2 a3=>#[_,rfl,?_]) (args_list_sort_rev _ _)));refine aK #[_,rfl,?_];obtain⟨e,he⟩:=akk (vs:=acc.toList) (out:=out) hoL;have hb:∀b ob,s.heap.get? b=some ob->b<h1.objs.size:=fun b ob e'=>aR (hk b ob e');refine h _ tk _ out ns' e (fun b ob e'=>?_) (fun b ob e'=>bR (hb b ob e')) he a1 a2 a3;have hlt:=hb b ob e';rw[aki (bR hlt) (by rw[ady];exact Nx hlt)];exact cU _ (hk b ob e')
theorem ahb(hm0:X.mg "sorted" = none)(hl:PE X l td)(m:MI X l "values" apos cpos)(hc:X.calm=true)(hg:Gl X "sorted" := by rfl):
  PE X (.Call (.Name "sorted" p) [.Call (.Attribute l "values" apos) [] [] cpos] [#[some "reverse",.Constant (.bool true) j bpos,kp]] pos) (aos td):=by
 walk_at "l"
 refine Aa (iB I hg hm0 boot_sorted ?_);refine callWith_kw (uV (acL (T := "dict") (id := "dict.values") m.base rfl m.line adF akq PySem.F.type_dict_values (thn (hl pins s σ H _ I h) fun v s1 zq=>?_)))
 walk_at "w"
 obtain⟨a,kvs,ns,rfl,e,ei,h64,q⟩:=q1;obtain rfl:v=Value.ref a:=r1;obtain⟨t1,t2,hS⟩:=aei I1 (.inl #[kvs,e]);show#[t1,t2,?_];obtain⟨z,_,vs,rel,dd⟩:=yG I1.hok e;obtain⟨ep,dm⟩:=dd.dictAt;have hlen:=rel.length;have hns:ns.length=kvs.length:=by have:=congrArg gZ ei;simpa using this.symm
 refine ajc akq PySem.F.entry_dict_values rfl (aiX #[rfl,t1,PySem.F.args_dict_values_1 _,_,meets_dict_values (bL X.prog X.w) a hS,#[vs,dd],?_]);refine yh (kws_cons ?_);refine akj (kws_nil ?_);show wpAny _ _ (call (.builtin "sorted") [.ref s1.heap.objs.size] [(aD "reverse",.bool true)]) _ _ _;have I2:=I1.kept (h':=s1.heap.push { cls:=.type "dict_values",data:=.fields [.ref a].toArray }) (t':=s1.toks) fun b ob e=>cU _ e;refine O7 (X:=X) (ns:=ns) (bb:=true) (PySem.W.kdl_values (knd:=bL X.prog X.w) (kvs:=vs) (ep:=ep)) (I1.ok.hd hc) #[#[_,dN _ rfl,rfl,rfl],dm.push _] (by rwa[<-hlen]) tb_g% (fun us hu hv=>?_) fun h' tk l' out ns' e' kp hne hl' hI hp ho=>?_
 ·have vv:=Uq rel hu hv;rw[ei]at vv;exact intsAre_of vv
 ·show#[.ref l',_,I2.O6 (t':=tk) kp hne (show cA X.prog X.w _ h' l' (.lst (ns'.map V.int))from#[?_,out.toList,e',uf hI,by simpa using hl']),rfl,q l' ns' (I2.none_of hne) hp ho];rwa[aC,hp.length_eq,hns]
end
end L2
set_option autoImplicit false
namespace MG
abbrev Tab:=List (Int × Int)
def look(c:Tab)(k:Int):Option Int:=(c.find? fun p=>decide (p.1=k)).map (·.2)
def low(c:Tab)(k:Int):Int:=(look c k).getD 0
def put(c:Tab)(k v:Int):Tab:=
 if(c.any fun p=>decide (p.1=k))=true then c.map (fun p=>if p.1=k then(p.1,v)else p)else c++[(k,v)]
def keys(c:Tab):List Int:=c.map (·.1)
def vals(c:Tab):List Int:=c.map (·.2)
def cG(c:Tab)(cut:Int):Tab:=(c.filter fun p=>decide (cut<p.2)).map fun p=>(p.1,p.2-cut)
theorem alT(k:Int):look [] k=none:=rfl
theorem gj(p:Int × Int)(r:Tab)(k:Int):look (p::r) k=if p.1=k then some p.2 else look r k:=by
 unfold look;rw[Az];by_cases h:p.1=k
 ·rw[if_pos h];simp[h]
 ·rw[if_neg h];simp[h]
theorem XC(k:Int):low [] k=0:=rfl
theorem Dy(p:Int × Int)(r:Tab)(k:Int):low (p::r) k=if p.1=k then p.2 else low r k:=by
 unfold low;rw[gj];by_cases h:p.1=k
 ·rw[if_pos h,if_pos h];rfl
 ·rw[if_neg h,if_neg h]
theorem afT(c:Tab)(k:Int):(c.any fun p=>decide (p.1=k))=true↔k∈keys c:=by
 unfold keys;rw[List.any_eq_true];constructor
 ·rintro⟨p,h1,h2⟩;exact cX.mpr #[p,h1,of_decide_eq_true h2]
 ·intro h;obtain⟨p,h1,h2⟩:=cX.mp h;show#[p,h1,decide_eq_true h2]
theorem rZ(c:Tab)(k:Int):look c k=none↔k∉keys c:=by
 induction c with
 |nil=>simp[alT,keys]
 |cons p r ih =>
  rw[gj];by_cases h:p.1=k
  ·rw[if_pos h];simp[keys,h]
  ·rw[if_neg h,ih];simp[keys];intro _ e;exact h e.symm
theorem JM(c:Tab)(k:Int):(look c k).isSome=true↔k∈keys c:=by
 have h:=rZ c k;cases e:look c k with
 |none=>rw[e]at h;simp at h;simp[h]
 |some v=>rw[e]at h;simp at h;simp[h]
theorem jf{c:Tab}{k:Int}(h:k∉keys c):low c k=0:=by
 unfold low;rw[(rZ c k).mpr h];rfl
theorem alU{c:Tab}{k v:Int}(h:look c k=some v):(k,v)∈c:=by
 induction c with
 |nil=>cases h
 |cons p r ih =>
  rw[gj]at h;by_cases e:p.1=k
  ·rw[if_pos e]at h;cases h;rw[<-e];exact bV
  ·rw[if_neg e]at h;exact cB _ (ih h)
theorem Jq{c:Tab}(hn:(keys c).Nodup){p:Int × Int}(h:p∈c):look c p.1=some p.2:=by
 induction c with
 |nil=>cases h
 |cons q r ih =>
  rw[gj];have hn':(q.1::keys r).Nodup:=hn;rw[iR]at hn';rcases aO.mp h with e|e
  ·subst e;rw[if_pos rfl]
  ·have:p.1∈keys r:=cX.mpr #[p,e,rfl];rw[if_neg (fun(z:q.1=p.1)=>hn'.1 (z ▸ this))];exact ih hn'.2 e
theorem jF{c:Tab}(hn:(keys c).Nodup){p:Int × Int}(h:p∈c):low c p.1=p.2:=by
 unfold low;rw[Jq hn h];rfl
theorem Cj{c:Tab}(h:∀p∈c,1<=p.2)(k:Int):0<=low c k:=by
 unfold low;cases e:look c k with
 |none=>exact cQ 0
 |some v=>have:=h _ (alU e);simp at this ⊢; lia
theorem ahc(c:Tab)(k v:Int):keys (c.map fun p=>if p.1=k then(p.1,v)else p)=keys c:=by
 unfold keys;rw[fj];apply wB;intro p _;show(if p.1=k then(p.1,v)else p).1=p.1;split <;> rfl
theorem XD{c:Tab}{k v:Int}(h:k∈keys c):put c k v=c.map fun p=>if p.1=k then(p.1,v)else p:=by
 unfold put;rw[if_pos ((afT c k).mpr h)]
theorem Dz{c:Tab}{k v:Int}(h:k∉keys c):put c k v=c++[(k,v)]:=by
 unfold put;rw[if_neg (fun z=>h ((afT c k).mp z))]
theorem aaC(c:Tab)(k v:Int):keys (put c k v)=if k∈keys c then keys c else keys c++[k]:=by
 by_cases h:k∈keys c
 ·rw[if_pos h,XD h,ahc]
 ·rw[if_neg h,Dz h];simp[keys]
theorem XF(c:Tab)(k v j:Int):j∈keys (put c k v)↔j=k\/j∈keys c:=by
 rw[aaC];by_cases h:k∈keys c
 ·rw[if_pos h];show#[Or.inr,fun z=>z.elim (fun e=>e ▸ h) id]
 ·rw[if_neg h,cF,cI];show#[fun z=>z.elim Or.inr Or.inl,fun z=>z.elim Or.inr Or.inl]
theorem alV{c:Tab}(hn:(keys c).Nodup)(k v:Int):(keys (put c k v)).Nodup:=by
 rw[aaC];by_cases h:k∈keys c
 ·rwa[if_pos h]
 ·rw[if_neg h,FW];show#[hn,by simp,?_];intro a ha b hb e;rw[cI]at hb;exact h (by rwa[<-hb,<-e])
theorem afU(c:Tab)(k v:Int):(put c k v).length<=c.length+1:=by
 unfold put;split
 ·rw[aC];lia
 ·rw[bB];simp
theorem ahd(c:Tab)(k v j:Int):look (c.map fun p=>if p.1=k then(p.1,v)else p) j=(look c j).map fun x=>if j=k then v else x:=by
 induction c with
 |nil=>rfl
 |cons p r ih =>
  rw[cP,gj,gj,ih];by_cases h:p.1=k
  ·rw[if_pos h];by_cases e:p.1=j
   ·rw[if_pos e,if_pos e,adu,if_pos (e.symm.trans h)]
   ·rw[if_neg e,if_neg e]
  ·rw[if_neg h];by_cases e:p.1=j
   ·rw[if_pos e,if_pos e,adu,if_neg (fun z=>h (e.trans z))]
   ·rw[if_neg e,if_neg e]
theorem ahe(c:Tab)(k v j:Int)(h:k∉keys c):look (c++[(k,v)]) j=if j=k then some v else look c j:=by
 induction c with
 |nil =>
  rw[nM,gj];by_cases e:k=j
  ·rw[if_pos e,if_pos e.symm]
  ·rw[if_neg e,if_neg (fun z=>e z.symm)]
 |cons p r ih =>
  have hk:¬ p.1=k:=fun z=>h (by simp[keys,z]);have hr:k∉keys r:=fun z=>h (cB _ z);rw[qU,gj,gj,ih hr];by_cases e:p.1=j
  ·rw[if_pos e,if_pos e,if_neg (fun z=>hk (e.trans z))]
  ·rw[if_neg e,if_neg e]
theorem alW(c:Tab)(k v j:Int):look (put c k v) j=if j=k then some v else look c j:=by
 by_cases h:k∈keys c
 ·rw[XD h,ahd];by_cases e:j=k
  ·subst e;cases q:look c j with
   |none=>exact absurd h ((rZ c j).mp q)
   |some x=>simp
  ·simp only[if_neg e];cases look c j <;> rfl
 ·rw[Dz h,ahe c k v j h]
theorem afV(c:Tab)(k v j:Int):low (put c k v) j=if j=k then v else low c j:=by
 unfold low;rw[alW];split <;> rfl
theorem afW{c:Tab}(h:∀p∈c,1<=p.2){k v:Int}(hv:1<=v):∀p∈put c k v,1<=p.2:=by
 intro p hp;unfold put at hp;split at hp
 ·obtain⟨q,hq,e⟩:=cX.mp hp;by_cases z:q.1=k
  ·rw[if_pos z]at e;subst e;exact hv
  ·rw[if_neg z]at e;subst e;exact h q hq
 ·rcases cF.mp hp with z|z
  ·exact h p z
  ·rw[cI]at z;subst z;exact hv
theorem alX{c:Tab}(hn:(keys c).Nodup){k v:Int}(h:k∈keys c):(vals (c.map fun p=>if p.1=k then(p.1,v)else p)).sum=(vals c).sum-low c k+v:=by
 induction c with
 |nil=>cases h
 |cons p r ih =>
  have hn':(p.1::keys r).Nodup:=hn;rw[iR]at hn';rw[Dy];by_cases e:p.1=k
  ·have hr:k∉keys r:=e ▸ hn'.1;have id_r:(r.map fun p=>if p.1=k then(p.1,v)else p)=r:=by
    have:∀q∈r,(if q.1=k then(q.1,v)else q)=q:=fun q hq=>if_neg (fun(z:q.1=k)=>hr (z ▸ cX.mpr #[q,hq,rfl]));exact(wB this).trans (aiA r)
   rw[cP,if_pos e,if_pos e,id_r];simp only[vals,cP,gG];lia
  ·have hr:k∈keys r:=by
    rcases aO.mp h with z|z
    ·exact absurd z.symm e
    ·exact z
   rw[cP,if_neg e,if_neg e];have:=ih hn'.2 hr;simp only[vals,cP,gG]at this ⊢; lia
theorem aot{c:Tab}(hn:(keys c).Nodup)(k w:Int):(vals (put c k (low c k+w))).sum=(vals c).sum+w:=by
 by_cases h:k∈keys c
 ·rw[XD h,alX hn h];lia
 ·rw[Dz h,jf h];simp only[vals,bG,cP,Ga,Mv,gG,aiB];lia
theorem DG{c:Tab}{cut k:Int}(h:k∈keys (cG c cut)):k∈keys c:=by
 unfold keys cG at h;rw[fj]at h;obtain⟨p,hp,e⟩:=cX.mp h;exact cX.mpr #[p,(nO.mp hp).1,e]
theorem alY(c:Tab)(cut:Int):keys (cG c cut)=keys (c.filter fun p=>decide (cut<p.2)):=by
 unfold keys cG;rw[fj];rfl
theorem asi{c:Tab}(hn:(keys c).Nodup)(cut:Int):(keys (cG c cut)).Nodup:=by
 rw[alY];exact akT (akZ _ List.filter_sublist) hn
theorem aou(c:Tab)(cut:Int):∀p∈cG c cut,1<=p.2:=by
 intro p hp;unfold cG at hp;obtain⟨q,hq,e⟩:=cX.mp hp;have:=of_decide_eq_true (nO.mp hq).2;subst e;show 1<=q.2-cut;lia
theorem aov(c:Tab)(cut:Int):(cG c cut).length<=c.length:=by
 unfold cG;rw[aC];exact Dg _ _
theorem alZ{c:Tab}(h:∀p∈c,1<=p.2):cG c 0=c:=by
 unfold cG;rw[aik.mpr (fun p hp=>decide_eq_true (by have:=h p hp;lia))];have:∀p∈c,(p.1,p.2-0)=p:=fun p _=>by rw[Int.sub_zero]
 exact(wB this).trans (aiA c)
theorem afX{c:Tab}(hn:(keys c).Nodup){cut:Int}(hc:0<=cut)(hp:∀p∈c,0<=p.2)(k:Int):low (cG c cut) k=if low c k-cut<=0 then 0 else low c k-cut:=by
 induction c with
 |nil=>rw[show cG [] cut=[]from rfl,XC];split <;> lia
 |cons p r ih =>
  have hn':(p.1::keys r).Nodup:=hn;rw[iR]at hn';have ih':=ih hn'.2 (fun q hq=>hp q (cB _ hq));by_cases h:cut<p.2
  ·have e:cG (p::r) cut=(p.1,p.2-cut)::cG r cut:=by
    unfold cG;rw[qW,if_pos (decide_eq_true h)];rfl
   rw[e,Dy,Dy,ih'];by_cases z:p.1=k
   ·rw[if_pos z,if_pos z,if_neg tb_g%]
   ·rw[if_neg z,if_neg z]
  ·have e:cG (p::r) cut=cG r cut:=by
    unfold cG;rw[qW,if_neg (by simp;lia)]
   rw[e,Dy,ih'];by_cases z:p.1=k
   ·rw[if_pos z,if_pos (show p.2-cut<=0 by lia)];have:low r k=0:=jf (z ▸ hn'.1);rw[this];split <;> lia
   ·rw[if_neg z]
theorem wG:∀{d:List Int}{room:Nat}{c:Int},d.Pairwise (· >= ·)->d[room]? = some c->(d.filter fun v=>decide (c<v)).length<=room
 |[],_,_,_,h=>by cases h
 |x::r,0,c,hp,h=>by
  have e:x=c:=by simpa using h
  subst e;have:((x::r).filter fun v=>decide (x<v))=[]:=by
   rw[Mr];intro v hv;rcases aO.mp hv with z|z
   ·subst z;simp
   ·have:=(iG.mp hp).1 v z;simp;lia
  rw[this];exact aJ _
 |x::r,n+1,c,hp,h=>by
  have ih:=wG (d:=r) (room:=n) (c:=c) (iG.mp hp).2 (by simpa using h);rw[qW];split
  ·simp only[bh];lia
  ·lia
def above(c:Int)(l:List Int):Int:=((l.filter fun v=>decide (c<v)).map fun v=>v-c).sum
theorem Ck(c x:Int)(r:List Int):above c (x::r)=(if c<x then x-c else 0)+above c r:=by
 unfold above;rw[qW];by_cases h:c<x
 ·rw[if_pos (decide_eq_true h),if_pos h];rfl
 ·rw[if_neg (by simp;lia),if_neg h];lia
theorem Ur{c:Int}:∀{l:List Int},(∀v∈l,v<=c)->above c l=0
 |[],_=>rfl
 |x::r,h=>by
  rw[Ck,Ur (l:=r) fun v hv=>h v (cB _ hv)];have:=h x bV;rw[if_neg tb_g%];rfl
theorem vC:∀{l:List Int},(∀v∈l,0<=v)->0<=l.sum
 |[],_=>cQ 0
 |x::r,h=>by
  have:=vC (l:=r) fun v hv=>h v (cB _ hv);have:=h x bV;rw[gG];lia
theorem O8:∀{d:List Int}{room:Nat}{c:Int},d.Pairwise (· >= ·)->d[room]? = some c->(∀v∈d,0<=v) ->
  above c d+((room:Int)+1)*c<=d.sum/\(d.length=room+1->above c d+((room:Int)+1)*c=d.sum)
 |[],_,_,_,h,_=>by cases h
 |x::r,0,c,hp,h,h0=>by
  have e:x=c:=by simpa using h
  subst e;have hr:∀v∈r,v<=x:=fun v hv=>(iG.mp hp).1 v hv;have hs:=vC (l:=r) fun v hv=>h0 v (cB _ hv);rw[Ck,if_neg tb_g%,Ur hr,gG];show#[by simp;lia,fun hl=>?_];have:r=[]:=by
   have:r.length=0:=by simpa using hl
   exact Ji.mp this
  subst this;simp
 |x::r,n+1,c,hp,h,h0=>by
  have h':r[n]? = some c:=by simpa using h
  have ih:=O8 (d:=r) (room:=n) (c:=c) (iG.mp hp).2 h' fun v hv=>h0 v (cB _ hv);have hx:c<=x:=(iG.mp hp).1 c (xj h');have hm:((n+1:Nat):Int)=(n:Int)+1:=by lia
  have e2:((((n+1:Nat):Int))+1)*c=((n:Int)+1)*c+c:=by rw[hm,WX ((n:Int)+1) 1 c,adn]
  rw[Ck,gG,e2];have ex:(if c<x then x-c else 0)=x-c:=by split <;> lia
  rw[ex];show#[by have:=ih.1;lia,fun hl=>?_];have:=ih.2 (by simpa using hl);lia
theorem aaD(c:Tab)(cut:Int):vals (cG c cut)=(((vals c).filter fun v=>decide (cut<v)).map fun v=>v-cut):=by
 induction c with
 |nil=>rfl
 |cons p r ih =>
  have hv:vals (p::r)=p.2::vals r:=rfl;rw[hv];by_cases h:cut<p.2
  ·have e:cG (p::r) cut=(p.1,p.2-cut)::cG r cut:=by
    unfold cG;rw[qW,if_pos (decide_eq_true h)];rfl
   rw[e,qW,if_pos (decide_eq_true h),cP,<-ih];rfl
  ·have e:cG (p::r) cut=cG r cut:=by
    unfold cG;rw[qW,if_neg (by simp;lia)]
   rw[e,qW,if_neg (by simp;lia),ih]
theorem aow(c:Tab)(cut:Int):(vals (cG c cut)).sum=above cut (vals c):=by rw[aaD];rfl
theorem DN{l l':List Int}(h:l.Perm l'):l.sum=l'.sum:=by
 induction h with
 |nil=>rfl
 |cons x _ ih=>rw[gG,gG,ih]
 |swap x y l=>simp only[gG];lia
 |trans _ _ a b=>exact a.trans b
theorem aep{c:Int}{l l':List Int}(h:l.Perm l'):above c l=above c l':=by
 unfold above;exact DN ((h.filter _).map _)
structure IsCut(room:Nat)(c:Tab)(cut:Int):Prop where
 ex:∃d:List Int,d.Perm (vals c)/\d.Pairwise (· >= ·)/\d[room]? = some cut
theorem IsCut.mem{room:Nat}{c:Tab}{cut:Int}(h:IsCut room c cut):cut∈vals c:=by
 obtain⟨d,h1,_,h3⟩:=h;exact h1.mem_iff.mp (xj h3)
theorem IsCut.len{room:Nat}{c:Tab}{cut:Int}(h:IsCut room c cut):(cG c cut).length<=room:=by
 obtain⟨d,h1,h2,h3⟩:=h;have e:(cG c cut).length=((vals c).filter fun v=>decide (cut<v)).length:=by
  have:=congrArg gZ (aaD c cut);rw[aC]at this;rw[<-this];unfold vals;rw[aC]
 rw[e,<-(h1.filter _).length_eq];exact wG h2 h3
theorem IsCut.sum{room:Nat}{c:Tab}{cut:Int}(h:IsCut room c cut)(h0:∀p∈c,0<=p.2):
  (vals (cG c cut)).sum+((room:Int)+1)*cut<=(vals c).sum/\(c.length=room+1->(vals (cG c cut)).sum+((room:Int)+1)*cut=(vals c).sum):=by
 obtain⟨d,h1,h2,h3⟩:=h;rw[aow,<-aep h1,<-DN h1];have hd:∀v∈d,0<=v:=fun v hv=>by
  obtain⟨p,hp,e⟩:=cX.mp (h1.mem_iff.mp hv);rw[<-e];exact h0 p hp
 have:=O8 h2 h3 hd;show#[this.1,fun hl=>this.2 ?_];rw[h1.length_eq];unfold vals;rwa[aC]
def jG(room:Nat)(c:Tab)(c':Tab)(cut:Int):Prop:=
 if c.length<=room then cut=0/\c'=c else IsCut room c cut/\c'=cG c cut
structure Ok(room:Nat)(c:Tab)(total lost:Int)(tw:Int->Int):Prop where
 nd:(keys c).Nodup
 pos:∀p∈c,1<=p.2
 len:c.length<=room
 l0:0<=lost
 sum:(vals c).sum+((room:Int)+1)*lost<=total
 lo:∀k,low c k<=tw k
 hi:∀k,tw k<=low c k+lost
structure Pre(room:Nat)(c:Tab)(total lost:Int)(tw:Int->Int):Prop where
 nd:(keys c).Nodup
 pos:∀p∈c,1<=p.2
 l0:0<=lost
 sum:(vals c).sum+((room:Int)+1)*lost<=total
 lo:∀k,low c k<=tw k
 hi:∀k,tw k<=low c k+lost
theorem jG.nn{room:Nat}{c c':Tab}{cut:Int}(f:jG room c c' cut)(hp:∀p∈c,1<=p.2):0<=cut:=by
 unfold jG at f;by_cases e:c.length<=room
 ·rw[if_pos e]at f;lia
 ·rw[if_neg e]at f;obtain⟨p,hp',e'⟩:=cX.mp f.1.mem;have:=hp p hp';lia
theorem Pre.fit{room:Nat}{c c':Tab}{total lost cut:Int}{tw:Int->Int}(h:Pre room c total lost tw)(f:jG room c c' cut):Ok room c' total (lost+cut) tw:=by
 have hc:=f.nn h.pos;unfold jG at f;by_cases e:c.length<=room
 ·rw[if_pos e]at f;obtain⟨rfl,rfl⟩:=f;show#[h.nd,h.pos,e,by have:=h.l0;lia,by rw[ajY];exact h.sum,h.lo,fun k=>by have:=h.hi k;lia]
 ·rw[if_neg e]at f
  k_dat (f,f) "F"
  have hs:=(f.sum fun p hp=>by have:=h.pos p hp;lia).1;have h0:∀p∈c,0<=p.2:=fun p hp=>by have:=h.pos p hp;lia
  show#[asi h.nd _,aou _ _,f.len,by have:=h.l0;lia,?_,fun k=>?_,fun k=>?_]
  ·rw[ado];have:=h.sum;lia
  ·rw[afX h.nd hc h0 k];have:=h.lo k;have:=Cj h.pos k;split <;> lia
  ·rw[afX h.nd hc h0 k];have:=h.hi k;split <;> lia
theorem Ok.pre{room:Nat}{c:Tab}{total lost:Int}{tw:Int->Int}(h:Ok room c total lost tw):Pre room c total lost tw:=#[h.nd,h.pos,h.l0,h.sum,h.lo,h.hi]
theorem Ok.add{room:Nat}{c:Tab}{total lost k w:Int}{tw:Int->Int}(h:Ok room c total lost tw)(hw:1<=w):
  Pre room (put c k (low c k+w)) (total+w) lost (fun j=>if j=k then tw j+w else tw j):=by
 show#[alV h.nd _ _,afW h.pos (by have:=Cj h.pos k;lia),h.l0,by rw[aot h.nd];have:=h.sum;lia,fun j=>?_,fun j=>?_]
 ·rw[afV];have:=h.lo j;by_cases e:j=k
  ·subst e;rw[if_pos rfl,if_pos rfl];lia
  ·rwa[if_neg e,if_neg e]
 ·rw[afV];have:=h.hi j;by_cases e:j=k
  ·subst e;rw[if_pos rfl,if_pos rfl];lia
  ·rwa[if_neg e,if_neg e]
theorem Ok.empty(room:Nat):Ok room [] 0 0 (fun _=>0):=
 #[FZ,(fun _ h=>by cases h),cJ _,cQ 0,by simp[vals],fun k=>by rw[XC];exact cQ 0,fun k=>by rw[XC];exact cQ 0]
end MG
set_option autoImplicit false
namespace MK
def RW(r:Int)(h:Nat):Prop:=∃m:Int,r=m*2 ^ h/\m % 2=1
theorem ig(n:Nat):(0:Int)<2 ^ n:=adp tb_g%
theorem RW.uniq{r:Int}{h k:Nat}(a:RW r h)(b:RW r k):h=k:=by
 have key:∀{h k:Nat}{m n:Int},h<k->m*2 ^ h=n*2 ^ k->m % 2=1->False:=by
  intro h k m n hlt e hm;obtain⟨d,rfl⟩:∃d,k=h+(d+1):=#[k-h-1,by lia];rw[adq,<-BW,ajR]at e;have e2:=Int.eq_of_mul_eq_mul_right (ajZ (ig h)) e;rw[yd,<-BW]at e2;lia
 obtain⟨m,e1,h1⟩:=a;obtain⟨n,e2,h2⟩:=b;rcases Nat.lt_trichotomy h k with l|l|l
 ·exact(key l (e1.symm.trans e2) h1).elim
 ·exact l
 ·exact(key l (e2.symm.trans e1) h2).elim
def To(r x:Int)(i:Nat):Prop:=r=x*2 ^ i/\x≠0
theorem To.step{r x:Int}{i:Nat}(h:To r x i)(e:x % 2=0):To r (x / 2) (i+1):=by
 obtain⟨h1,h2⟩:=h;have hx:x=x / 2*2:=by lia
 show#[?_,by lia];rw[h1,yd,adk (2 ^ i) 2,<-BW,<-hx]
theorem To.stop{r x:Int}{i:Nat}(h:To r x i)(e:¬ x % 2=0):RW r i:=#[x,h.1,by lia]
def M:Int:=1152921504606846976
theorem apW:(2:Int) ^ 60=1152921504606846976:=by decide
theorem RW.ne{r:Int}{h:Nat}(a:RW r h):r≠0:=by
 obtain⟨m,e,hm⟩:=a;intro z;rw[z]at e;rcases Int.mul_eq_zero.mp e.symm with q|q
 ·lia
 ·exact absurd q (ajZ (ig h))
theorem RW.lt{r:Int}{h:Nat}(a:RW r h)(h0:0<=r)(h1:r<1152921504606846976):h<60:=by
 obtain⟨m,e,hm⟩:=a;rcases iz h 60 with q|q
 ·exact q
 ·obtain⟨d,rfl⟩:∃d,h=60+d:=#[h-60,by lia];exfalso;rw[adq,apW]at e;have hd:=ig d;rcases aj0 m 0 with l|l
  ·have:m*(1152921504606846976*2 ^ d)<0:=ajQ l tb_g%;lia
  ·have h3:1*(1152921504606846976*1)<=m*(1152921504606846976*2 ^ d):=adi tb_g% tb_g% tb_g% tb_g%;lia
theorem To.lt{r x:Int}{i:Nat}(h:To r x i)(h0:0<r)(h1:r<1152921504606846976):i<60/\0<x/\x<=r:=by
 obtain⟨e,hx⟩:=h;have hp:=ig i;have x0:0<x:=by
  rcases aj0 x 0 with l|l
  ·have:x*2 ^ i<0:=ajQ l hp;lia
  ·lia
 show#[?_,x0,?_]
 ·rcases iz i 60 with q|q
  ·exact q
  ·obtain⟨d,rfl⟩:∃d,i=60+d:=#[i-60,by lia];exfalso;rw[adq,apW]at e;have hd:=ig d;have h3:1*(1152921504606846976*1)<=x*(1152921504606846976*2 ^ d):=adi tb_g% tb_g% tb_g% tb_g%;lia
 ·have h3:x*1<=x*2 ^ i:=NQ tb_g% tb_g%;lia
end MK
set_option autoImplicit true
namespace L2
open PySem MG
def emb(c:Tab):List (Key × V):=c.map fun p=>((Sum.inl p.1:Key),V.int p.2)
theorem DP(c:Tab):(emb c).length=c.length:=aC _
theorem al0(c:Tab):(emb c).map (·.2)=(vals c).map V.int:=by
 unfold emb vals;rw[fj,fj];rfl
theorem al1(c:Tab):((emb c).map fun p=>kV p.1)=(keys c).map V.int:=by
 unfold emb keys;rw[fj,fj];rfl
theorem asj{c:Tab}{i:Nat}{p:Key × V}(h:(emb c)[i]? = some p):∃q,c[i]? = some q/\p=(Sum.inl q.1,V.int q.2):=by
 unfold emb at h;rw[dF]at h;cases e:c[i]? with
 |none=>rw[e]at h;cases h
 |some q=>rw[e]at h;show#[q,rfl,(bN h).symm]
theorem LR{a b:Int}:((Sum.inl a:Key)=Sum.inl b)↔a=b:=#[fun h=>ak5 h,fun h=>by rw[h]]
theorem O9(c:Tab)(k:Int):zX (emb c) (Sum.inl k:Key)=(look c k).map V.int:=by
 induction c with
 |nil=>rfl
 |cons p r ih =>
  have e:emb (p::r)=(Sum.inl p.1,V.int p.2)::emb r:=rfl;rw[e,gj];by_cases h:p.1=k
  ·rw[Dv (p:=((Sum.inl p.1:Key),V.int p.2)) (LR.mpr h),if_pos h];rfl
  ·rw[Dw (p:=((Sum.inl p.1:Key),V.int p.2)) (fun z=>h (LR.mp z)),if_neg h,ih]
theorem aox(c:Tab)(k:Int):(zX (emb c) (Sum.inl k:Key)).getD (.int 0)=.int (low c k):=by
 rw[O9];unfold low;cases look c k <;> rfl
theorem al2{c:Tab}{k v:Int}(h:look c k=some v):zX (emb c) (Sum.inl k:Key)=some (.int v):=by rw[O9,h];rfl
theorem aoy(c:Tab)(k:Int):((emb c).any fun kv=>decide (kv.1=(Sum.inl k:Key)))=c.any fun p=>decide (p.1=k):=by
 induction c with
 |nil=>rfl
 |cons p r ih =>
  have e:emb (p::r)=(Sum.inl p.1,V.int p.2)::emb r:=rfl;rw[e,Bb,Bb,ih];congr 1;by_cases h:p.1=k
  ·rw[decide_eq_true h,decide_eq_true (LR.mpr h)]
  ·rw[decide_eq_false h,decide_eq_false (fun z=>h (LR.mp z))]
theorem Pa(c:Tab)(k v:Int):putK (emb c) (Sum.inl k:Key) (.int v)=emb (put c k v):=by
 unfold putK put;rw[aoy];by_cases h:(c.any fun p=>decide (p.1=k))=true
 ·rw[if_pos h,if_pos h];unfold emb;rw[fj,fj];apply wB;intro p _;by_cases e:p.1=k
  ·simp[e]
  ·simp[e]
 ·rw[if_neg h,if_neg h];unfold emb;rw[bG];rfl
def But(p:Addr)(H H':Hp):Prop:=∀b o,H b=some o->b≠p->H' b=some o
theorem Same.but{H H':Hp}(h:Same H H')(p:Addr):But p H H':=fun b o e _=>h b o e
theorem But.trans{p:Addr}{H H1 H2:Hp}(a:But p H H1)(b:But p H1 H2):But p H H2:=fun c o h n=>b c o (a c o h n) n
theorem But.upd{p:Addr}{H:Hp}{o:HO}:But p H (upd H p o):=fun b u h n=>by rwa[ao n]
theorem Same.new{H:Hp}{p:Addr}{o:HO}(h:H p=none):Same H (upd H p o):=fun b u e=>by rwa[ao (ak e h)]
section
variable{K:aG}{H:Hp}{Q:VK}
theorem rdF{a C dx:Addr}{fs:List (Str × V)}{f:Str}{v:V}(h:H a=some (.ins C dx fs))(c:Cls K C)(n:bM K C f)(l:fs.lookup f=some v)(q:Q v H):rFld K f (.ref a) H Q:=#[a,C,dx,fs,v,rfl,h,c,n,l,q]
theorem cH{a:Addr}{xs:List V}{i:Int}{v:V}(h:SqL K H a xs)(e:atI xs i=some v)(q:Q v H):aek K (.ref a) (.int i) H Q:=.inl #[a,xs,i,v,rfl,rfl,h,e,q]
theorem pA{a:Addr}{xs:List V}{i:Int}{v:V}(h:SqT K H a xs)(e:atI xs i=some v)(q:Q v H):aek K (.ref a) (.int i) H Q:=.inr (.inl #[a,xs,i,v,rfl,rfl,h,e,q])
theorem apY{a:Addr}{kvs:List (Key × V)}{i:Int}{v:V}(h:Rd H a (.dK kvs))(e:zX kvs (Sum.inl i:Key)=some v)(q:Q v H):aek K (.ref a) (.int i) H Q:=
 .inr (.inr #[a,v,rfl,.inl #[kvs,Sum.inl i,h,rfl,e.symm],q])
theorem cj{a:Addr}{xs:List V}(h:SqL K H a xs)(q:Q (.int xs.length) H):afR K [.ref a] H Q:=.inl #[.ref a,xs.length,rfl,.inl #[xs,h,rfl],q]
theorem asl{a:Addr}{kvs:List (Key × V)}(h:Rd H a (.dK kvs))(q:Q (.int kvs.length) H):afR K [.ref a] H Q:=.inr #[a,kvs,rfl,h,q]
theorem rdGet{a:Addr}{kvs:List (Key × V)}{i:Int}(h:Rd H a (.dK kvs)):Xz H a (.int i) (zX kvs (Sum.inl i:Key)):=.inl #[kvs,Sum.inl i,h,rfl,rfl]
theorem al3{a:Addr}{kvs:List (Key × V)}{i:Int}{v:V}{R:Hp->Prop}(h:H a=some (.dK kvs))(hl:kvs.length<sizeLine)(q:R (upd H a (.dK (putK kvs (Sum.inl i) v)))):apV (.ref a) (.int i) v H R:=
 .inr #[a,_,rfl,.inl #[kvs,Sum.inl i,h,rfl,hl,rfl],q]
theorem al4{i:Int}{T:String}{b:Bool}(e:qp K (.type "int") (.type T)=some b)(q:Q (.bl b) H):rIsi K [.int i,.ty T] H Q:=
 #[_,_,_,_,b,rfl,rfl,fun _ h=>h,.int i,e,q]
end
theorem al5(K:aG)(t:Value)(h:(t == t)=true):qp K t t=some true:=by unfold qp;rw[if_pos h]
theorem asn{K:aG}{a b:String}{r:Bool}(h1:(Value.type a == Value.type b)=false)(h2:aiQ b=true)(h3:(ajd a).map (·.contains (Value.type b))=some r):
  qp K (.type a) (.type b)=some r:=by
 unfold qp V0;rw[if_neg (by rw[h1];exact d9)];show(if aiQ b=true then PySem.W.subIn K (.type a) (.type b)else none)=some r;rwa[if_pos h2]
theorem aer{i j:Int}(h0:-(2 ^ 64)<i)(h1:i<2 ^ 64):als i j:=.inl #[by lia,by lia]
theorem eY{i j:Int}(h0:-(2 ^ 64)<j)(h1:j<2 ^ 64):als i j:=.inr #[by lia,by lia]
end L2
namespace L2
open PySem PySem.Spec PyProof.Rows
def DK(h h':Heap):Prop:=∀(b:Addr)(o:Obj),h.objs[b]? = some o->∃o',h'.objs[b]? = some o'/\o'.dict=o.dict
theorem DK.refl(h:Heap):DK h h:=fun _ o e=>#[o,e,rfl]
theorem DK.trans{h k l:Heap}(a:DK h k)(b:DK k l):DK h l:=fun c o e=>by
 obtain⟨o1,e1,d1⟩:=a c o e;obtain⟨o2,e2,d2⟩:=b c o1 e1;show#[o2,e2,d2.trans d1]
theorem al6{h:Heap}{b:Addr}{o:Obj}(e:h.get? b=some o):h.objs[b]? = some o:=by
 unfold Heap.get? at e;split at e
 ·cases e
 ·exact e
theorem DK.at{h k:Heap}{b:Addr}{o o':Obj}(a:DK h k)(e:h.get? b=some o)(e':k.get? b=some o'):o'.dict=o.dict:=by
 obtain⟨o2,q,r⟩:=a b o (al6 e);rw[al6 e']at q;cases q;exact r
theorem DK.push(h:Heap)(o:Obj):DK h (h.push o):=fun b u e=>by
 show#[u,?_,rfl];have lt:=(Oa.mp e).1;show(h.objs.push o)[b]? = some u;rwa[Array.getElem?_push,if_neg (bR lt)]
theorem DK.update(h:Heap)(a:Addr){f:Obj->Obj}(k:∀o,(f o).dict=o.dict):DK h (h.update a f):=fun b u e=>by
 show ∃o',(h.objs.modify a f)[b]? = some o'/\_;rw[Array.getElem?_modify];by_cases z:a=b
 ·rw[if_pos z,e];show#[_,rfl,k u]
 ·rw[if_neg z,e];show#[u,rfl,rfl]
def kE{α:Type}:Sem α->Prop
 | .pure _=>True
 | .raise _=>True
 | .unsupported _=>True
 | .finish _=>True
 | .rule _ k=>kE (k ())
 | .at _ k=>kE (k ())
 | .load _ _ k=>∀o,kE (k o)
 | .update _ _ f k=>(∀o,(f o).dict=o.dict)/\kE (k ())
 | .loadIfAlive _ k=>∀o,kE (k o)
 | .point _ k=>kE (k ())
 | .alloc _ k=>∀a,kE (k a)
 | .fresh k=>∀a,kE (k a)
 | .ask k=>∀a,kE (k a)
 | .handled _ k=>∀a,kE (k a)
 | .stack k=>∀a,kE (k a)
 |_=>False
theorem kE.bind{α β:Type}{m:Sem α}{f:α->Sem β}(h:kE m)(g:∀a,kE (f a)):kE (m >>= f):=by
 show kE (m.bind f)
 induction m <;> simp only[Sem.bind,kE]at h ⊢ <;> first|exact g _|trivial|exact h.elim|(rename_i ih;exact ih _ h)|(rename_i ih;exact fun o=>ih o (h o))|(rename_i ih;show#[h.1,ih _ h.2])
theorem aoz{α:Type}{M:Model}{Γ:PySem.Ctx}{t:Sem α}{Q:α->Pos->Shared->Prop}{E:Value->Pos->Shared->Prop}{h0:Heap}(h:kE t):∀{p:Pos}{s:Shared},DK h0 s.heap->Sem.wp M Γ t Q E p s->Sem.wp M Γ t (fun a p s'=>Q a p s'/\DK h0 s'.heap) E p s:=by
 induction t with
 |pure x=>exact fun d q=>#[q,d]
 |raise v=>exact fun _ q=>q
 |finish|yield|fork|await|register=>exact fun _ q=>q
 |rule _ k ih | «at» _ k ih|point _ k ih=>exact fun d q=>ih () h d q
 |ask k ih|handled _ k ih|stack k ih|fresh k ih=>exact fun d q=>ih _ (h _) d q
 |alloc o k ih=>exact fun d q=>ih _ (h _) (d.trans (.push _ _)) q
 |load a _ k ih=>exact fun d ⟨o,ho,q⟩=>#[o,ho,ih _ (h _) d q]
 |update a _ f k ih=>exact fun d ⟨ha,q⟩=>#[ha,ih () h.2 (d.trans (.update _ _ h.1)) q]
 |_=>first|exact gH h|exact fun _ q=>q|(rename_i ih;exact fun d q=>ih _ (h _) d q)
theorem yH{α:Type}{M:Model}{A:aP}{E:Value->Shared->Prop}{s:Shared}{t:Sem α}{Q:α->Shared->Prop}(h:kE t)(q:wpAny M A t Q E s):wpAny M A t (fun a s'=>Q a s'/\DK s.heap s'.heap) E s:=
 fun Γ p z=>aoz h (DK.refl _) (q Γ p z)
theorem vD(v:Value)(i:Nat):kE (field v i):=by
 unfold field fieldsOf;refine .bind ?_ fun a=>by split <;> trivial
 cases v <;> first|trivial|skip
 refine .bind (fun o=>trivial) fun o=>?_;split <;> trivial
theorem sy(v x:Value)(i:Nat):kE (setField v i x):=by
 cases v <;> first|trivial|skip
 refine .bind (fun o=>trivial) fun o=>?_;split
 ·split
  ·show#[fun o=>?_,trivial];obtain⟨_,_,d,_⟩:=o;cases d <;> rfl
  ·trivial
 ·trivial
theorem Pb:∀l:List Env,kE (readyFrames l)
 |[]=>trivial
 |e::l=>by
  unfold readyFrames;split
  ·refine .bind (fun o=>trivial) fun o=>?_;split
   ·trivial
   ·refine .bind ?_ fun i=>.bind ?_ fun k=>.bind #[fun o=>rfl,trivial] fun _=>Pb l
    ·unfold behindIsImport;split
     ·trivial
     ·split
      ·trivial
      ·exact .bind (vD _ _) fun _=>trivial
    ·unfold keptBack;split
     ·split
      ·trivial
      ·refine .bind ?_ fun _=>trivial;exact .bind (fun l=>trivial) fun l=>trivial
     ·trivial
  ·trivial
theorem yI(e:Value)(f:Option Addr):kE (Wm e f):=by
 unfold Wm;refine .bind (vD _ _) fun a=>?_;split
 ·exact sy _ _ _
 ·trivial
theorem Us(e:Value)(env:Env):kE (xV e env):=by
 unfold xV;split
 ·refine .bind (vD _ _) fun a=>?_;have key:∀f,kE (do setField e 1 (<-akQ a (<-ajn env) .none (jz f) .none (<-ajv f (a != .none)))):=fun f=>by
   refine .bind ?_ fun b=>.bind ?_ fun p=>.bind ?_ fun n=>sy _ _ _
   ·unfold ajn frameObject;refine .bind (.bind (fun l=>trivial) fun l=>trivial) fun l=>.bind ?_ fun o=>by split <;> trivial
    split
    ·trivial
    ·exact .bind (Pb _) fun _=>trivial
   ·unfold ajv;refine .bind (fun l=>trivial) fun l=>?_;split <;> trivial
   ·unfold akQ newFields newObj;dsimp only;generalize List.toArray _=vs;split
    ·trivial
    ·exact fun _=>trivial
  split
  ·refine .bind (vD _ _) fun b=>?_;split
   ·trivial
   ·exact .bind (sy _ _ _) fun _=>key _
  ·exact key _
 ·trivial
theorem Pg(env:Env)(e:Value):kE (Wu env e):=.bind (Us _ _) fun _=>yI _ _
structure Fly(g:Heap)(H:Hp)(h:Heap)(e C T:Addr)(fl:Value)(dd:Option Addr):Prop where
 ue:H e=none
 uT:H T=none
 ge:g.get? e=none
 gT:g.get? T=none
 tr:∃oe vs oT ts a0,h.get? e=some oe/\oe.dict=dd/\(oe.cls=.ref C/\vs[0]? = some a0)/\oe.data=.fields vs/\vs[1]? = some (.ref T)/\T≠e/\h.get? T=some oT/\oT.data=.fields ts/\ts[3]? = some fl
abbrev Bare(h:Heap)(l:List Env)(hid:List Addr):Heap:=aiP h (frs l++hid)
section
variable{P:aH}{w:World}{g h h' base:Heap}{H0 H:Hp}{l:List Env}{fs hid:List Addr}{e C T:Addr}{a0 fl:Value}{dd:Option Addr}{oe0:Obj}
theorem iJ(ff:h.FunFrames base l):h.FunFrames (Bare h l hid) l:=
 PySem.W.funFrames_hide ff fun env he _ hf=>Ms _ (acj.mpr #[env,he,hf])
theorem HD(u:Un fs [] H0 H g h)(hok:HOk P w H h)(ff:h.FunFrames base l)(free:∀b∈frs l,H b=none)(sub:∀b∈frs l,b∈fs\/g.get? b=none)
  (hh:∀b∈hid,H b=none/\g.get? b=none) (ue:H e=none) (ge:g.get? e=none) (st:(Bare h l hid).StaysIn h') (up:h.UpToSlots h') (tr:h'.TracedAtW (Bare h l hid) e (.ref C) a0 fl)
  (q0:h.get? e=some oe0) (d0:oe0.dict=dd) (dk:DK h h'):Un fs [] H0 H g h'/\HOk P w H h'/\∃T,Fly g H h' e C T fl dd:=by
 have keep:∀b o,h.get? b=some o->b∉frs l->b∉hid->h'.get? b=some o:=fun b o q n1 n2=>st b o (acw _ q fun m=>(cF.mp m).elim n1 n2);have slot:∀b,b∈frs l->∀o,h.get? b=some o->∃sl,h'.get? b=some { o with slots:=sl }:=fun b hb o q=>by
  obtain⟨_,o',q',nf⟩:=ff.mem hb
  k_dat (q,q') "I"
  exact up b o q nf
 have nog:∀{b:Addr}{o:Obj},g.get? b=some o->b∉hid:=fun q z=>by rw[(hh _ z).2]at q;cases q
 have tracked:∀b v o,H b=some v->h.get? b=some o->h'.get? b=some o:=fun b v o q r =>
  keep b o r (fun z=>by rw[free b z]at q;cases q) fun z=>by rw[(hh b z).1]at q;cases q
 show#[#[fun b o q n hb hx=>?_,fun b o q n hb hx=>?_,u.free,fun b o q hx=>?_,u.tups,u.rR,u.wZ],fun b v q=>?_,?_]
 ·refine keep b o (u.keep b o q n hb hx) (fun z=>?_) (nog q);rcases sub b z with z|z
  ·exact hb z
  ·k_dat (z,q) "I"
 ·obtain⟨sl,r⟩:=u.slot b o q n hb hx;by_cases z:b∈frs l
  ·obtain⟨sl',r'⟩:=slot b z _ r;show#[sl',r']
  ·show#[sl,keep b _ r z (nog q)]
 ·obtain⟨o',r⟩:=u.there b o q hx;by_cases z:b∈frs l
  ·obtain⟨sl',r'⟩:=slot b z _ r;show#[_,r']
  ·show#[o',keep b _ r z (nog q)]
 ·refine(hok b v q).stay (fun c o hc r=>?_) (fun _ r=>r) fun _ _ r=>r;rcases hc with rfl|hc
  ·exact tracked c v o q r
  ·exact tracked c _ o hc r
 ·obtain⟨oe,vs,T,oT,ts,q1,q2,q3,q4,q5,q6,q7,q8,q9⟩:=tr;have apZ:∀o,h.get? T=some o->T∈hid:=fun o r=>by
   by_cases z:T∈frs l
   ·obtain⟨_,o',q',nf⟩:=ff.mem z
    k_dat (r,q') "I"
    obtain⟨sl,r'⟩:=slot T z o r
    k_dat (q7,r') "I"
    exact absurd q8 (nf ts)
   ·by_cases z':T∈hid
    ·exact z'
    ·have k:=acw (frs l++hid) r fun m=>(cF.mp m).elim z z'
     k_dat (q5,k) "I"
  show#[T,ue,?_,ge,?_,oe,vs,oT,ts,a0,q1,(dk.at q0 q1).trans d0,q2,q3,q4,q6,q7,q8,q9]
  ·cases r:H T with
   |none=>rfl
   |some v =>
    obtain⟨o,r'⟩:=(hok T v r).ex;rw[(hh T (apZ o r')).1]at r;cases r
  ·cases r:g.get? T with
   |none=>rfl
   |some o =>
    obtain⟨o',r'⟩:=u.there T o r (by simp);rw[(hh T (apZ o' r')).2]at r;cases r
theorem Fly.traced(x:Fly g H h e C T fl dd):∃a0,h.TracedAtW (Bare h l [e,T]) e (.ref C) a0 fl:=by
 obtain⟨oe,vs,oT,ts,a0,q1,_,q2,q3,q4,q6,q7,q8,q9⟩:=x.tr;show#[a0,oe,vs,T,oT,ts,q1,q2,q3,q4,xK _ (by simp),q6,q7,q8,q9]
theorem Fly.flying(x:Fly g H h e C T .none dd)(ff:h.FunFrames base l):∃a0,ac4 (Bare h l [e,T]) l e (.ref C) a0 h:=by
 obtain⟨a0,tr⟩:=x.traced (l:=l);show#[a0,fun b o q=>Bf _ q,xK _ (by simp),iJ ff,tr]
theorem Fly.held{L:Addr}(x:Fly g H h e C T (jz L) dd)(ff:h.FunFrames base l):∃a0,Heap.HeldW (Bare h l [e,T]) l e (.ref C) a0 L h:=by
 obtain⟨a0,tr⟩:=x.traced (l:=l);show#[a0,fun b o q=>Bf _ q,xK _ (by simp),iJ ff,tr]
theorem Fly.hidden(x:Fly g H h e C T fl dd):∀b∈[e,T],H b=none/\g.get? b=none:=fun b hb=>by
 rcases aO.mp hb with rfl|hb
 ·show#[x.ue,x.ge]
 ·have z:b=T:=by simpa using hb
  subst z;show#[x.uT,x.gT]
theorem Fly.older{g0:Heap}(x:Fly g H h e C T fl dd)(th:∀b o,g0.get? b=some o->∃o',g.get? b=some o'):Fly g0 H h e C T fl dd:=by
 have no:∀b,g.get? b=none->g0.get? b=none:=fun b n=>by
  cases q:g0.get? b with
  |none=>rfl
  |some o=>obtain⟨o',r⟩:=th b o q;rw[n]at r;cases r
 show#[x.ue,x.uT,no _ x.ge,no _ x.gT,x.tr]
end
section
variable{M:Model}{A:aP}{E:Value->Shared->Prop}{s:Shared}
theorem HF{base:Heap}{env:Env}{outer:List Env}{L e:Addr}{cls a0 fl:Value}{Q:Unit->Shared->Prop}(hfr:A.frames=some (env::outer))(hl:s.heap.FunFrames base (env::outer))(hf:env.frame=some L)(ht:s.heap.TracedAtW base e cls a0 fl)
  (hkb:base.StaysIn s.heap) (hen:base.get? e=none) (h:∀h',ajA base (env::outer) e cls a0 (jz L) s.heap h'->DK s.heap h'->Q () { s with heap:=h' }):wpAny M A (xV (.ref e) env) Q E s:=by
 suffices key:wpAny M A (xV (.ref e) env) (fun _ s'=>∃h',s'={ s with heap:=h' }/\ajA base (env::outer) e cls a0 (jz L) s.heap h') E s from
  dH (yH (Us _ _) key) (fun _ s' z=>by obtain⟨⟨h',rfl,x⟩,d⟩:=z;exact h h' x d) fun _ _ z=>z
 by_cases z:fl=jz L
 ·subst z;exact wpAny_noteFrame_againW hf ht #[s.heap,rfl,hkb,hl,ht,fun b o q _=>#[o.slots,q]]
 ·obtain⟨oe,vs,T,oT,ts,he,⟨hcls,h0⟩,hd,h1,hnT,hTe,hT,hdT,h3⟩:=ht;subst hcls;unfold xV;simp only[hf];refine aA (jt he hd h1 ?_);rw[if_pos (by simp)];refine aA (jt hT hdT h3 ?_);rw[if_neg (by simpa using z)];refine aA (aje hT hdT (Oa.mp h3).1 ?_);have oth:∀b,b≠T->(s.heap.update T (Hj (·.setIfInBounds 3 Value.none))).get? b=s.heap.get? b:=fun b nb=>mO _ _ (aL nb);have nr:∀b o,s.heap.get? b=some o->(∀vs,o.data≠.fields vs)->b≠T:=fun b o q n y=>by rw[y,hT]at q;cases q;exact n ts hdT
  exact wpAny_entryW hfr (hl.of_keeps fun b o q n=>#[o,(oth b (nr b o q n)).trans q,rfl]) hf ((oth e (aL hTe)).trans he) (fun b o q=>(oth b fun y=>by rw[y,hnT]at q;cases q).trans (hkb b o q)) hen hd (Oa.mp h1).1 h0
   fun h' ⟨x1,x2,x3,x4⟩=>#[h',rfl,x1,x2,x3,fun b o q n=>x4 b o ((oth b (nr b o q n)).trans q) n]
theorem aes{base:Heap}{env:Env}{outer:List Env}{L e:Addr}{cls a0 fl:Value}{Q:Unit->Shared->Prop}(hfr:A.frames=some (env::outer))(hl:s.heap.FunFrames base (env::outer))(hf:env.frame=some L)(ht:s.heap.TracedAtW base e cls a0 fl)
  (hkb:base.StaysIn s.heap) (hen:base.get? e=none) (h:∀h',base.StaysIn h'->s.heap.UpToSlots h'->h'.TracedAtW base e cls a0 .none->DK s.heap h'->Q () { s with heap:=h' }):wpAny M A (Wu env (.ref e)) Q E s:=by
 suffices key:wpAny M A (Wu env (.ref e)) (fun _ s'=>∃h',s'={ s with heap:=h' }/\base.StaysIn h'/\s.heap.UpToSlots h'/\h'.TracedAtW base e cls a0 .none) E s from
  dH (yH (Pg _ _) key) (fun _ s' z=>by obtain⟨⟨h',rfl,x,y,t⟩,d⟩:=z;exact h h' x y t d) fun _ _ z=>z
 refine aA (HF hfr hl hf ht hkb hen fun h1 ⟨x1,x2,x3,x4⟩ _=>?_);exact wpAny_setFlight_noneW (s:={ s with heap:=h1 }) x1 x2 x3 fun h2 y1 y2 y3 y4=>#[h2,rfl,y1,arA x4 fun b o q n=>#[o.slots,y4 b o q n],y3.at]
end
def CXE(P:aH)(w:World):CXT:=fun outer H s E ev s'=>∃e C T dd fl H',ev=.ref e/\s'.os=s.os/\rD s'.gens/\Un (frs outer) [] H H' s.heap s'.heap/\HOk P w H' s'.heap/\Fly s.heap H' s'.heap e C T fl dd/\E (.ref C) dd H'
theorem aeu{P:aH}{w:World}{X:Cx}:Passes (CXE P w) X E0:=fun _ _ _ _ _ _ _ ⟨_,_,_,_,_,_,_,_,_,_,_,_,z⟩=>z.elim
section
variable{P:aH}{w:World}{K:aG}{mg:Str->Option Value}{base:Heap}{N:List Str}{qual:Str}{scope:Scope}{f:Addr}{cd:Value}{A:aP}{outer:List Env}{s:Shared}{H:Hp}{E:XK}
def XW(X:Cx)(E:XK):Prop:=∀(pins:List (Addr × Obj)) (σ:St) (H':Hp) (s':Shared) (e C T:Addr) (fl:Value) (dd:Option Addr),Inv X pins σ H' s'->Fly X.s₀.heap H' s'.heap e C T fl dd->E (.ref C) dd H'->X.xe (.ref e) s'
theorem XW.passes{X:Cx}(h:XW X E)(hx:X.ex=[]):Passes (CXE X.prog X.w) X E:=fun pins σ H s ev s' I z=>by
 obtain⟨e,C,T,dd,fl,H',rfl,os,bare,u,hok,fly,hE⟩:=z;exact h pins σ H' s' e C T fl dd (I.call' (ch:=[]) os u hok bare (by simp)) (fly.older fun b o q=>I.base.there b o q (by rw[hx];simp)) hE
theorem xwUp:XW (kj (CXE P w) P w K mg base N qual scope f cd A outer s H E) E:=by
 intro pins σ H' s' e C T fl dd I fly hE;have fly0:Fly s.heap H' s'.heap e C T fl dd:=fly;obtain⟨oe,_,_,_,_,qe,qd,_⟩:=id fly.tr;obtain⟨a0,tr⟩:=fly.traced (l:=fQ qual scope s.heap.objs.size f cd::outer);refine aes (base:=Bare s'.heap (fQ qual scope s.heap.objs.size f cd::outer) [e,T]) I.ok.frames (iJ I.stack) rfl tr (fun b o q=>Bf _ q) (xK _ (by simp)) fun h' x1 x2 x3 dk=>?_;have sub:∀b∈frs (fQ qual scope s.heap.objs.size f cd::outer),b∈frs outer\/s.heap.get? b=none:=fun b hb=>by
  rcases aO.mp (I.Hu b hb)with z|z
  ·refine .inr ?_;rw[z];exact WK I.ok.above
  ·exact .inl z
 obtain⟨r1,r2,T',r3⟩:=HD (g:=s.heap) (H0:=H) (fs:=frs outer) (l:=fQ qual scope s.heap.objs.size f cd::outer) I.base I.hok I.stack I.zJ sub fly0.hidden fly0.ue fly0.ge x1 x2 x3 qe qd dk;show#[e,C,T',dd,.none,H',rfl,I.os,I.bare,r1,r2,r3,hE]
theorem aev:Passes (CXE P w) (kj (CXE P w) P w K mg base N qual scope f cd A outer s H E) E:=xwUp.passes rfl
theorem Fun.okE{x:Str}{st:Stmt}{fd:FuncData}{ps:List Str}{k:Nat}{sp:Sp}(F:Fun K x qual st f fd)(S:aF N ps (aq st))(len:∀vs H Q E,sp vs H Q E->vs.length=ps.length)
  (hbody:∀ (cdv:Value) (A:aP) (outer:List Env) (s:Shared) (H:Hp) (vs:List V) (Q:VK) (E:XK),fV k (A.deeper (fQ qual (aq st) s.heap.objs.size f cdv))->sp vs H Q E ->
   ∃ t,PSs (kj (CXE P w) P w K mg base N qual (aq st) f cdv A outer s H E) (gQ st) t/\t { nx:=fun _ H'=>Q .non H',rt:=Q } (start N vs) H):nA P w K mg base (CXE P w) (k+1) f fd ps sp:=by
 obtain⟨oc,od,kV,doc,pm,an,cdv,ct,osl,rfl,lk,hcd⟩:=F.ex;exact apR lk hcd S len fun A outer s H vs Q E hr hsp=>hbody cdv A outer s H vs Q E hr hsp
end
theorem PS.nox{X:Cx}{st:Stmt}{t:TS}(h:PS X.nox st t):PS X st t:=fun pins s σ H D I hw =>
 dH (h pins s σ H D (I.wish _) hw) (fun _ _ q=>q.iC) fun _ _ z=>gH z
def XP(X:Cx)(pins:List (Addr × Obj))(σ:St)(E:XK)(ev:Value)(s':Shared):Prop:=∃s0 H0,Inv X pins σ H0 s0/\CXE X.prog X.w X.stack H0 s0 E ev s'
abbrev TX:=St->Hp->VK->XK->Prop
def PX(X:Cx)(e:Expr)(t:TX):Prop:=
 ∀(pins:List (Addr × Obj)) (s:Shared) (σ:St) (H:Hp) (Q:VK) (E:XK),Inv X pins σ H s->t σ H Q E->wpAny (model X.prog X.w) X.A (eval e X.env) (EP X pins σ Q) (XP X pins σ E) s
@[reducible] def xCall(sp:Sp)(dvs:List V)(t:TA):TX:=fun σ H Q E=>t σ H fun vs H1=>sp (vs++dvs) H1 Q E
section
variable{X:Cx}{k:Nat}{f C:Addr}{fd:FuncData}{ps:List Str}{sp:Sp}{dvs:List V}{ds:List Value}{x m:Str}{p pos apos:Pos}{e o:Expr}{es:List Expr}{ta:TE}{t:TA}
theorem aoA{pins:List (Addr × Obj)}{σ:St}{H:Hp}{s:Shared}{Q:VK}{E:XK}{us:List Value}{vs:List V}(F:nA X.prog X.w X.K X.mg X.base (CXE X.prog X.w) k f fd ps sp)(hr:fV k X.A)(hb:Binds X.K fd ps ds)(hd:Vals dvs ds)
  (I:Inv X pins σ H s) (r:Vals vs us) (h:sp (vs++dvs) H Q E):wpAny (model X.prog X.w) X.A (call (.ref f) us) (EP X pins σ Q) (XP X pins σ E) s:=by
 have r2:Vals (vs++dvs) (us++ds):=r.append hd;have hl:(us++ds).length=ps.length:=by rw[<-r2.length];exact F.len _ _ _ _ h
 refine nR (Gk (F.run X.A X.stack s H #[us,[]] (us++ds) (vs++dvs) Q E hr I.env0 (hb s us I.kIn hl) r2 h) fun r s' hq=>?_);cases r with
 |error e=>show#[s,H,I,hq]
 |ok fl =>
  cases fl with
  |ret u=>exact I.after hq
  |next=>exact gH hq
  |brk=>exact gH hq
  |cont=>exact gH hq
theorem aoB(F:nA X.prog X.w X.K X.mg X.base (CXE X.prog X.w) k f fd ps sp)(hr:fV k X.A)(hg:Gl X x)(hm:X.mg x=some (.ref f))(hk:nP X.K (.ref f)=true)(hb:Binds X.K fd ps ds)(hd:Vals dvs ds)
  (ha:PA X.nox (e::es) t) (hdb:(x == ("__debug__" : Str))=false:=by decide) (he:aZ (e::es) X.env=(false,eval e X.env)::aZ es X.env:=by rfl) (hpl:(cY pos (aZ es X.env)).any (·.1)=false:=by rfl):
  PX X (.Call (.Name x p) (e::es) [] pos) (xCall sp dvs t):=by
 intro pins s σ H Q E I h;refine Aa (qM I hg hm ?_ hdb);refine MJ (h₀:=X.base) I.ok.mod.kin hk (dH (ha pos pins s σ H _ (I.wish _) h) (fun us s1 ⟨vs,H1,I1,r,q⟩=>#[I1.iC.kIn,?_]) fun _ _ z=>z.elim) he hpl;exact aoA F hr hb hd I1.iC r q
end
def Cm(e C:Addr)(dd:Option Addr):HO:=.ext fun h=>∃o,h.get? e=some o/\o.cls=.ref C/\o.dict=dd/\∃vs,o.data=.fields vs
structure Catch(K:aG)(C B:Addr):Prop where
 sub:jZ K C (.ref B)=some true
 exc:jZ K B (.type "BaseException")=some true
 ty:Bh K (.ref B)=some (.type "type")
theorem Ph{K:aG}{C B:Addr}{r q:Bool}{v:Value}(hs:jZ K C (.ref B)=some r)(hx:jZ K B v=some q)(ht:Bh K (.ref B)=some (.type "type")):V0 K (.ref C) (.ref B)=some r:=by
 have h1:(V2 K B).isSome=true:=by
  cases e:V2 K B with
  |none=>unfold jZ at hx;rw[e]at hx;cases hx
  |some cd=>rfl
 unfold V0;simp only[h1,ht];exact hs
theorem Catch.kit{K:aG}{C B:Addr}(c:Catch K C B):V0 K (.ref C) (.ref B)=some true:=Ph c.sub c.exc c.ty
theorem ahf{M:Model}{A:aP}{E:Value->Shared->Prop}{s:Shared}{K:aG}{e C B:Addr}{oe:Obj}{Q:Bool->Shared->Prop}(kin:K.In s.heap)(c:Catch K C B)(he:s.heap.get? e=some oe)(hc:oe.cls=.ref C)(h:Q true s):
  wpAny M A (excMatches (.ref e) (.ref B)) Q E s:=by
 obtain⟨hh,g,d,t,os⟩:=s;obtain⟨L1,L2,L3⟩:=aiR (M:=M) kin c.kit;have L4:=VH (M:=M) kin c.exc;have L5:uM M hh (isSubtype (.type "type") (.type "tuple")) false:=PySem.W.looks_subIn (t:=.type "type") (base:=.type "tuple") (r:=false) kin (show(ajd "type").map (·.contains (.type "tuple"))=some false by decide +kernel);have L6:uM M hh (Wk (.ref B) (.type "tuple")) false:=L1.andThen L5;have L7:uM M hh (WD (.ref e)) (.ref C):=hc ▸ (akF he).andThen .now;unfold excMatches;refine aA (L6.at ?_);rw[if_neg d9];refine aA (aK ?_);unfold isExcClass;simp only[Mw,List.forIn_nil];refine aA (aA (aA (aA (L2.at ?_))));rw[if_pos rfl];refine L4.at ?_;simp only[Bool.not_true,Nz,if_false];refine aK ?_;refine aK ?_;refine aA (L7.at ?_);refine aA (aA (aA (L3.at ?_)));rw[if_pos rfl];exact aK (aK (aK h))
def Cx.marked(X:Cx)(e:Addr):Cx:={ X with A:=X.A.mark (some (.ref e)),calm:=false,xe:=fun _ _=>False }
section
variable{X:Cx}{pins:List (Addr × Obj)}{σ:St}{H:Hp}{s:Shared}
theorem Inv.marked(I:Inv X pins σ H s)(e:Addr):Inv (X.marked e) pins σ H s:=
 #[#[I.ok.mod,I.ok.kind,I.ok.glob,I.ok.blt,I.ok.above,I.ok.inj,I.ok.has,I.ok.cab,(fun z=>by cases z),I.ok.frames,I.ok.stk,I.ok.exf,I.ok.bs,I.ok.bsz,I.ok.adZ,I.ok.agY,I.ok.Cg,I.ok.frf],I.os,I.bare,I.base,I.loc,I.cell,I.free,I.qK,I.pin,I.hok,I.len]
theorem Inv.unmarked{e:Addr}(hd:X.calm=true->X.A.handled=none)(I:Inv (X.marked e) pins σ H s):Inv X pins σ H s:=
 #[#[I.ok.mod,I.ok.kind,I.ok.glob,I.ok.blt,I.ok.above,I.ok.inj,I.ok.has,I.ok.cab,hd,I.ok.frames,I.ok.stk,I.ok.exf,I.ok.bs,I.ok.bsz,I.ok.adZ,I.ok.agY,I.ok.Cg,I.ok.frf],I.os,I.bare,I.base,I.loc,I.cell,I.free,I.qK,I.pin,I.hok,I.len]
theorem Ma{M:Model}{A:aP}{E:Value->Shared->Prop}{i:Nat}{n:Str}{pos:Pos}{Q:Unit->Shared->Prop}(I:Inv X pins σ H s)(hN:X.N.Nodup)(hi:X.N[i]? = some n)(hl:X.env.scope.names.lookup n=some .local)
  (h:∀s',Inv X pins (σ.set i none) H s'->Q () s'):wpAny M A (do bindName X.env n .none;unbindBehindTheSuite X.env n pos) Q E s:=by
 obtain⟨m,hn,hlk⟩:=id I.loc;have hcls:(X.env.scope.kind == .class || (X.env.scope.kind == .module && X.env.locals != X.env.globals))=false:=by rw[I.ok.kind];rfl
 have hiσ:i<σ.length:=by rw[I.len];exact(fu.mp hi).1
 have cne:=I.cne;refine wpAny_nameGoes_keeps hl hn hcls fun h' v hn' hs=>h _ ?_;have away:∀b o,X.s₀.heap.get? b=some o->h'.get? b=s.heap.get? b:=fun b o e=>hs.2 b (bR (dI (aR e) I.ok.above));show#[I.ok,I.os,I.bare,#[fun b o e n hb hx=>?_,fun b o e n hb hx=>?_,I.base.free,fun b o e hx=>?_,I.base.tups,I.base.rR,I.base.wZ],#[_,hn',fun j y v' e1 e2 e3=>?_],fun y c e=>?_,I.free,I.qK,fun p hp=>?_,fun b ob e=>?_,by simpa using I.len]
 ·exact(away b o e).trans (I.base.keep b o e n hb hx)
 ·obtain⟨sl,e1⟩:=I.base.slot b o e n hb hx;show#[sl,(away b o e).trans e1]
 ·obtain⟨o',e1⟩:=I.base.there b o e hx;show#[o',(away b o e).trans e1]
 ·by_cases hj:j=i
  ·subst hj;rw[Mq hiσ]at e2;cases e2
  ·rw[Dh (aL hj)]at e2;obtain⟨u',r',q⟩:=hlk j y v' e1 e2 e3;show#[u',r',?_];rcases q with⟨k,e⟩|⟨k,c,e,z⟩
   ·refine .inl #[k,?_];have:y≠n:=fun e=>hj (Ow hN e1 (e ▸ hi));simp[this,e]
   ·exact .inr #[k,c,e,z.sameBut hs (cne y c e)]
 ·obtain⟨w',z⟩:=I.cell y c e;show#[w',z.sameBut hs (cne y c e)]
 ·obtain⟨e,n,ne,nf,d⟩:=I.pin p hp;show#[(hs.2 p.1 ne).trans e,n,ne,nf,d]
 ·refine(I.hok b ob e).stay (fun c w' hc q=>(hs.2 c ?_).trans q) (fun _ q=>q) fun _ _ q=>q;rintro rfl;rcases hc with rfl|hc
  ·k_dat (I.free,e) "I"
  ·k_dat (I.free,hc) "I"
end
def drops(i:Nat)(D:Ends):Ends:={ nx:=fun σ H=>D.nx (σ.set i none) H,rt:=D.rt,bk:=fun σ H=>D.bk (σ.set i none) H,ct:=fun σ H=>D.ct (σ.set i none) H }
theorem Un.track{fs:List Addr}{H0 H:Hp}{g h:Heap}{e:Addr}{o:HO}(u:Un fs [] H0 H g h)(ue:H e=none)(ge:g.get? e=none):Un fs [] H0 (upd H e o) g h where
 keep:=u.keep
 slot:=u.slot
 free:=fun b ob q n hx=>by rw[ao (fun z=>by rw[z,ge]at q;cases q)];exact u.free b ob q n hx
 there:=u.there
 tups:=fun b xs q=>by rw[ao (ak (u.tups b xs q) ue)];exact u.tups b xs q
 rR:=fun b ob v q=>by rw[ao (ak (u.rR b ob v q) ue)];exact u.rR b ob v q
 wZ:=fun b ps q=>by
  obtain⟨m,r⟩:=u.wZ b ps q;show#[m,by rwa[ao (ak r ue)]]
section
variable{X:Cx}{i:Nat}{n x:Str}{np hpos pos:Pos}{B:Addr}{b₀:Stmt}{suite:List Stmt}{th:TS}
theorem ahg{pins:List (Addr × Obj)}{σ:St}{D:Ends}{ev:Value}{s1:Shared}(hst:X.stack=X.env::X.outer)(hfr:X.env.frame=some X.env.locals)(hg:Gl X x)(hm:X.mg x=some (.ref B))(hN:X.N.Nodup)(hi:X.N[i]? = some n)
  (hl:X.env.scope.names.lookup n=some .local) (hs:∀e,PSs (X.marked e) (b₀::suite) th) (hdb:(x == ("__debug__" : Str))=false)
  (hx:XP X pins σ (fun cls dd H1=>∃C,cls=.ref C/\Catch X.K C B/\∀e,H1 e=none->th (drops i D) (σ.set i (some (.ref e))) (upd H1 e (Cm e C dd))) ev s1):
  wpAny (model X.prog X.w) X.A (xV ev X.env) (fun _ s2=>wpAny (model X.prog X.w) X.A (Wm ev none) (fun _ s3=>wpAny (model X.prog X.w) X.A (handleBy ev X.env [.ExceptHandler (some (.Name x np)) (some n) (b₀::suite) hpos]) (SP X pins D) X.xe s3) X.xe s2) X.xe s1:=by
 obtain⟨s0,H0,I0,e,C,T,dd,fl,H',rfl,os,bare,u,hok,fly,C2,eC,cat,hth⟩:=hx;cases eC;have sub:∀b∈frs (X.env::X.outer),b∈frs X.stack\/s0.heap.get? b=none:=fun b hb=>.inl (by rwa[hst]);have fre:∀b∈frs (X.env::X.outer),H' b=none:=fun b hb=>(I0.call' (ch:=[]) os u hok bare (by simp)).zJ b (by rwa[hst]);have XH:∀{h:Heap},Un (frs X.stack) [] H0 H' s0.heap h->HOk X.prog X.w H' h->h.FunFrames X.base (X.env::X.outer):=fun {h} u' hok'=>by
  have:=(I0.call' (ch:=[]) (s':={ s1 with heap:=h }) os u' hok' bare (by simp)).stack;rwa[hst]at this
 have hA:X.A.frames=some (X.env::X.outer):=by rw[I0.ok.frames,hst]
 obtain⟨oe0,_,_,_,_,qe,qd,_⟩:=id fly.tr;obtain⟨a0,tr⟩:=fly.traced (l:=X.env::X.outer);refine HF (base:=Bare s1.heap (X.env::X.outer) [e,T]) hA (iJ (XH u hok)) hfr tr (fun b o q=>Bf _ q) (xK _ (by simp)) fun h2 ⟨x1,_,x3,x2⟩ dk=>?_;obtain⟨u2,al7,T2,HJ⟩:=HD u hok (XH u hok) fre sub fly.hidden fly.ue fly.ge x1 x2 x3 qe qd dk;obtain⟨a2,hh2⟩:=HJ.held (XH u2 al7);obtain⟨oe0,_,_,_,_,qe,qd,_⟩:=id HJ.tr;refine dH (yH (yI _ _) (wpAny_landsW (s:={ s1 with heap:=h2 }) (Q:=fun _ s3=>∃h',s3={ s1 with heap:=h' }/\ac4 (Bare h2 (X.env::X.outer) [e,T2]) (X.env::X.outer) e (.ref C) a2 h'/\h2.UpToSlots h') hh2 fun h' x1 x2=>#[h',rfl,x1,x2])) (fun _ s3 z=>?_) fun _ _ z=>z;obtain⟨⟨h3,rfl,x1,x2⟩,dk⟩:=z;obtain⟨u3,hok3,T3,al8⟩:=HD u2 al7 (XH u2 al7) fre sub HJ.hidden HJ.ue HJ.ge x1.1 x2 x1.2.2.2.at qe qd dk;have I3:=I0.call' (ch:=[]) (s':={ s1 with heap:=h3 }) os u3 hok3 bare (by simp);refine wpAny_handleBy_cons (codeAny_handlers_test (qM (X:=X.marked e) (I3.marked e) hg hm ?_ hdb)) (by intro q;cases q);obtain⟨oe,_,_,_,_,q1,qd,q2,_⟩:=id al8.tr;refine ahf I3.kIn cat q1 q2.1 ?_;show fY _ _ (.handlers (.ref e) [.ExceptHandler none (some n) (b₀::suite) hpos] X.env) _ _;refine codeAny_handlers_suite_as ?_;obtain⟨a3,hfl3⟩:=al8.flying (XH u3 hok3);refine dH (yH ?mld (lands_againW (s:={ s1 with heap:=h3 }) (Q:=fun _ s3=>∃h',s3={ s1 with heap:=h' }/\ac4 (Bare h3 (X.env::X.outer) [e,T3]) (X.env::X.outer) e (.ref C) a3 h'/\h3.UpToSlots h') hfl3 fun h' x1 x2=>#[h',rfl,x1,x2])) (fun _ s3 z=>?_) fun _ _ z=>z
 case mld=>exact yI _ _
 obtain⟨⟨h4,rfl,x1,x2⟩,dk⟩:=z;obtain⟨u4,hok4,T4,al9⟩:=HD u3 hok3 (XH u3 hok3) fre sub al8.hidden al8.ue al8.ge x1.1 x2 x1.2.2.2.at q1 qd dk;obtain⟨oe4,vs4,_,_,_,q41,q4d,q42,q43,_⟩:=al9.tr;have hok5:HOk X.prog X.w (upd H' e (Cm e C dd)) h4:=hok4.O6 (fun _ _ q=>q) al9.ue
  #[#[oe4,q41,q42.1,q4d,vs4,q43],#[oe4,q41],fun k1 k2 ⟨o,r1,r2⟩ r=>#[o,r o r1,r2]]
 have I5:=I0.call' (ch:=[]) (s':={ s1 with heap:=h4 }) os (u4.track (o:=Cm e C dd) al9.ue al9.ge) hok5 bare (by simp);refine Ox (X:=X.marked e) (v:=.ref e) (I5.marked e) hN hi (.inl hl) rfl (fun s6 I6=>?_) (.inr hl);refine dH (hs e pins s6 _ _ (drops i D) I6 (hth e al9.ue)) (fun f s7 q=>?_) fun _ _ z=>z.elim;cases f with
 |next =>
  obtain⟨σ7,H7,I7,q7⟩:=q;exact Ma (I7.unmarked I0.ok.hd) hN hi hl fun s8 I8=>#[_,H7,I8,q7]
 |brk =>
  obtain⟨σ7,H7,I7,q7⟩:=q;exact Ma (I7.unmarked I0.ok.hd) hN hi hl fun s8 I8=>#[_,H7,I8,q7]
 |cont =>
  obtain⟨σ7,H7,I7,q7⟩:=q;exact Ma (I7.unmarked I0.ok.hd) hN hi hl fun s8 I8=>#[_,H7,I8,q7]
 |ret u =>
  obtain⟨v,σ7,H7,I7,r7,q7⟩:=q;exact Ma (I7.unmarked I0.ok.hd) hN hi hl fun s8 I8=>#[v,_,H7,I8,r7,q7]
def tTry(K:aG)(tc:TX)(nx:V->St->St)(i:Nat)(B:Addr)(th:TS):TS:=fun D σ H=>tc σ H (fun v H1=>D.nx (nx v σ) H1)
 fun cls dd H1=>∃C,cls=.ref C/\Catch K C B/\∀e,H1 e=none->th (drops i D) (σ.set i (some (.ref e))) (upd H1 e (Cm e C dd))
theorem aoC{ce:Expr}{epos:Pos}{tc:TX}(hst:X.stack=X.env::X.outer)(hfr:X.env.frame=some X.env.locals)(hg:Gl X x)(hm:X.mg x=some (.ref B))(hN:X.N.Nodup)(hi:X.N[i]? = some n)
  (hl:X.env.scope.names.lookup n=some .local) (hc:PX X ce tc) (hs:∀e,PSs (X.marked e) (b₀::suite) th) (hsw:xU ce none epos.line X.env=pure false:=by rfl) (hdb:(x == ("__debug__" : Str))=false:=by decide):
  PS X (.Try [.Expr ce epos] [.ExceptHandler (some (.Name x np)) (some n) (b₀::suite) hpos] [] [] pos) (tTry X.K tc (fun _ σ=>σ) i B th):=by
 walk_at "H"
 have key:wpAny (model X.prog X.w) X.A (exec (.Expr ce epos) X.env) (fun f s1=>f=.next/\∃H1,Inv X pins σ H1 s1/\D.nx σ H1) (XP X pins σ _) s:=
  ai9 (dH (hc pins s σ H _ _ I h) (fun v s1 ⟨x,H1,I1,r1,q1⟩=>#[rfl,H1,I1,q1]) fun _ _ z=>z) I.quiet hsw
 refine wpAny_Try_except (acN (dH key (fun f s1 ⟨ef,H1,I1,q1⟩=>?_) fun ev s1 hx=>?_))
 ·subst ef;exact Gi (Gi #[σ,H1,I1,q1])
 ·exact ahg hst hfr hg hm hN hi hl hs hdb hx
end
def aaE(cells:List (Str × Addr)):List (Str × Addr)->Prop
 |[]=>True
 |p::r=>cells.lookup p.1=some p.2/\aaE cells r
theorem aaE.of{cells:List (Str × Addr)}:∀{cl:List (Str × Addr)} {y:Str} {c:Addr},aaE cells cl->cl.lookup y=some c->cells.lookup y=some c
 |[],_,_,_,h=>by cases h
 |p::r,y,c,hs,h=>by
  obtain⟨n,a⟩:=p;rw[aco]at h;by_cases e:y=n
  ·subst e;rw[beq_self_eq_true]at h;cases h;exact hs.1
  ·rw[beq_eq_false_iff_ne.mpr e]at h;exact aaE.of hs.2 h
@[reducible] def bY(X:Cx)(N:List Str)(scope:Scope)(cl:List (Str × Addr))(s:Shared)(H:Hp)(fp:List Addr)(C:Addr):Cx where
 prog:=X.prog
 w:=X.w
 K:=X.K
 mg:=X.mg
 base:=X.base
 A:=X.A
 N:=N
 s₀:=s
 H₀:=H
 env:=Wt scope cl C X.env
 outer:=X.stack
 stack:=X.stack
 ex:=fp
 fn:=fun _=>false
 calm:=X.calm
 pn:=[]
 xe:=fun _ _=>False
structure aaF(X:Cx)(N:List Str)(scope:Scope)(cl:List (Str × Addr))(i j:Nat):Prop where
 ok:∃y c,N[i]? = some y/\X.N[j]? = some y/\(X.env.kindOf y=some .cell\/X.env.kindOf y=some .free)/\((jy scope X.env).names.lookup y=some .cell\/(jy scope X.env).names.lookup y=some .free)/\cl.lookup y=some c
def yJ(σ:St)(x:Option V)(caps:List Nat):St:=x::caps.map fun j=>(σ[j]?).join
def nF(σ:St)(zs:List (Option V))(caps:List Nat):St:=zs++caps.map fun j=>(σ[j]?).join
def pB(J:It)(g:TG)(k:Nat)(caps:List Nat)(tt:TT)(te:TE)(σ:St)(D:Addr)(Q:VK)(H1:Hp):Prop:=∃W:Nat->Nat->List V->Hp->Prop,(∃m,W 0 m [] (upd H1 D (.lst [])))/\∀i m ys H,W i m ys H ->
 H D=some (.lst ys)/\((J.stop i H/\Q (.ref D) H)\/(J.go i H/\ys.length<sizeLine/\∀ x H',J.yld i H x H'->∀ zs:List (Option V),zs.length=k->g x (nF σ zs caps) H' fun σ2 H2=>(∃ zs':List (Option V),zs'.length=k/\σ2=nF σ zs' caps)/\tt σ2 H2 fun b H3=>if b=true then
  te σ2 H3 fun y H4=>H4 D=some (.lst ys)/\∃m',m'<m/\W (i+1) m' (ys++[y]) (upd H4 D (.lst (ys++[y])))
  else H3 D=some (.lst ys)/\∃ m',m'<m/\W (i+1) m' ys H3))
def aso(wi:TI)(g:TG)(k:Nat)(caps:List Nat)(tt:TT)(te:TE):TE:=fun σ H Q=>wi σ H fun J H1=>∀D,H1 D=none->pB J g k caps tt te σ D Q H1
section
variable{X:Cx}{pins:List (Addr × Obj)}{σ:St}{H:Hp}{s:Shared}
theorem Inv.compT{k:Nat}{N:List Str}{scope:Scope}{cl:List (Str × Addr)}{fp:List Addr}{caps:List Nat}{h4:Heap}{D C:Addr}{tk:Nat}(I:Inv X pins σ H s)(hkind:scope.kind=.function)(hsub:aaE X.env.cells cl)
  (hhas:∀y,((jy scope X.env).names.lookup y=some .cell\/(jy scope X.env).names.lookup y=some .free)->∃c,cl.lookup y=some c) (hf:∀b∈fp,Ci X pins H b) (hfo:∀b∈fp,∃o,s.heap.get? b=some o)
  (hlen:N.length=k+caps.length) (hcap:∀(i:Nat)(j:Nat),caps[i]? = some j->aaF X N scope cl (i+k) j) (hD:s.heap.objs.size<=D) (hC:s.heap.objs.size<=C) (hDC:C≠D)
  (hk:∀b o,s.heap.get? b=some o->h4.get? b=some o) (hlist:∃n,h4.get? D=some { cls:=.type "list",data:=.seq #[] n }) (hns:∃m,h4.Ns C m):
  Inv (bY X N scope cl s H fp C) (X.pn++pins) (nF σ (gY k none) caps) (upd H D (.lst [])) { s with heap:=h4,toks:=tk }:=by
 have hnD:H D=none:=I.hok.fresh hD;have hnC:H C=none:=I.hok.fresh hC;have lt:∀b o,s.heap.get? b=some o->b≠D/\b≠C:=fun b o e=>#[bR (dI (aR e) hD),bR (dI (aR e) hC)];have nst:∀b,b≠X.env.locals->b∉X.fs->b∉frs X.stack:=fun b h1 h2 z=>by
  rcases aO.mp (I.Hu b z)with e|e
  ·exact h1 e
  ·exact h2 e
 show#[#[I.ok.mod,hkind,I.ok.glob,I.ok.blt,hC,fun x y c h1 h2=>I.ok.inj x y c (hsub.of h1) (hsub.of h2),fun y hy=>hhas y hy,fun y c h=>(nomatch h),I.ok.hd,I.ok.frames,.inl rfl,fun b hb=>?_,I.bs,bQ I.ok.bsz I.sz,fun b o e hb=>?_,fun b hb=>?_,I.stack,I.zJ],
  rfl,I.bare,Un.laid hk hD hnD,?_,fun y c e=>?_,?_,fun y c e=>?_,fun p hp=>?_,?_,?_]
 ·obtain⟨o,e⟩:=hfo b hb;show#[(lt b o e).2,fun x c q=>(hf b hb).2.2.2.2.1 x c (hsub.of q)]
 ·rcases(hf b hb).2.2.2.1 with z|z
  ·exact I.ok.adZ b o e z
  ·exact absurd (dI (aR e) I.ok.bsz) (ajH.mpr z)
 ·exact nst b (hf b hb).2.1 (hf b hb).2.2.1
 ·obtain⟨m,hm⟩:=hns;obtain⟨m0,_,hl⟩:=I.loc;show#[m,hm,fun i y v h1 h2 h3=>?_];have h2a:(gY k (none:Option V)++caps.map fun j=>(σ[j]?).join)[i]? = some (some v):=h2;by_cases hik:i<k
  ·rw[tK (by rwa[Df]),ah8,if_pos hik]at h2a;cases h2a
  ·rw[xr (by rw[Df];lia),Df]at h2a;obtain⟨i',rfl⟩:∃i',i=i'+k:=#[i-k,by lia];rw[Nat.add_sub_cancel]at h2a;have h2':=h2a;rw[dF]at h2';cases ec:caps[i']? with
   |none=>rw[ec]at h2';cases h2'
   |some j =>
    rw[ec]at h2';have h2'':(σ[j]?).join=some v:=bN h2';have e2:σ[j]? = some (some v):=by
     cases q:σ[j]? with
     |none=>rw[q]at h2'';cases h2''
     |some z=>rw[q]at h2'';exact congrArg some h2''
    obtain⟨y',c,n1,n2,k1,k2,lc⟩:=(hcap i' j ec).ok;have ey:y=y':=by
     have h1':N[i'+k]? = some y:=h1;rw[n1]at h1';exact(bN h1').symm
    subst ey;have vis:Vis X.env.scope y:=k1.elim (fun z=>.inr (.inl z)) fun z=>.inr (.inr z);obtain⟨u,ru,lk⟩:=hl j y v n2 e2 vis;show#[u,ru,.inr #[k2,c,lc,?_]];rcases lk with⟨z,_⟩|⟨_,c',lc',ic⟩
    ·rcases k1 with k1|k1 <;> (rw[z]at k1;cases k1)
    ·rw[hsub.of lc]at lc';cases lc';obtain⟨o,ho,hd⟩:=ic;show#[o,hk c o ho,hd]
 ·obtain⟨v,o,ho,hd⟩:=I.cell y c (hsub.of e);show#[v,o,hk c o ho,hd]
 ·show(upd H D (.lst [])) C=none;rwa[ao hDC]
 ·have n:=I.qK y c (hsub.of e);obtain⟨v,o,ho,hd⟩:=I.cell y c (hsub.of e);rwa[ao (lt c o ho).1]
 ·have hp':p∈X.pn++pins:=hp;obtain⟨e,n,ne,nf,d⟩:=I.pin p hp';show#[hk _ _ e,by rwa[ao (lt _ _ e).1],(lt _ _ e).2,nst _ ne nf,d]
 ·obtain⟨n,e⟩:=hlist;exact I.hok.laid hk hD #[cJ _,[],n,.nil,e]
 ·show(nF σ (gY k none) caps).length=N.length;unfold nF;rw[bB,Df,aC,hlen]
theorem Inv.XM{N:List Str}{scope:Scope}{cl:List (Str × Addr)}{fp:List Addr}{C:Addr}{qL:List (Addr × Obj)}{σ':St}{H':Hp}{s':Shared}{h':Heap}(I:Inv X pins σ H s)(hf:∀b∈fp,Ci X pins H b)(hC:s.heap.objs.size<=C)
  (I':Inv (bY X N scope cl s H fp C) qL σ' H' s') (hs:rA C s'.heap h'):Inv X pins σ H' { s' with heap:=h' }:=by
 obtain⟨hp,g,d,t,os⟩:=s';have eo:os=s.os:=I'.os;subst eo;have ne:∀b o,s.heap.get? b=some o->b≠C:=fun b o e=>bR (dI (aR e) hC);have hn:H' C=none:=I'.free;have B:Un (frs X.stack) fp H H' s.heap hp:=I'.base;have kp:∀b o,b≠C->hp.get? b=some o->h'.get? b=some o:=fun b o hb e=>(hs.2 b hb).trans e
 suffices r:Inv X pins σ H' { s with heap:=h',gens:=g,drawn:=d,toks:=t }from r
 refine I.call (h':=h') (g':=g) (d':=d) (t':=t) (ch:=fp) #[fun b o e n h1 h2=>kp b o (ne b o e) (B.keep b o e n h1 h2),fun b o e n h1 h2=>?_,B.free,fun b o e h2=>?_,B.tups,B.rR,B.wZ] (fun b u e=>?_) I'.bare fun b hb=>?_
 ·obtain⟨sl,q⟩:=B.slot b o e n h1 h2;show#[sl,kp b _ (ne b o e) q]
 ·obtain⟨o',q⟩:=B.there b o e h2;show#[o',kp b _ (ne b o e) q]
 ·have nb:∀c v,H' c=some v->c≠C:=fun c v q z=>by rw[z,hn]at q;cases q
  refine(I'.hok b u e).stay (fun c v hc q=>kp c v ?_ q) (fun _ q=>q) fun _ _ q=>q;rcases hc with z|z
  ·rw[z];exact nb b u e
  ·exact nb c _ z
 ·obtain⟨f0,f1,f2,f3,f4,f5⟩:=hf b hb;show#[f3,f1,f4,f5]
end
def jT(J:It)(caps:List Nat)(tt:TT)(te:TE)(σ:St)(D:Addr)(Q:VK)(H1:Hp):Prop:=∃W:Nat->Nat->List V->Hp->Prop,(∃m,W 0 m [] (upd H1 D (.lst [])))/\∀i m ys H,W i m ys H ->
 H D=some (.lst ys)/\((J.stop i H/\Q (.ref D) H)\/(J.go i H/\ys.length<sizeLine/\∀ x H',J.yld i H x H'->tt (yJ σ (some x) caps) H' fun b H2=>if b=true then
  te (yJ σ (some x) caps) H2 fun y H3=>H3 D=some (.lst ys)/\∃m',m'<m/\W (i+1) m' (ys++[y]) (upd H3 D (.lst (ys++[y])))
  else H2 D=some (.lst ys)/\∃ m',m'<m/\W (i+1) m' ys H2))
def ama(wi:TI)(caps:List Nat)(tt:TT)(te:TE):TE:=fun σ H Q=>wi σ H fun J H1=>∀D,H1 D=none->jT J caps tt te σ D Q H1
def PTs(X:Cx)(ifs:List Expr)(tt:TT):Prop:=∀(pins:List (Addr × Obj)) (s:Shared) (σ:St) (H:Hp) (Q:Bool->Hp->Prop),Inv X pins σ H s->tt σ H Q ->
 wpAny (model X.prog X.w) X.A (forIn ifs true fun c r=>if r=true then do let ok <-Nt c X.env (eval c X.env);pure (ForInStep.yield ok)else pure (ForInStep.yield r)) (TP X pins σ Q) X.xe s
def vG:TT:=fun _ H Q=>Q true H
theorem jU{X:Cx}:PTs X [] vG:=fun _ _ _ H _ I h=>wpAny_tests_nil #[H,I,h]
theorem Mf{X:Cx}{c:Expr}{tt:TT}(h:PT X c tt):PTs X [c] tt:=fun pins s σ H Q I q=>wpAny_tests_one (h pins s σ H Q I q)
section
variable{P:aH}{w:World}{B:aP}{R:lC->Shared->Prop}{s:Shared}
def amb(P:aH)(w:World)(B:aP)(R:lC->Shared->Prop)(elt tg:Expr)(ifs:List Expr)(it acc:Value)(en:Env)(J:Nat->Shared->Prop)(n:Nat):Option Value->Shared->Prop
 |none,t1=>R (.ok .next) t1
 |some v,t1 =>
  let X:=Ww (model P w) B en fun e t=>R (.error e) t
  wpAny (model P w) B (Wa tg it v) (fun _ t2=>wpAny (model P w) B (uQ tg en v) (fun _ t3 =>
   wpAny (model P w) B (forIn ifs true fun c r=>if r=true then do let yes <- Nt c en (eval c en);pure (ForInStep.yield yes) else pure (ForInStep.yield r)) (fun yes t4 =>
    if yes=true then wpAny (model P w) B (eval elt en) (fun x t5=>wpAny (model P w) B (call (.builtin "list.append") [acc,x]) (fun _ t6=>∃m,m<n/\J m t6) X t5) X t4
    else ∃ m,m<n/\J m t4) X t3) X t2) X t1
theorem aew{elt tg iter:Expr}{ifs:List Expr}{scope:Scope}{pos:Pos}{it acc:Value}{en:Env}(J:Nat->Shared->Prop)
  (owe:∀n t,J n t->wpAny (model P w) B (nU it) (amb P w B R elt tg ifs it acc en J n) (Ww (model P w) B en fun e t'=>R (.error e) t') t) (n:Nat) (h:J n s):
  fY (model P w) B (.compLoop (.ListComp elt [#[tg,iter,ifs,0]] scope pos) 0 it acc en) R s:=by
 have same:∀{X:Value->Shared->Prop}(a:Value)(b:Shared),X a b->X a b:=fun _ _ h=>h;refine codeAny_loop rfl J (fun n t hJ=>?_) n h;show wpAny _ B ((compTurn (.ListComp elt [#[tg,iter,ifs,0]] scope pos) 0 it acc en).onRaise (fun x=>do xV x en;theTreesLotGoes x)) _ _ t;refine wpAny_noted ?_;rw[compTurn_list];refine aA (M9 (aA (dH (owe n t hJ) (fun r t1 h1=>?_) same)));cases r with
 |none=>exact aK h1
 |some v =>
  refine aA (dH h1 (fun _ t2 h2=>aA (dH h2 (fun _ t3 h3=>aA (dH h3 (fun yes t4 h4=>?_) same)) same)) same);cases yes with
  |false=>exact aK #[rfl,h4]
  |true=>exact aA (aA (dH h4 (fun x t5 h5=>aA (dH h5 (fun _ t6 h6=>aK (aK #[rfl,h6])) same)) same))
end
section
variable{X:Cx}
theorem yK{elt iter tg:Expr}{g:TG}{k:Nat}{ifs:List Expr}{scope:Scope}{pos:Pos}{cl:List (Str × Addr)}{N:List Str}{caps:List Nat}{tt:TT}{te:TE}{pins:List (Addr × Obj)}{σ:St}{H2:Hp}{s2:Shared}{Q:VK}{it:Addr}{fp:List Addr}{tn:Nat->Heap->Prop}{J:It}
  {RR:Value->Addr->lC->Shared->Prop} {E:Value->Shared->Prop} (xe:Shared->Hp->List Addr->Addr->Value->Shared->Prop) (hc:X.calm=true)
  (hcell:∀y∈scope.names,y.2≠.cell) (hkind:scope.kind=.function) (hsub:aaE X.env.cells cl)
  (hhas:∀y,((jy scope X.env).names.lookup y=some .cell\/(jy scope X.env).names.lookup y=some .free)->∃c,cl.lookup y=some c)
  (hg:∀s H fp C,PG (bY X N scope cl s H fp C) tg g) (hlen:N.length=k+caps.length) (hcap:∀(i:Nat)(j:Nat),caps[i]? = some j->aaF X N scope cl (i+k) j)
  (ht:∀s H fp C,PTs (bY X N scope cl s H fp C) ifs tt) (he:∀s H fp C,PE ((bY X N scope cl s H fp C).wish (xe s H fp C)) elt te)
  (I2:Inv X pins σ H2 s2) (T:Turn X.prog X.w X.K tg J fp it tn) (st2:tn 0 s2.heap) (f2:∀b∈fp,Ci X pins H2 b) (w2:∀D,H2 D=none->pB J g k caps tt te σ D Q H2)
  (hRR:∀D C σ' H' s5,s2.heap.objs.size<=C->Inv (bY X N scope cl s2 H2 fp C) (X.pn++pins) σ' H' s5->Q (.ref D) H'->RR (.ref D) C (.ok .next) s5)
  (hX:∀D C ev s9,s2.heap.objs.size<=C->xe s2 H2 fp C ev s9->Ww (model X.prog X.w) X.A (Wt scope cl C X.env) (fun e t=>RR (.ref D) C (.error e) t) ev s9):
  wpAny (model X.prog X.w) X.A (newList []) (fun acc s₃=>wpAny (model X.prog X.w) X.A (newFunctionEnv scope X.env.globals cl [] X.env.qual none .none (some X.env)) (fun cenv s₄ =>
   fY (model X.prog X.w) X.A (.compStart (.ListComp elt [#[tg,iter,ifs,0]] scope pos) 0 (.ref it) acc { cenv with scope:=jy scope X.env }) (RR acc cenv.locals) s₄) E s₃) E s2:=by
 refine acM (wpAny_newFunctionEnv hcell (by intro y hy;simp at hy) (fun h₁ hns₁ hsb₁=>?_) hkind);dsimp only at hns₁ hsb₁ ⊢;generalize hH2:s2.heap.push { cls:=.type "list",dict:=none,data:=.seq ([]:List Value).toArray }=G2 at hns₁ hsb₁ ⊢;have hC:G2.objs.size=s2.heap.objs.size+1:=by rw[<-hH2,tR]
 have hCle:s2.heap.objs.size<=G2.objs.size:=by rw[hC];exact rB _
 have hDC:G2.objs.size≠s2.heap.objs.size:=by rw[hC];exact lE (xX _)
 have old:∀b o,s2.heap.get? b=some o->h₁.get? b=some o:=fun b o e =>
  hsb₁.extBut b o (by rw[hC];exact bR (Nx (aR e))) (cU _ (hH2 ▸ cU _ e))
 have hacc:∃n,h₁.get? s2.heap.objs.size=some { cls:=.type "list",data:=.seq #[] n }:=#[_,hsb₁.extBut _ _ (aL hDC) (cU _ (hH2 ▸ dN _ rfl))];have hnD:H2 s2.heap.objs.size=none:=I2.hok.fresh (aJ _);obtain⟨W,⟨m0,w0⟩,turn⟩:=w2 s2.heap.objs.size hnD;have fo:∀b∈fp,∃o,s2.heap.get? b=some o:=fun b hb=>by
  obtain⟨o,e,_⟩:=T.obj _ _ st2 b hb;show#[o,e]
 have I3:Inv (bY X N scope cl s2 H2 fp G2.objs.size) (X.pn++pins) (nF σ (gY k none) caps) (upd H2 s2.heap.objs.size (.lst [])) { s2 with heap:=h₁,toks:=s2.toks+([]:List (Str × Value)).length }:=
  I2.compT hkind hsub hhas f2 fo hlen hcap (aJ _) hCle hDC old hacc #[_,hns₁]
 have st3:tn 0 h₁:=T.keep _ _ _ st2 fun b _ o e=>old b o e;have nf:∀b∈fp,b≠s2.heap.objs.size:=fun b hb=>by
  obtain⟨o,e⟩:=fo b hb;exact bR (aR e)
 have stat:∀{H':Hp},(∀b∈fp,H' b=none)->∀b∈fp,Ci (bY X N scope cl s2 H2 fp G2.objs.size) (X.pn++pins) H' b:=fun {H'} hn b hb=>by
  obtain⟨f0,f1,f2',f3,f4,f5⟩:=f2 b hb;obtain⟨o,e⟩:=fo b hb;show#[hn b hb,bR (dI (aR e) hCle),fun z=>?_,.inl hb,fun y c q=>f4 y c (hsub.of q),fun p hp=>f5 p hp];rcases aO.mp (I2.Hu b z)with q|q
  ·exact f1 q
  ·exact f2' q
 have loop:fY (model X.prog X.w) X.A (.compLoop (.ListComp elt [#[tg,iter,ifs,0]] scope pos) 0 (.ref it) (.ref s2.heap.objs.size) (Wt scope cl G2.objs.size X.env))
   (RR (.ref s2.heap.objs.size) G2.objs.size) { s2 with heap:=h₁,toks:=s2.toks+([]:List (Str × Value)).length }:=by
  refine aew (fun n s'=>∃i ys σ' H',Inv (bY X N scope cl s2 H2 fp G2.objs.size) (X.pn++pins) σ' H' s'/\(∃zs:List (Option V),zs.length=k/\σ'=nF σ zs caps)/\tn i s'.heap/\(∀b∈fp,H' b=none)/\W i n ys H') ?_ m0
   #[0,[],_,_,I3,#[_,Df,rfl],st3,fun b hb=>by rw[ao (nf b hb)];exact(f2 b hb).1,w0]
  rintro n s' ⟨i,ys,σ',H',I',⟨zs,hzs,rfl⟩,st',fr',w'⟩;obtain⟨hl,ends⟩:=turn i n ys H' w';rcases ends with⟨stop,q⟩|⟨go,hsz,step⟩
  ·refine dH (T.done (bY X N scope cl s2 H2 fp G2.objs.size) rfl rfl rfl hc i _ s' _ H' (fun _ _=>False) I' (stat fr') st' stop) (fun r s5 zq=>?_) fun _ _ f=>f.elim;obtain⟨hr,I5⟩:=zq;subst hr;exact hRR _ _ _ _ _ hCle I5 q
  ·refine dH (T.item (bY X N scope cl s2 H2 fp G2.objs.size) rfl rfl rfl hc i _ s' _ H' (fun _ _=>False) I' (stat fr') st' go) (fun r s5 zq=>?_) fun _ _ f=>f.elim;obtain⟨u,hr,h5⟩:=zq;subst hr;refine dH h5 (fun _ s6 zq=>?_) fun _ _ f=>f.elim;obtain⟨y,H6,I6,r6,y6,st6,fr6⟩:=zq;have I6':=I6.pinned (stat fr6) (T.obj _ _ st6);have again:∀{σ7:St}{H7:Hp}{s7:Shared},Inv (bY X N scope cl s2 H2 fp G2.objs.size) ((X.pn++pins)++O1 fp s6.heap) σ7 H7 s7->tn (i+1) s7.heap/\∀b∈fp,H7 b=none:=fun {σ7 H7 s7} I7=>by
    show#[T.keep _ _ _ st6 fun b hb o e=>(I7.pin (b,o) (tL _ (tL _ (vA hb e)))).1,fun b hb=>?_];obtain⟨o,e,d⟩:=T.obj _ _ st6 b hb;exact(I7.pin (b,o) (tL _ (tL _ (vA hb e)))).2.1
   refine dH (hg s2 H2 fp G2.objs.size _ s6 _ H6 y u _ I6' r6 (step y H6 y6 zs hzs)) (fun _ s7 ⟨σ7,H7,I7,⟨zs7,hz7,e7⟩,q7⟩=>?_) fun _ _ f=>f.elim;subst e7;refine dH (ht s2 H2 fp G2.objs.size _ s7 _ _ _ I7 q7) (fun ok s8 zq=>?_) fun _ _ f=>f.elim;obtain⟨H8,I8,q8⟩:=zq;cases ok with
   |false =>
    obtain⟨_,m',hm,w8⟩:=q8;have a8:=again I8;show#[m',hm,i+1,ys,_,H8,I8.yC,#[zs7,hz7,rfl],a8.1,a8.2,w8]
   |true =>
    refine dH (he s2 H2 fp G2.objs.size _ s8 _ _ _ (I8.wish _) q8) (fun x9 s9 zq=>?_) fun ev s9 z=>hX _ _ ev s9 hCle z;obtain⟨y9,H9,I9,r9,l9,m',hm,w9⟩:=zq;refine dH (Hy (X:=bY X N scope cl s2 H2 fp G2.objs.size) _ s9 _ H9 (.ref s2.heap.objs.size) [y9] _ [x9] (fun _ H10=>H10=upd H9 s2.heap.objs.size (.lst (ys++[y9]))) I9.iC rfl (.cons r9 .nil) #[_,ys,y9,rfl,rfl,l9,hsz,rfl]) (fun _ s10 zq=>?_) fun _ _ f=>f.elim;obtain⟨_,H10,I10,_,e10⟩:=zq;subst e10;have a10:=again I10;show#[m',hm,i+1,ys++[y9],_,_,I10.yC,#[zs7,hz7,rfl],a10.1,a10.2,w9]
 exact codeAny_compStart_list loop (T.self _ 0 _ _ _ st3 loop)
structure yL(X:Cx)(scope:Scope)(cl:List (Str × Addr))(N:List Str)(caps:List Nat)(k:Nat):Prop where
 calm:X.calm=true
 clos:closureFor scope X.env=pure cl
 cell:∀y∈scope.names,y.2≠.cell
 kind:scope.kind=.function
 names:∀y∈scope.names,y.2=.local->scope.names.lookup y.1=some .local
 sub:aaE X.env.cells cl
 has:∀y,((jy scope X.env).names.lookup y=some .cell\/(jy scope X.env).names.lookup y=some .free)->∃c,cl.lookup y=some c
 len:N.length=k+caps.length
 cap:∀(i:Nat)(j:Nat),caps[i]? = some j->aaF X N scope cl (i+k) j
variable{elt iter tg:Expr}{x y:Str}{px py spos:Pos}{g:TG}{k i:Nat}{ifs:List Expr}{scope:Scope}{pos:Pos}{cl:List (Str × Addr)}{N:List Str}{caps:List Nat}{wi:TI}{tt:TT}{te:TE}{R:It->St->Addr->VK->Hp->Prop}
theorem aaG(O:yL X scope cl N caps k)(hg:∀s H fp C,PG (bY X N scope cl s H fp C) tg g)(hi:PI X tg iter wi)(ht:∀s H fp C,PTs (bY X N scope cl s H fp C) ifs tt)(he:∀s H fp C,PE (bY X N scope cl s H fp C) elt te)
  (hR:∀{J σ D Q H},R J σ D Q H->pB J g k caps tt te σ D Q H) (hs:∀x,uN iter X.env x=pure x):PE X (.ListComp elt [#[tg,iter,ifs,0]] scope pos) (fun σ H Q=>wi σ H fun J H1=>∀D,H1 D=none->R J σ D Q H1):=by
 walk_at "l"
 rw [ajo];refine acI (use:=none) rfl hs O.clos O.kind O.names (thn (hi pins s σ H _ I h) fun v s1 h1=>thn h1 fun itv s2 h2=>?_);obtain ⟨it,fp,tn,J,H2,e,I2,T,st2,f2,w2⟩:=h2;subst e;exact yK (fun _ _ _ _ _ _=>False) O.calm O.cell O.kind O.sub O.has hg O.len O.cap ht he I2 T st2 f2 (fun D n=>hR (w2 D n)) (fun D C σ' H' s5 hC I5 q=>by
  obtain ⟨m,hm,_⟩:=I5.loc;show#[m,hm,fun h' hs'=>#[.ref D,H',I2.XM f2 hC I5 hs',rfl,q]])
  fun _ _ _ _ _ z=>z.elim
theorem aaH{pins qL:List (Addr × Obj)}{σ σ':St}{H2 H1:Hp}{s2 s1 s9:Shared}{fp:List Addr}{C:Addr}{ev:Value}{E:XK}{use:Option (Value->Sem Unit)}{Q:Value->Shared->Prop}{acc:Value}(hst:X.stack=X.env::X.outer)(hfr:X.env.frame=some X.env.locals)(hex:X.ex=[])(hx:XW X E)
  (I2:Inv X pins σ H2 s2) (f2:∀b∈fp,Ci X pins H2 b) (hC:s2.heap.objs.size<=C) (I1:Inv (bY X N scope cl s2 H2 fp C) qL σ' H1 s1) (z:CXE X.prog X.w X.stack H1 s1 E ev s9):
  Ww (model X.prog X.w) X.A (Wt scope cl C X.env) (fun e t=>compPost (model X.prog X.w) X.A X.xe use Q acc C (.error e) t) ev s9:=by
 obtain⟨e,C',T,dd,fl,H',rfl,os,bare,u,hok,fly,hE⟩:=z;have J1:Inv X pins σ H1 s1:=I2.XM (h':=s1.heap) f2 hC I1 #[rfl,fun _ _=>rfl];have XH:∀{h:Heap},Un (frs X.stack) [] H1 H' s1.heap h->HOk X.prog X.w H' h->h.FunFrames X.base (X.env::X.outer):=fun {h} u' hok'=>by
  have:=(J1.call' (ch:=[]) (s':={ s9 with heap:=h }) os u' hok' bare (by simp)).stack;rwa[hst]at this
 have sub:∀b∈frs (X.env::X.outer),b∈frs X.stack\/s1.heap.get? b=none:=fun b hb=>.inl (by rwa[hst]);have fre:∀b∈frs (X.env::X.outer),H' b=none:=fun b hb=>(J1.call' (ch:=[]) os u hok bare (by simp)).zJ b (by rwa[hst]);have I9:=I1.call' (ch:=[]) (s':=s9) os u hok bare (by simp);have nC:H' C=none:=I9.free;obtain⟨mC,nsC,_⟩:=I9.loc;obtain⟨oe0,_,_,_,_,qe,qd,_⟩:=id fly.tr;obtain⟨a0,tr⟩:=fly.traced (l:=X.env::X.outer);show wpAny _ _ (xV (.ref e) X.env) _ _ _;refine HF (base:=Bare s9.heap (X.env::X.outer) [e,T]) (by rw[I2.ok.frames,hst]) (iJ (XH u hok)) hfr tr (fun b o q=>Bf _ q) (xK _ (by simp)) fun h2 ⟨x1,_,x3,x2⟩ dk=>?_;obtain⟨u2,al7,T2,HJ⟩:=HD u hok (XH u hok) fre sub fly.hidden fly.ue fly.ge x1 x2 x3 qe qd dk;have ns2:h2.Ns C mC:=arB (h:=s9.heap) x2 nsC;show#[mC,ns2,fun h3 sb cenv _=>?_];obtain⟨oe,vs,oT,ts,a2,q1,q2,q3,q4,q5,q6,q7,q8,q9⟩:=HJ.tr;obtain⟨oC,_,_,hoC,hdC,_⟩:=ns2;have neC:∀{b:Addr}{o:Obj}{ws:Array Value},h2.get? b=some o->o.data=.fields ws->b≠C:=fun r d y=>by
  rw[y,hoC]at r;cases r;rw[hdC]at d;cases d
 have q1':=(sb.2 e (neC q1 q4)).trans q1;have q7':=(sb.2 T2 (neC q7 q8)).trans q7;have hz:3<ts.size:=(Oa.mp q9).1;unfold PySem.passOn;refine aA (jt q1' q4 q5 ?_);rw[if_neg (by simp)];unfold Wm;refine aA (aA (jt q1' q4 q5 ?_));rw[if_pos (by simp)];refine aje q7' q8 hz (wpAny_throw ?_);generalize hfl:(cenv.frame.elim Value.none fun f=>jz f)=fl3;have oth:∀b,b≠T2->(h3.update T2 (Hj (·.setIfInBounds 3 fl3))).get? b=h3.get? b:=fun b nb=>mO _ _ (aL nb);have self:=qu (Hj (·.setIfInBounds 3 fl3)) q7' (Obj.isFreed_of_fields (akE q8 _));generalize h3.update T2 (Hj (·.setIfInBounds 3 fl3))=h4 at oth self ⊢;have stay:∀{b:Addr}{o:Obj},b≠C->b≠T2->h2.get? b=some o->h4.get? b=some o:=fun n1 n2 r=>(oth _ n2).trans ((sb.2 _ n1).trans r);have nT:∀{b:Addr}{o:Obj},s1.heap.get? b=some o->b≠T2:=fun r y=>by rw[y,HJ.gT]at r;cases r
 have u4:Un (frs X.stack) [C] H1 H' s1.heap h4:=#[fun b o r n hb hx=>stay (fun y=>hx (by simp [y])) (nT r) (u2.keep b o r n hb (by simp)),fun b o r n hb hx=>by
   obtain⟨sl,p⟩:=u2.slot b o r n hb (by simp);show#[sl,stay (fun y=>hx (by simp[y])) (nT r) p],fun b o r n _=>u2.free b o r n (by simp),fun b o r hx=>by
   obtain ⟨o',p⟩:=u2.there b o r (by simp);show#[o',stay (fun y=>hx (by simp [y])) (nT r) p],u2.tups,u2.rR,u2.wZ]
 have hok4:HOk X.prog X.w H' h4:=fun b o r=>by
  have tr:∀{c:Addr}{v:HO}{w:Obj},H' c=some v->h2.get? c=some w->h4.get? c=some w:=fun r p=>stay (fun y=>by rw[y,nC]at r;cases r) (fun y=>by rw[y,HJ.uT]at r;cases r) p;refine(al7 b o r).stay (fun c v hc p=>?_) (fun _ p=>p) fun _ _ p=>p;rcases hc with rfl|hc
  ·exact tr r p
  ·exact tr hc p
 have I4:=J1.call' (s':={ s9 with heap:=h4 }) (ch:=[C]) os u4 hok4 bare fun b hb=>by
  obtain rfl:b=C:=(by simpa using hb);show#[.inr (bQ I2.sz hC),?_,fun y c q=>?_,fun p hp y=>?_]
  ·obtain⟨m,⟨o,_,_,ho,_⟩,_⟩:=I2.loc;exact lE (dI (aR ho) hC)
  ·obtain⟨v,o,ho,_⟩:=I2.cell y c q;exact bR (dI (aR ho) hC)
  ·exact absurd (dI (aR (I2.pin p hp).1) (by rwa[y])) (oh _)
 refine hx pins σ H' _ e C' T2 fl3 dd I4 (Fly.older #[HJ.ue,HJ.uT,HJ.ge,HJ.gT,oe,vs,_,_,a2,(oth e (aL q6)).trans q1',q2,q3,q4,q5,q6,self,akE q8 _,by simp[hz]] fun b o r=>J1.base.there b o r (by rw[hex];simp)) hE
theorem ahh{E:XK}(hst:X.stack=X.env::X.outer)(hfr:X.env.frame=some X.env.locals)(hex:X.ex=[])(hx:XW X E)(O:yL X scope cl N caps k)(hg:∀s H fp C,PG (bY X N scope cl s H fp C) tg g)(hi:PI X tg iter wi)(ht:∀s H fp C,PTs (bY X N scope cl s H fp C) ifs tt)
  (he:∀s H fp C,PE ((bY X N scope cl s H fp C).wish fun ev s'=>∃qL σ' H1 s1,Inv (bY X N scope cl s H fp C) qL σ' H1 s1/\CXE X.prog X.w X.stack H1 s1 E ev s') elt te)
  (hR:∀{J σ D Q H},R J σ D Q H->pB J g k caps tt te σ D Q H) (hs:∀x,uN iter X.env x=pure x):PE X (.ListComp elt [#[tg,iter,ifs,0]] scope pos) (fun σ H Q=>wi σ H fun J H1=>∀D,H1 D=none->R J σ D Q H1):=by
 walk_at "l"
 rw [ajo];refine acI (use:=none) rfl hs O.clos O.kind O.names (thn (hi pins s σ H _ I h) fun v s1 h1=>thn h1 fun itv s2 h2=>?_);obtain ⟨it,fp,tn,J,H2,e,I2,T,st2,f2,w2⟩:=h2;subst e;exact yK (fun s H fp C ev s'=>∃ qL σ' H1 s1,Inv (bY X N scope cl s H fp C) qL σ' H1 s1/\CXE X.prog X.w X.stack H1 s1 E ev s') O.calm O.cell O.kind O.sub O.has hg O.len O.cap ht he I2 T st2 f2 (fun D n=>hR (w2 D n)) (fun D C σ' H' s5 hC I5 q=>by
  obtain ⟨m,hm,_⟩:=I5.loc;show#[m,hm,fun h' hs'=>#[.ref D,H',I2.XM f2 hC I5 hs',rfl,q]])
  fun D C ev s9 hC ⟨_,_,_,_,I1,z⟩=>aaH hst hfr hex hx I2 f2 hC I1 z
theorem aaI(hXN:X.N.Nodup)(hi0:X.N[i]? = some y)(hy:Loc X.env.scope y)(O:yL X scope cl N caps k)(hg:∀s H fp C,PG (bY X N scope cl s H fp C) tg g)(hi:PI X tg iter wi)(ht:∀s H fp C,PTs (bY X N scope cl s H fp C) ifs tt)(he:∀s H fp C,PE (bY X N scope cl s H fp C) elt te)
  (hR:∀{J σ D Q H},R J σ D Q H->pB J g k caps tt te σ D Q H) (hs:∀x,uN iter X.env x=pure x) (hsw:xU (.ListComp elt [#[tg,iter,ifs,0]] scope pos) (some (.Name y py)) spos.line X.env=pure true) (hf:X.fn y=true\/X.env.scope.names.lookup y=some .local):
  PS X (.Assign [.Name y py] (.ListComp elt [#[tg,iter,ifs,0]] scope pos) spos) (alm (fun σ H Q=>wi σ H fun J H1=>∀D,H1 D=none->R J σ D Q H1) (o8 i)):=by
 walk_at "H"
 rw [exec_Assign_Name_used _ _ _ _ hsw];refine aA (M9 (aA ?_));show wpAny _ X.A (do let _ <- comprehension (.ListComp elt [#[tg,iter,ifs,0]] scope pos) scope X.env _ (newList []) false (eval iter X.env) (some (uQ (.Name y py) X.env))) _ _ s;refine aA (dH (acI (use:=some (uQ (.Name y py) X.env)) (Q:=fun _ s'=>SP X pins D .next s') rfl hs O.clos O.kind O.names
  (thn (hi pins s σ H _ I h) fun v s1 h1=>thn h1 fun itv s2 h2=>?_)) (fun _ s' hq=>aK (aK hq)) fun _ _ e=>e)
 obtain⟨it,fp,tn,J,H2,e,I2,T,st2,f2,w2⟩:=h2;subst e;refine yK (fun _ _ _ _ _ _=>False) (RR:=fun acc C=>compPost (model X.prog X.w) X.A X.xe (some (uQ (.Name y py) X.env)) (fun _ s'=>SP X pins D .next s') acc C) O.calm O.cell O.kind O.sub O.has hg O.len O.cap ht he I2 T st2 f2 (fun D n=>hR (w2 D n)) (fun D' C σ' H' s5 hC I5 q=>?_) fun _ _ _ _ _ z=>z.elim;show wpAny _ X.A (uQ (.Name y py) X.env (.ref D')) _ _ _;have IX:Inv X pins σ H' s5:=I2.XM (h':=s5.heap) f2 hC I5 #[rfl,fun _ _=>rfl];have nL:C≠X.env.locals:=by
  obtain⟨m,⟨o,_,_,ho,_⟩,_⟩:=I2.loc;exact lE (dI (aR ho) hC)
 have nC:∀z c,X.env.cells.lookup z=some c->c≠C:=fun z c e=>by
  obtain⟨v,o,ho,_⟩:=I2.cell z c e;exact bR (dI (aR ho) hC)
 refine ai2 (Uc IX hXN hi0 hy (v:=.ref D') rfl (fun s6 I6 hb=>?_) hf);obtain⟨m,hm,_⟩:=I5.loc;obtain⟨a,sb,ha⟩:=hb;have na:C≠a:=by
  rcases ha with z|z
  ·rwa[z]
  ·exact aL (nC _ _ z)
 show#[m,hm.sameBut sb na,fun h' hs'=>#[_,H',?_,q]];obtain⟨hp6,g6,d6,t6,o6⟩:=s6;refine I6.turned (it:=C) (t':=t6) (fun b o hb e=>(hs'.2 b hb).trans e) I5.free nL (.inr (bQ I2.sz hC)) nC fun p hp z=>?_;have:=(I2.pin p hp).1;exact absurd (dI (aR this) (by rwa[z])) (oh _)
theorem jT.T{J:It}{σ:St}{D:Addr}{Q:VK}{H:Hp}(h:jT J caps tt te σ D Q H):pB J (o8 0) 1 caps tt te σ D Q H:=by
 obtain⟨W,w0,turn⟩:=h;show#[W,w0,fun i m ys H w=>?_];obtain⟨a,b⟩:=turn i m ys H w;show#[a,b.imp id fun b=>?_];obtain⟨go,l,st⟩:=b;show#[go,l,fun x H' y zs hz=>?_];obtain⟨z,rfl⟩:=List.length_eq_one_iff.mp hz;show#[#[[some x],rfl,rfl],st x H' y]
end
theorem asp{names:List (Str × Bv)}{cl:List (Str × Addr)}(h:(names.all fun p=>(p.2 != .cell && p.2 != .free) || (cl.lookup p.1).isSome)=true)(y:Str)(hy:names.lookup y=some .cell\/names.lookup y=some .free):∃c,cl.lookup y=some c:=by
 have key:∀k:Bv,(k=.cell\/k=.free)->names.lookup y=some k->∃c,cl.lookup y=some c:=fun k hk e=>by
  have m:=Ay.mp h _ (Gg e);have:(k != .cell && k != .free)=false:=by rcases hk with z|z <;> (subst z;rfl)
  rw[show((y,k):Str × Bv).2=k from rfl,this,ajM]at m;exact adt.mp m
 rcases hy with z|z
 ·exact key _ (.inl rfl) z
 ·exact key _ (.inr rfl) z
def Pj(X:Cx)(N:List Str)(scope:Scope)(cl:List (Str × Addr)):Nat->List Nat->Prop
 |_,[]=>True
 |i,j::r=>aaF X N scope cl i j/\Pj X N scope cl (i+1) r
theorem Pj.at{X:Cx}{N:List Str}{scope:Scope}{cl:List (Str × Addr)}:∀{caps:List Nat}{k:Nat},Pj X N scope cl k caps->∀(i j:Nat),caps[i]? = some j->aaF X N scope cl (i+k) j
 |[],_,_,i,j,h=>by simp at h
 |a::r,k,hc,0,j,h=>by
  have e:a=j:=by simpa using h
  subst e;rw[GD];exact hc.1
 |a::r,k,hc,i+1,j,h=>by
  have:=Pj.at hc.2 i j (by simpa using h);rwa[show i+1+k=i+(k+1) by lia]
section
variable{X:Cx}{elt iter tg:Expr}{x y:Str}{px py spos:Pos}{g:TG}{k:Nat}{ifs:List Expr}{scope:Scope}{pos:Pos}{wi:TI}{tt:TT}{te:TE}
theorem XQ{cl:List (Str × Addr)}{N:List Str}{caps:List Nat}(ca:X.calm=true:=by rfl)(a:closureFor scope X.env=pure cl:=by with_unfolding_all rfl)(b:∀y∈scope.names,y.2≠.cell:=by decide +kernel)(c:scope.kind=.function:=by rfl)
  (d:∀y∈scope.names,y.2=.local->scope.names.lookup y.1=some .local:=by decide +kernel) (e:aaE X.env.cells cl:=by repeat' first|exact trivial|show#[rfl,?_]) (f:((jy scope X.env).names.all fun p=>(p.2 != .cell && p.2 != .free) || (cl.lookup p.1).isSome)=true:=by with_unfolding_all rfl)
  (l:N.length=k+caps.length:=by rfl) (m:Pj X N scope cl k caps:=by repeat' first|exact trivial|show#[#[_,_,rfl,rfl,.inl rfl,.inl rfl,rfl],?_]):yL X scope cl N caps k:=#[ca,a,b,c,d,e,asp f,l,m.at]
theorem ug(cl:List (Str × Addr))(N:List Str)(caps:List Nat)(hi:PI X (.Name x px) iter wi)(ht:∀s H fp C,PTs (bY X N scope cl s H fp C) ifs tt)(he:∀s H fp C,PE (bY X N scope cl s H fp C) elt te)(O:yL X scope cl N caps 1:=by exact XQ)
  (hN:N.Nodup:=by decide +kernel) (h0:N[0]? = some x:=by rfl) (hx:(jy scope X.env).names.lookup x=some .local:=by rfl) (hs:∀x,uN iter X.env x=pure x:=by intro _;rfl):PE X (.ListComp elt [#[.Name x px,iter,ifs,0]] scope pos) (ama wi caps tt te):=
 aaG O (fun _ _ _ _=>zK hN h0 (.inl hx) (.inr hx)) hi ht he jT.T hs
theorem HN{E:XK}(hx:XW X E)(cl:List (Str × Addr))(N:List Str)(caps:List Nat)(hi:PI X (.Name x px) iter wi)(ht:∀s H fp C,PTs (bY X N scope cl s H fp C) ifs tt)
  (he:∀s H fp C,PE ((bY X N scope cl s H fp C).wish fun ev s'=>∃qL σ' H1 s1,Inv (bY X N scope cl s H fp C) qL σ' H1 s1/\CXE X.prog X.w X.stack H1 s1 E ev s') elt te) (O:yL X scope cl N caps 1:=by exact XQ) (hst:X.stack=X.env::X.outer:=by rfl) (hfr:X.env.frame=some X.env.locals:=by rfl) (hex:X.ex=[]:=by rfl)
  (hN:N.Nodup:=by decide +kernel) (h0:N[0]? = some x:=by rfl) (hl:(jy scope X.env).names.lookup x=some .local:=by rfl) (hs:∀x,uN iter X.env x=pure x:=by intro _;rfl):PE X (.ListComp elt [#[.Name x px,iter,ifs,0]] scope pos) (ama wi caps tt te):=
 ahh hst hfr hex hx O (fun _ _ _ _=>zK hN h0 (.inl hl) (.inr hl)) hi ht he jT.T hs
theorem amc{cl:List (Str × Addr)}{N:List Str}{s:Shared}{H:Hp}{fp:List Addr}{C:Addr}{E:XK}:Passes (CXE X.prog X.w) ((bY X N scope cl s H fp C).wish fun ev s'=>∃qL σ' H1 s1,Inv (bY X N scope cl s H fp C) qL σ' H1 s1/\CXE X.prog X.w X.stack H1 s1 E ev s') E:=
 fun pins σ H1 s1 _ _ I z=>#[pins,σ,H1,s1,I.iC,z]
theorem qN(i:Nat)(hXN:X.N.Nodup)(cl:List (Str × Addr))(N:List Str)(caps:List Nat)(hi:PI X (.Name x px) iter wi)(ht:∀s H fp C,PTs (bY X N scope cl s H fp C) ifs tt)(he:∀s H fp C,PE (bY X N scope cl s H fp C) elt te)(O:yL X scope cl N caps 1:=by exact XQ)
  (hN:N.Nodup:=by decide +kernel) (h0:N[0]? = some x:=by rfl) (hx:(jy scope X.env).names.lookup x=some .local:=by rfl) (hs:∀x,uN iter X.env x=pure x:=by intro _;rfl) (hi0:X.N[i]? = some y:=by rfl) (hy:Loc X.env.scope y:=by exact Or.inl rfl)
  (hsw:xU (.ListComp elt [#[.Name x px,iter,ifs,0]] scope pos) (some (.Name y py)) spos.line X.env=pure true:=by rfl) (hf:X.fn y=true\/X.env.scope.names.lookup y=some .local:=by first|exact .inl rfl|exact .inr rfl|assumption):
  PS X (.Assign [.Name y py] (.ListComp elt [#[.Name x px,iter,ifs,0]] scope pos) spos) (alm (ama wi caps tt te) (o8 i)):=aaI hXN hi0 hy O (fun _ _ _ _=>zK hN h0 (.inl hx) (.inr hx)) hi ht he jT.T hs hsw hf
theorem ahi(k:Nat)(cl:List (Str × Addr))(N:List Str)(caps:List Nat)(hg:∀s H fp C,PG (bY X N scope cl s H fp C) tg g)(hi:PI X tg iter wi)(ht:∀s H fp C,PTs (bY X N scope cl s H fp C) ifs tt)(he:∀s H fp C,PE (bY X N scope cl s H fp C) elt te)(O:yL X scope cl N caps k:=by exact XQ)
  (hs:∀x,uN iter X.env x=pure x:=by intro _;rfl):PE X (.ListComp elt [#[tg,iter,ifs,0]] scope pos) (aso wi g k caps tt te):=aaG O hg hi ht he id hs
end
theorem iK{K:aG}{a:Addr}{xs:List V}{caps:List Nat}{te:TE}{σ:St}{H:Hp}{D:Addr}{Q:VK}(Pv:Nat->List V->Hp->Prop)(h0:Pv 0 [] (upd H D (.lst [])))
  (hl:∀i ys H,i<=xs.length->Pv i ys H->SqL K H a xs/\H D=some (.lst ys)/\ys.length<sizeLine)
  (hs:∀i ys H x,xs[i]? = some x->Pv i ys H->te (yJ σ (some x) caps) H fun y H3=>H3 D=some (.lst ys)/\Pv (i+1) (ys++[y]) (upd H3 D (.lst (ys++[y])))) (hd:∀ys H,Pv xs.length ys H->Q (.ref D) H)
  (mono:∀σ H (Q Q':VK),(∀y H,Q y H->Q' y H)->te σ H Q->te σ H Q'):
  jT (Itl K a) caps vG te σ D Q H:=by
 show#[fun i m ys H=>m=xs.length-i/\i<=xs.length/\Pv i ys H,#[xs.length,by simp,cJ _,h0],?_];rintro i m ys H ⟨rfl,hi,p⟩;obtain⟨sq,q,z⟩:=hl i ys H hi p;show#[q,?_];by_cases hlt:i<xs.length
 ·refine .inr #[#[xs,xs[i],sq,by simp[hlt]],z,fun x H' y=>?_];obtain⟨e,y⟩:=y;subst e;unfold vG;dsimp only;rw[if_pos rfl];exact mono _ _ _ _ (fun y H3 ⟨a,b⟩=>#[a,xs.length-(i+1),by lia,rfl,hlt,b]) (hs i ys _ x (y xs sq) p)
 ·have e:i=xs.length:=by lia
  subst e;exact .inl #[#[xs,sq,aJ _],hd ys H p]
section
variable{X:Cx}
theorem aex{A:aP}{E:Value->Shared->Prop}{s:Shared}{T:String}{r d:Addr}{n:Nat}{P:Nat->Value->Prop}{OK:Heap->Prop}{ns:List Int}{Q:Value->Shared->Prop}
  (K:aiS X.prog X.w T r d n P OK) (hh:A.handled=none) (hok:OK s.heap) (hn:n<=sizeLine) (h64:n<64) (hP:∀us:List Value,us.length=n->(∀(j:Nat)(v:Value),us[j]? = some v->P j v)->rE us ns)
  (h:∀ (h':Heap) (tk:Nat) (l:Addr) (out:Array Value) (ns':List Int) (e:Nat),(∀ b ob,s.heap.get? b=some ob->h'.get? b=some ob)->(∀ b ob,s.heap.get? b=some ob->b≠l)->h'.get? l=some (GZ "list" out e) ->
   rE out.toList ns'->ns'.Perm ns->ns'.Pairwise (· <= ·)->Q (.ref l) { s with heap:=h',toks:=tk }) :
  wpAny (model X.prog X.w) A (call (.builtin "sorted") [.ref r]) Q E s:=by
 refine Calls.call_function_entry kind_sorted akm akn (args_sorted1 _) ?_;unfold dM.«sorted»;refine aA (m:=checkCount "sorted" 1 1 _) (aK ?_);refine aA (aiH (A:=A.in1) K hh hok hn fun h1 tk acc hk hacc=>?_);have hl:acc.toList.length=n:=by rw[tU];exact hacc.1
 have hI:=hP acc.toList hl fun j v e=>hacc.2 j v (by rwa[<-Hg]);refine aA (ajm ?_ (by rwa[hl]));have hoL:(h1.push (GZ "list" acc.toList.toArray 0)).get? h1.objs.size=some (GZ "list" acc.toList.toArray 0):=dN _ rfl;refine aA (iU (V7 akh #[_,hoL,rfl] akg (list_sort_tree hoL hI (by rwa[hl]) fun out ns' a1 a2 a3=>#[_,rfl,?_]) (args_list_sort _)));refine aK #[_,rfl,?_];obtain⟨e,he⟩:=akk (vs:=acc.toList) (out:=out) hoL;have hb:∀b ob,s.heap.get? b=some ob->b<h1.objs.size:=fun b ob e'=>aR (hk b ob e');refine h _ tk _ out ns' e (fun b ob e'=>?_) (fun b ob e'=>bR (hb b ob e')) he a1 a2 a3;have hlt:=hb b ob e';rw[aki (bR hlt) (by rw[ady];exact Nx hlt)];exact cU _ (hk b ob e')
def amd:List V->Hp->VK->Prop:=fun xs H Q=>∃a kvs ns,xs=[V.ref a]/\Rd H a (.dK kvs)/\(kvs.map fun p=>kV p.1)=ns.map V.int/\ns.length<64 /\
 ∀(l:Addr)(ns':List Int),H l=none->ns'.Perm ns->ns'.Pairwise (· <= ·)->Q (.ref l) (upd H l (.lst (ns'.map V.int)))
def ame(K:aG):List V->Hp->VK->Prop:=fun xs H Q=>∃a ns,xs=[V.ref a]/\SqL K H a (ns.map V.int)/\ns.length<64 /\
 ∀(l:Addr)(ns':List Int),H l=none->ns'.Perm ns->ns'.Pairwise (· <= ·)->Q (.ref l) (upd H l (.lst (ns'.map V.int)))
theorem aey(hc:X.calm=true):fW X (.builtin "sorted") amd:=by
 walk_at "s"
 obtain⟨a,kvs,ns,rfl,ha,ei,h64,q⟩:=h;obtain⟨u,rfl,ru⟩:=vals1 r;cases ru;obtain⟨z,hd,vs,rel,dd⟩:=yG I.hok ha;obtain⟨ep,hat⟩:=dd.dictAt;have hl:=rel.length;have hns:ns.length=kvs.length:=by have:=congrArg gZ ei;simpa using this.symm
 refine aex (X:=X) (ns:=ns) (aiM (knd:=bL X.prog X.w) (kvs:=vs) (ep:=ep) hd) (I.ok.hd hc) hat (by rwa[<-hl]) tb_g% (fun us hu hv=>?_) fun h' tk l' out ns' e' kp hne hl' hI hp ho=>?_
 ·have vv:=HB rel hu hv;rw[ei]at vv;exact intsAre_of vv
 ·show#[.ref l',_,I.O6 (t':=tk) kp hne (show cA X.prog X.w _ h' l' (.lst (ns'.map V.int))from#[?_,out.toList,e',uf hI,by simpa using hl']),rfl,q l' ns' (I.none_of hne) hp ho];rwa[aC,hp.length_eq,hns]
theorem aez:fW X (.builtin "sorted") (ame X.K):=by
 walk_at "s"
 obtain⟨a,ns,rfl,ha,h64,q⟩:=h;obtain⟨u,rfl,ru⟩:=vals1 r;cases ru;obtain⟨its,rv,p,hz⟩:=I.list ha;have hI:=intsAre_of rv;have hl:its.length=ns.length:=by rw[<-rv.length,aC]
 refine sorted_ints p.isList hI tb_g% fun out ns' a1 a2 a3=>?_;obtain⟨e,he⟩:=sortedAll_at s.heap its out;show#[.ref (s.heap.objs.size+1),_,I.laid (t':=s.toks) (fun _ _=>sortedAll_old) (rB _) (show cA X.prog X.w _ _ (s.heap.objs.size+1) (.lst (ns'.map V.int))from#[?_,out.toList,e,uf a1,by simpa using he]),rfl,q _ ns' (I.hok.fresh (rB _)) a2 a3];rw[aC,a2.length_eq];rwa[aC]at hz
def asq(K:aG):List V->Hp->VK->Prop:=fun xs H Q=>amd xs H Q\/ame K xs H Q
theorem jg(hc:X.calm=true):fW X (.builtin "sorted") (asq X.K):=(aey hc).or aez
end
structure Fg(K:aG)(mg:Str->Option Value)(x:Str)(s:Stmt)(f:Addr)(d:FuncData)(ps:List Str):Prop extends Fun K x x s f d where
 b:Binds K d ps []
 g:mg x=some (.ref f)
section
variable{X:Cx}{x:Str}{pos pos':Pos}{e:Expr}{te:TE}{i:Nat}
theorem gi{l:List Str}{y:Str}(i:Nat)(h:l[i]? = some y:=by rfl):l[i]? = some y:=h
theorem cpE{elt:Expr}{gs:List ajp}{scope:Scope}(h:PE X (.ListComp elt gs scope pos) te):PE X (.ListComp elt gs scope pos) te:=h
theorem cpS{elt:Expr}{gs:List ajp}{scope:Scope}{t:TS}{p2:Pos}(h:PS X (.Assign [.Name x pos] (.ListComp elt gs scope pos') p2) t):PS X (.Assign [.Name x pos] (.ListComp elt gs scope pos') p2) t:=h
theorem cpN(h:PE X (.Name x pos) te):PE X (.Name x pos) te:=h
theorem pwB{op:BoolOp}{es:List Expr}{t:TT}(h:PW X (.BoolOp op es pos) t):PT X (.BoolOp op es pos) t:=PW.pt h
structure Hold(p:Prop):Prop where
 h:p
theorem hdA{r:R2}(h:Hold (OpR X (jx .Add) r)):OpR X (jx .Add) r:=h.h
theorem hdE{r:R2}(h:Hold (OpR X (fB .Eq) r)):OpR X (fB .Eq) r:=h.h
theorem hdM{o:Expr}{m:Str}{es:List Expr}{kw:List lA}(h:Hold (PE X (.Call (.Attribute o m pos) es kw pos') te)):PE X (.Call (.Attribute o m pos) es kw pos') te:=h.h
theorem psS(i:Nat)(hN:X.N.Nodup)(he:PE X e te)(hi:X.N[i]? = some x:=by rfl)(hx:Loc X.env.scope x:=by exact Or.inl rfl)(hs:xU e (some (.Name x pos')) pos.line X.env=pure false:=by rfl)(hf:X.fn x=true\/X.env.scope.names.lookup x=some .local:=by first|exact .inl rfl|exact .inr rfl|assumption):
  PS X (.Assign [.Name x pos'] e pos) (alm te (o8 i)):=aln hN hi hx he hs hf
theorem pgN(i:Nat)(hN:X.N.Nodup)(hi:X.N[i]? = some x:=by rfl)(hx:Loc X.env.scope x:=by exact Or.inl rfl)(hf:X.fn x=true\/X.env.scope.names.lookup x=some .local:=by first|exact .inl rfl|exact .inr rfl|assumption):PG X (.Name x pos) (o8 i):=zK hN hi hx hf
theorem pf(i:Nat){f:Str}(hN:X.N[i]? = some x:=by rfl)(hv:Vis X.env.scope x:=by first|exact Or.inl rfl|exact Or.inr (Or.inl rfl)|exact Or.inr (Or.inr rfl))(hd:(x == ("__debug__" : Str))=false:=by decide)(hcd:(x == ("__classdict__" : Str))=false:=by decide)
  (hb:nQ (.Name x pos) f X.env (eval (.Name x pos) X.env)=eval (.Name x pos) X.env:=by rfl):PE X (.Attribute (.Name x pos) f pos') (alA X.K (alg i) f):=alB (pv i hN hv hd hcd) hb
end
abbrev FnK(P:aH)(w:World)(base:Heap){K:aG}{mg:Str->Option Value}{x:Str}{s:Stmt}{f:Addr}{d:FuncData}{ps:List Str}(_:Fg K mg x s f d ps)(CX:CXT)(k:Nat)(sp:Sp):Prop:=Fg K mg x s f d ps/\nA P w K mg base CX k f d ps sp
structure Mg(K:aG)(C:Addr)(n q:Str)(s:Stmt)(f:Addr)(d:FuncData)(ps:List Str):Prop extends Fun K n q s f d where
 b:Binds K d ps []
 m:Meth K C n f
abbrev FnM(P:aH)(w:World)(mg:Str->Option Value)(base:Heap){K:aG}{C:Addr}{n q:Str}{s:Stmt}{f:Addr}{d:FuncData}{ps:List Str}(_:Mg K C n q s f d ps)(CX:CXT)(k:Nat)(sp:Sp):Prop:=Mg K C n q s f d ps/\nA P w K mg base CX k f d ps sp
section
variable{X:Cx}{x m n q:Str}{pos apos pos':Pos}{e o:Expr}{es:List Expr}{ta:TE}{t:TA}{CX:CXT}{k:Nat}{C f:Addr}{fd:FuncData}{ps:List Str}{sp:Sp}{E:XK}{s:Stmt}
theorem aB(F:Fg X.K X.mg x s f fd ps/\nA X.prog X.w X.K X.mg X.base CX k f fd ps sp)(ha:PA X (e::es) t)(hr:fV k X.A:=by exact fV.mono (by assumption) tb_g%)(hx:Passes CX X E:=by first|exact aaA|exact aev|exact amc|exact aeu)
  (hg:Gl X x:=by rfl) (hdb:(x == ("__debug__" : Str))=false:=by decide) (he:aZ (e::es) X.env=(false,eval e X.env)::aZ es X.env:=by rfl) (hpl:(cY pos (aZ es X.env)).any (·.1)=false:=by rfl):
  PE X (.Call (.Name x pos') (e::es) [] pos) (alE sp [] E t):=aod F.2 hr hg F.1.g F.1.kp F.1.b .nil hx ha hdb he hpl
theorem cW{pl:Sem Bool}(ho:PE X o ta)(c:Cls X.K C)(F:Mg X.K C m q s f fd ps/\nA X.prog X.w X.K X.mg X.base CX k f fd ps sp)(ha:PA X (e::es) t)(hr:fV k X.A:=by exact fV.mono (by assumption) tb_g%)(hx:Passes CX X E:=by first|exact aaA|exact aev|exact amc|exact aeu)
  (hst:aZ (e::es) X.env=(false,eval e X.env)::aZ es X.env:=by rfl) (hpl:(cY pos (aZ es X.env)).any (·.1)=false:=by rfl)
  (ht:eval (.Call (.Attribute o m apos) (e::es) [] pos) X.env=(do
   let ov <-eval o X.env
   Np apos.atName
   let (f,first) <-BJ [ov] (Nj ov m pl)
   ac3 pos f first (cY pos (aZ (e::es) X.env)) (xW pos (xP [] X.env))):=by rfl) :
  PE X (.Call (.Attribute o m apos) (e::es) [] pos) (apP C m sp [] E ta t):=aoe ho c F.1.m F.2 hr F.1.b .nil hx ha hst hpl ht
theorem pC(hk:Mk X.K C f)(hm:X.mg x=some (.ref C))(F:Mg X.K C n q s f fd ps/\nA X.prog X.w X.K X.mg X.base CX k f fd ps sp)(ha:PA X (e::es) t)(hr:fV (k+1) X.A:=by exact fV.mono (by assumption) tb_g%)(hx:Passes CX X E:=by first|exact aaA|exact aev|exact amc|exact aeu)
  (hg:Gl X x:=by rfl) (hdb:(x == ("__debug__" : Str))=false:=by decide) (he:aZ (e::es) X.env=(false,eval e X.env)::aZ es X.env:=by rfl) (hpl:(cY pos (aZ es X.env)).any (·.1)=false:=by rfl):
  PE X (.Call (.Name x pos') (e::es) [] pos) (apQ C sp [] E t):=aof hk F.2 hr hg hm F.1.b .nil hx ha hdb he hpl
end
section
variable{prog:aH}{w:World}{A:aP}{E:Value->Shared->Prop}
end
section
variable{X:Cx}{pos:Pos}
end
end L2
namespace Tm
open PySem PyProof.Rows
class Rk where
 kd:SortKind
 R:Keyed->Int
 Ok:Keyed->Prop
class Rl [Rk] (prog:aH) (w:World) (A:aP) (E:Value->Shared->Prop) (s:Shared):Prop where
 lt:∀{x y:Keyed}{st:W5}{Q:Option Bool->W5->Prop},kindOf st=Rk.kd->Rk.Ok x->Rk.Ok y->Q (some (decide (Rk.R x<Rk.R y))) st->wpS (model prog w) A E s (lt' x y) Q st
section
variable[Rk]
def K(xs:Array Keyed)(i:Nat):Int:=match xs[i]? with
 |some x=>Rk.R x
 |none=>0
def kd0:SortKind:=Rk.kd
def Is(x:Keyed)(n:Int):Prop:=Rk.Ok x/\Rk.R x=n
structure SBase(a₀:Array Keyed)(st:W5):Prop where
 perm:(arrOf st).Perm a₀
 kind:kindOf st=kd0
 failed:failedOf st=none
 pend:pendingOf st=#[]
theorem SBase.size{a₀:Array Keyed}{st:W5}(h:SBase a₀ st):(arrOf st).size=a₀.size:=h.perm.size_eq
section
variable{prog:aH}{w:World}{A:aP}{E:Value->Shared->Prop}{s:Shared}[Rl prog w A E s]
end
structure Within(xs ys:Array Keyed)(a b:Nat):Prop where
 perm:ys.Perm xs
 out:∀i,i<a\/b<=i->ys[i]? = xs[i]?
section
variable{prog:aH}{w:World}{A:aP}{E:Value->Shared->Prop}{s:Shared}[Rl prog w A E s]
end
def kv(p:Keyed):Int:=Rk.R p
def Asc(l:List Keyed):Prop:=l.Pairwise fun x y=>kv x<=kv y
structure Mg(A B out ra rb:List Keyed):Prop where
 perm:(out++(ra++rb)).Perm (A++B)
 srt:Asc out
 sa:Asc ra
 sb:Asc rb
 le:∀x∈out,∀y∈ra++rb,kv x<=kv y
theorem amf{l:List Keyed}{x:Keyed}(h:Asc l)(hx:∀y∈l,kv y<=kv x):Asc (l++[x]):=
 aif.mpr #[h,ah9 _ _,fun a ha b hb=>by rw[cI.mp hb];exact hx a ha]
theorem Mg.pushB{A B out ra rb:List Keyed}{x:Keyed}(h:Mg A B out ra (x::rb))(hx:∀y∈ra,kv x<=kv y):Mg A B (out++[x]) ra rb where
 perm:=by
  refine List.Perm.trans ?_ h.perm;rw[dO];exact aqV _ (List.perm_middle (l₁:=ra) (l₂:=rb) (a:=x)).symm
 srt:=amf h.srt fun y hy=>h.le y hy x (by simp)
 sa:=h.sa
 sb:=(iG.mp h.sb).2
 le:=fun y hy z hz=>by
  rcases cF.mp hy with m|m
  ·exact h.le y m z (by rcases cF.mp hz with q|q <;> simp[q])
  ·rw[cI.mp m];rcases cF.mp hz with q|q
   ·exact hx z q
   ·exact(iG.mp h.sb).1 z q
structure Merged(A B out:List Keyed):Prop where
 perm:out.Perm (A++B)
 srt:Asc out
theorem Mg.start{A B:List Keyed}{x:Keyed}{rb:List Keyed}(ha:Asc A)(hb:Asc B)(e:B=x::rb)(hx:∀y∈A,kv x<=kv y):Mg A B [x] A rb:=by
 have h0:Mg A B [] A B:=#[aqW _,List.Pairwise.nil,ha,hb,fun _ h=>(nomatch h)];rw[e]at h0;have:=h0.pushB hx;rwa[<-e]at this
section
variable{prog:aH}{w:World}{A:aP}{E:Value->Shared->Prop}{s:Shared}[Rl prog w A E s]
end
end
section
variable{prog:aH}{w:World}{A:aP}{E:Value->Shared->Prop}{s:Shared}
end
end Tm
namespace L2
open PySem PySem.Spec PyProof.Rows
section
variable{X:Cx}
end
end L2
set_option autoImplicit false
namespace RG
abbrev Ls:=List (List Int)
def Sd(l:List Int):Prop:=l.Pairwise (· <= ·)
def srt(ns:List Int):List Int:=ns.mergeSort fun a b=>decide (a<=b)
theorem iM:∀{xs ys:List Int},xs.Perm ys->xs.Pairwise (· <= ·)->ys.Pairwise (· <= ·)->xs=ys
 |[],ys,p,_,_=>by rw[aiz.mp p]
 |x::xs,[],p,_,_=>absurd p (by simp)
 |x::xs,y::ys,p,h1,h2=>by
  have a1:=iG.mp h1;have a2:=iG.mp h2;have e:x=y:=by
   have m1:x∈y::ys:=p.mem_iff.mp bV;have m2:y∈x::xs:=p.mem_iff.mpr bV;rcases aO.mp m1 with z|z
   ·exact z
   ·rcases aO.mp m2 with z'|z'
    ·exact z'.symm
    ·exact ajU (a1.1 y z') (a2.1 x z)
  subst e;rw[iM (akU p) a1.2 a2.2]
theorem fU(ns:List Int):(srt ns).Perm ns:=Vv _ _
theorem vH(ns:List Int):Sd (srt ns):=by
 have:=acd (le:=fun a b:Int=>decide (a<=b)) (fun a b c h1 h2=>by simp only[decide_eq_true_eq]at *; lia) (fun a b=>by simp only[ade,decide_eq_true_eq];lia) ns;exact this.imp fun h=>of_decide_eq_true h
theorem Cp{ns ms:List Int}(p:ms.Perm ns)(h:ms.Pairwise (· <= ·)):ms=srt ns:=iM (p.trans (fU ns).symm) h (vH ns)
theorem fZ(ns:List Int):(srt ns).length=ns.length:=(fU ns).length_eq
theorem zM{z:Int}{ns:List Int}:z∈srt ns↔z∈ns:=(fU ns).mem_iff
def pick(o:Bool):List Int->List Int
 |a::b::r=>(if o then b else a)::pick o r
 |_=>[]
def lft:List Int->List Int
 |_::_::r=>lft r
 |l=>l
theorem zN:∀l:List Int,(lft l).length=l.length % 2
 |[]=>rfl
 |[_]=>rfl
 |_::_::r=>by
  have:=zN r;show(lft r).length=(r.length+1+1) % 2;lia
theorem kO(o:Bool):∀l:List Int,(pick o l).length=l.length / 2
 |[]=>by simp[pick]
 |[_]=>by simp[pick]
 |_::_::r=>by
  have:=kO o r;show(pick o r).length+1=(r.length+1+1) / 2;lia
theorem aaJ:∀l:List Int,lft l=l.drop (l.length-l.length % 2)
 |[]=>rfl
 |[_]=>rfl
 |a::b::r=>by
  have:=aaJ r;show lft r=(a::b::r).drop (r.length+1+1-(r.length+1+1) % 2);rwa[show r.length+1+1-(r.length+1+1) % 2=(r.length-r.length % 2)+1+1 by lia,ail,ail]
theorem afY{z:Int}:∀{l:List Int},z∈lft l->z∈l
 |[],h=>h
 |[_],h=>h
 |_::_::r,h=>cB _ (cB _ (afY (l:=r) h))
theorem aaK{o:Bool}{z:Int}:∀{l:List Int},z∈pick o l->z∈l
 |[],h=>nomatch h
 |[_],h=>nomatch h
 |a::b::r,h=>by
  rcases aO.mp h with e|e
  ·cases o
   ·rw[e];exact bV
   ·rw[e];exact cB _ bV
  ·exact cB _ (cB _ (aaK (l:=r) e))
theorem amg:∀{l:List Int},Sd l->Sd (lft l)
 |[],h=>h
 |[_],h=>h
 |_::_::r,h=>amg (l:=r) (iG.mp (iG.mp h).2).2
def cnt(x:Int)(l:List Int):Nat:=(l.filter fun z=>decide (z<=x)).length
def val:Ls->Nat
 |[]=>0
 |l::r=>l.length+2*val r
def nr(x:Int):Ls->Nat
 |[]=>0
 |l::r=>cnt x l+2*nr x r
def pot(h:Nat):Ls->Nat
 |[]=>0
 |l::r=>h*2 ^ h*l.length+pot (h+1) r
theorem aeA(ls:Ls):val ls=(ls.headD []).length+2*val ls.tail:=by cases ls <;> rfl
theorem amh(h:Nat)(ls:Ls):pot h ls=h*2 ^ h*(ls.headD []).length+pot (h+1) ls.tail:=by
 cases ls
 ·show 0=h*2 ^ h*0+0;rw[Nat.mul_zero]
 ·rfl
theorem XR{P:List Int->Prop}{ls:Ls}(h:∀l∈ls,P l)(h0:P []):P (ls.headD []):=by
 cases ls
 ·exact h0
 ·exact h _ bV
theorem aeB{P:List Int->Prop}{ls:Ls}(h:∀l∈ls,P l):∀l∈ls.tail,P l:=fun l hl=>h l (aii hl)
def fH(t:Int)(ls:Ls)(w:Nat):Ls:=
 if w=0 then ls else(if w % 2=1 then srt (ls.headD []++[t])else ls.headD [])::fH t ls.tail (w / 2)
termination_by w
decreasing_by lia
theorem f9(t:Int)(ls:Ls):fH t ls 0=ls:=by rw[fH,if_pos rfl]
theorem gk{w:Nat}(t:Int)(ls:Ls)(h:w≠0):fH t ls w=(if w % 2=1 then srt (ls.headD []++[t])else ls.headD [])::fH t ls.tail (w / 2):=by rw[fH,if_neg h]
theorem ahj{w:Nat}(t:Int)(h:w≠0):fH t [[]] w=fH t [] w:=by rw[gk t _ h,gk t [] h];rfl
theorem Ut(t:Int):∀(w:Nat)(ls:Ls),val (fH t ls w)=val ls+w:=by
 intro w
 induction w using BP with
 |_ w ih =>
  intro ls;by_cases h:w=0
  ·rw[h,f9];rfl
  ·rw[gk t ls h];show gZ _+2*val _=_;rw[ih (w / 2) tb_g%,aeA ls];split
   ·rw[fZ,bB];show _+1+_=_;lia
   ·lia
theorem ahk(t:Int):∀(w:Nat)(h:Nat)(ls:Ls),pot h ls<=pot h (fH t ls w):=by
 intro w
 induction w using BP with
 |_ w ih =>
  intro h ls;by_cases hw:w=0
  ·rw[hw,f9];exact aJ _
  ·rw[gk t ls hw,amh h ls];show _<=h*2 ^ h*gZ _+pot (h+1) _;have:=ih (w / 2) tb_g% (h+1) ls.tail;refine ajD (ajC _ ?_) this;split
   ·rw[fZ,bB];lia
   ·exact aJ _
theorem Uu{P:List Int->Prop}(t:Int)(h0:P [])(h1:∀l,P l->P (srt (l++[t]))):∀(w:Nat)(ls:Ls),(∀l∈ls,P l)->∀l∈fH t ls w,P l:=by
 intro w
 induction w using BP with
 |_ w ih =>
  intro ls hl;by_cases hw:w=0
  ·rwa[hw,f9]
  ·rw[gk t ls hw];intro l m;rcases aO.mp m with e|e
   ·rw[e];split
    ·exact h1 _ (XR hl h0)
    ·exact XR hl h0
   ·exact ih (w / 2) tb_g% ls.tail (aeB hl) l e
def Full(ls:Ls):Prop:=∀l,ls.getLast? = some l->l≠[]
theorem zO{l:List Int}{ls:Ls}(h:Full ls)(h0:ls=[]->l≠[]):Full (l::ls):=by
 intro m hm;cases ls with
 |nil=>simp at hm;rw[<-hm];exact h0 rfl
 |cons a r=>exact h m (by rwa[aia]at hm)
theorem uh{ls:Ls}(h:Full ls):Full ls.tail:=by
 intro m hm;cases ls with
 |nil=>exact nomatch hm
 |cons a r =>
  cases r with
  |nil=>exact nomatch hm
  |cons b r=>exact h m (by rwa[aia])
theorem aaL{t:Int}{w:Nat}{ls:Ls}(h:w≠0):fH t ls w≠[]:=by rw[gk t ls h];exact eZ _ _
theorem ahl{t:Int}{w:Nat}{ls:Ls}(h:fH t ls w=[]):w=0/\ls=[]:=by
 by_cases hw:w=0
 ·rw[hw,f9]at h;show#[hw,h]
 ·exact absurd h (aaL hw)
theorem aeC(t:Int):∀(w:Nat)(ls:Ls),Full ls->Full (fH t ls w):=by
 intro w
 induction w using BP with
 |_ w ih =>
  intro ls hl;by_cases hw:w=0
  ·rwa[hw,f9]
  ·rw[gk t ls hw];refine zO (ih (w / 2) tb_g% _ (uh hl)) fun e=>?_;have hw2:=(ahl e).1;rw[if_pos (show w % 2=1 by lia)];intro z;have:=congrArg gZ z;rw[fZ,bB]at this;exact absurd this (by show ¬ _+1=0;lia)
inductive Stl (room:Int):Nat->Int->Int->Int->Ls->Ls->Int->Int->Int->Prop
 |nil (h:Nat) (tn ov un:Int):Stl room h tn ov un [] [] tn ov un
 |keep {h:Nat} {tn ov un:Int} {l:List Int} {ls out:Ls} {tn' ov' un':Int}:(l.length:Int)<=room->Stl room (h+1) tn ov un ls out tn' ov' un'->Stl room h tn ov un (l::ls) (l::out) tn' ov' un'
 |turn {h:Nat} {tn ov un:Int} {l:List Int} {ls out:Ls} {tn' ov' un':Int}:room<(l.length:Int) ->
   Stl room (h+1) (tn+1) (if tn % 2=0 then ov+2 ^ h else ov) (if tn % 2=0 then un else un+2 ^ h) (srt (ls.headD []++pick (decide (tn % 2=1)) l)::ls.tail) out tn' ov' un'->Stl room h tn ov un (l::ls) (lft l::out) tn' ov' un'
theorem Stl.uniq{room:Int}{h:Nat}{tn ov un:Int}{ls out:Ls}{tn' ov' un':Int}(a:Stl room h tn ov un ls out tn' ov' un'):∀{out2:Ls}{tn2 ov2 un2:Int},Stl room h tn ov un ls out2 tn2 ov2 un2->out2=out/\tn2=tn'/\ov2=ov'/\un2=un':=by
 induction a with
 |nil=>intro _ _ _ _ b;cases b;show#[rfl,rfl,rfl,rfl]
 |keep hl _ ih =>
  intro _ _ _ _ b;cases b with
  |keep _ b=>obtain⟨e1,e2,e3,e4⟩:=ih b;show#[by rw[e1],e2,e3,e4]
  |turn hg _=>lia
 |turn hl _ ih =>
  intro _ _ _ _ b;cases b with
  |keep hg _=>lia
  |turn _ b=>obtain⟨e1,e2,e3,e4⟩:=ih b;show#[by rw[e1],e2,e3,e4]
theorem Stl.val{room:Int}{h:Nat}{tn ov un:Int}{ls out:Ls}{tn' ov' un':Int}(a:Stl room h tn ov un ls out tn' ov' un'):val out=val ls:=by
 induction a with
 |nil=>rfl
 |keep _ _ ih=>show _+2*_=_+2*_;rw[ih]
 | @turn _ _ _ _ l ls _ _ _ _ _ _ ih =>
  show gZ _+2*_=_+2*_;rw[ih,zN];show _+2*(gZ _+2*RG.val ls.tail)=_;rw[fZ,bB,kO,aeA ls];lia
theorem Stl.all{P:List Int->Prop}(h0:P [])(hL:∀l,P l->P (lft l))(hP:∀l m o,P l->P m->P (srt (l++pick o m))){room:Int}{h:Nat}{tn ov un:Int}{ls out:Ls}{tn' ov' un':Int}(a:Stl room h tn ov un ls out tn' ov' un'):(∀l∈ls,P l)->∀l∈out,P l:=by
 induction a with
 |nil=>exact id
 |keep _ _ ih =>
  intro hl l m;rcases aO.mp m with e|e
  ·rw[e];exact hl _ bV
  ·exact ih (fun l hm=>hl l (cB _ hm)) l e
 | @turn _ _ _ _ l0 ls _ _ _ _ _ _ ih =>
  intro hl l m;have h1:P l0:=hl _ bV;have h2:∀l∈ls,P l:=fun l hm=>hl l (cB _ hm);rcases aO.mp m with e|e
  ·rw[e];exact hL _ h1
  ·refine ih (fun l hm=>?_) l e;rcases aO.mp hm with z|z
   ·rw[z];exact hP _ _ _ (XR h2 h0) h1
   ·exact aeB h2 l z
theorem Stl.small{room:Int}(r1:1<=room){h:Nat}{tn ov un:Int}{ls out:Ls}{tn' ov' un':Int}(a:Stl room h tn ov un ls out tn' ov' un'):∀l∈out,(l.length:Int)<=room:=by
 induction a with
 |nil=>exact fun _ h=>nomatch h
 |keep hl _ ih =>
  intro l m;rcases aO.mp m with e|e
  ·rwa[e]
  ·exact ih l e
 |turn _ _ ih =>
  intro l m;rcases aO.mp m with e|e
  ·rw[e,zN];lia
  ·exact ih l e
theorem Stl.empty{room:Int}{h:Nat}{tn ov un:Int}{ls out:Ls}{tn' ov' un':Int}(a:Stl room h tn ov un ls out tn' ov' un')(e:out=[]):ls=[]:=by
 cases a with
 |nil=>rfl
 |keep _ _=>cases e
 |turn _ _=>cases e
theorem Stl.full{room:Int}(r1:1<=room){h:Nat}{tn ov un:Int}{ls out:Ls}{tn' ov' un':Int}(a:Stl room h tn ov un ls out tn' ov' un'):Full ls->Full out:=by
 induction a with
 |nil=>exact id
 | @keep _ _ _ _ l ls out _ _ _ _ a ih =>
  intro f;refine zO (ih (uh f)) fun e=>?_;have:=a.empty e;subst this;exact f l rfl
 | @turn _ _ _ _ l ls out _ _ _ hl a ih =>
  intro f;refine zO (ih (zO (uh (uh f)) fun _ z=>?_)) fun e=>?_
  ·have:=congrArg gZ z;rw[fZ,bB,kO]at this;have:(_:Nat)+l.length / 2=0:=this;lia
  ·exact absurd (a.empty e) (eZ _ _)
theorem Stl.mono{room:Int}{h:Nat}{tn ov un:Int}{ls out:Ls}{tn' ov' un':Int}(a:Stl room h tn ov un ls out tn' ov' un'):tn<=tn'/\ov<=ov'/\un<=un':=by
 induction a with
 |nil=>show#[cQ _,cQ _,cQ _]
 |keep _ _ ih=>exact ih
 | @turn h tn ov un _ _ _ _ _ _ _ _ ih =>
  have p:(0:Int)<2 ^ h:=adp tb_g%;obtain⟨i1,i2,i3⟩:=ih;show#[by lia,?_,?_]
  ·split at i2 <;> lia
  ·split at i3 <;> lia
theorem Stl.pot{room:Int}(ev:room % 2=0){h:Nat}{tn ov un:Int}{ls out:Ls}{tn' ov' un':Int}(a:Stl room h tn ov un ls out tn' ov' un'):room*(ov'+un'-ov-un)+pot h ls<=pot h out:=by
 induction a with
 |nil h tn ov un =>
  rw[show ov+un-ov-un=0 by lia,Int.mul_zero];lia
 | @keep h _ _ _ l ls out _ _ _ _ _ ih =>
  show _+((h*2 ^ h*l.length+RG.pot (h+1) ls:Nat):Int)<=((h*2 ^ h*l.length+RG.pot (h+1) out:Nat):Int);lia
 | @turn h tn ov un l ls out tn' ov' un' hl _ ih =>
  show _+((h*2 ^ h*l.length+RG.pot (h+1) ls:Nat):Int)<=((h*2 ^ h*(lft l).length+RG.pot (h+1) out:Nat):Int);have e:RG.pot (h+1) (srt (ls.headD []++pick (decide (tn % 2=1)) l)::ls.tail)=RG.pot (h+1) ls+(h+1)*2 ^ (h+1)*(l.length / 2):=by
   show(h+1)*2 ^ (h+1)*gZ _+RG.pot (h+1+1) ls.tail=_;rw[fZ,bB,kO,amh (h+1) ls,GJ];lia
  rw[e]at ih;have d:(if tn % 2=0 then ov+2 ^ h else ov)+(if tn % 2=0 then un else un+2 ^ h)=ov+un+2 ^ h:=by split <;> lia
  have ih2:room*(ov'+un'-(ov+un+2 ^ h))+((RG.pot (h+1) ls+(h+1)*2 ^ (h+1)*(l.length / 2):Nat):Int)<=RG.pot (h+1) out:=by
   rw[<-d];refine aj1 (Int.le_of_eq ?_) ih;congr 2;lia
  rw[zN];have m1:room*(ov'+un'-(ov+un+2 ^ h))=room*(ov'+un'-ov-un)-room*2 ^ h:=by
   rw[<-Int.mul_sub];congr 1;lia
  rw[m1]at ih2;have key:h*2 ^ h*l.length+(2*(l.length / 2))*2 ^ h=h*2 ^ h*(l.length % 2)+(h+1)*2 ^ (h+1)*(l.length / 2):=by
   have e1:l.length=2*(l.length / 2)+l.length % 2:=by lia
   generalize l.length / 2=m at e1 ⊢;generalize l.length % 2=c at e1 ⊢;rw[e1,mQ]
   grind
  have big:room*2 ^ h<=((2*(l.length / 2)*2 ^ h:Nat):Int):=by
   have r2:room<=((2*(l.length / 2):Nat):Int):=by lia
   have p:(0:Int)<=2 ^ h:=Int.pow_nonneg tb_g%;have:=T7 r2 p;rw[adh];rwa[WW]
  have key':((h*2 ^ h*l.length:Nat):Int)+((2*(l.length / 2)*2 ^ h:Nat):Int)=((h*2 ^ h*(l.length % 2):Nat):Int)+(((h+1)*2 ^ (h+1)*(l.length / 2):Nat):Int):=by
   rw[<-NT,<-NT,key]
  rw[NT,NT];rw[NT]at ih2;lia
theorem ami:∀(ls:Ls)(h:Nat),pot h ls<=(h+ls.length-1)*(2 ^ h*val ls)
 |[],h=>by show 0<=_;exact cJ _
 |l::r,h=>by
  have ih:=ami r (h+1);show h*2 ^ h*l.length+pot (h+1) r<=(h+(r.length+1)-1)*(2 ^ h*(l.length+2*val r));rw[show h+(r.length+1)-1=h+r.length by lia];rw[show h+1+r.length-1=h+r.length by lia]at ih;have e:2 ^ h*(l.length+2*val r)=2 ^ h*l.length+2 ^ (h+1)*val r:=by rw[mQ];grind
  rw[e,GJ];refine ajD ?_ ih;rw[uR];exact Dj _ tb_g%
theorem X4:∀{ls:Ls},Full ls->ls≠[]->2 ^ (ls.length-1)<=val ls
 |[],_,h=>absurd rfl h
 |[l],f,_=>by
  have:=f l rfl;show 1<=l.length+2*0;cases l with
  |nil=>exact absurd rfl this
  |cons a r=>show 1<=r.length+1+0;lia
 |l::m::r,f,_=>by
  have ih:=X4 (ls:=m::r) (uh f) (eZ _ _);show 2 ^ ((m::r).length+1-1)<=l.length+2*val (m::r);rw[show(m::r).length+1-1=((m::r).length-1)+1 by rw[bh];lia,mQ];lia
theorem X5{α:Type}{ms:List α}{p:Nat}{l:α}(h:ms[p]? = some l):ms.take (p+1)=ms.take p++[l]:=by rw[mL,h];rfl
theorem fO{α:Type}{ms:List α}{p:Nat}{l:α}(h:ms[p]? = some l):ms.drop p=l::ms.drop (p+1):=by
 obtain⟨hp,e⟩:=fu.mp h;rw[Mp hp,e]
theorem aaM{α:Type}{ms:List α}{p:Nat}{l m:α}(h:ms[p]? = some l):(ms.set p m).take (p+1)=ms.take p++[m]:=by
 obtain⟨hp,e⟩:=fu.mp h;rw[X5 (l:=m) (by rw[Mq hp]),ain (aJ _)]
theorem set_drop{α:Type}{ms:List α}{p:Nat}{m:α}:(ms.set p m).drop (p+1)=ms.drop (p+1):=by rw[aci (xX p)]
theorem DQ{α:Type}{ms:List α}{p:Nat}{l:α}(h:ms[p]? = some l):ms.set p l=ms:=by
 obtain⟨hp,e⟩:=fu.mp h;rw[<-e,List.set_getElem_self]
theorem Pk{t:Int}{ms:Ls}{p k:Nat}{l:List Int}(h:ms[p]? = some l)(hk:k≠0):
  (ms.set p (if k % 2=1 then srt (l++[t])else l)).take (p+1)++fH t ((ms.set p (if k % 2=1 then srt (l++[t])else l)).drop (p+1)) (k / 2)=ms.take p++fH t (ms.drop p) k:=by
 rw[aaM h,set_drop,fO h,gk t _ hk,dO];rfl
theorem aeD{t:Int}{ms:Ls}{p k:Nat}(h:p=ms.length)(hk:k≠0):(ms++[[]]).take p++fH t ((ms++[[]]).drop p) k=ms.take p++fH t (ms.drop p) k:=by
 rw[h,List.take_left,aix,nJ,Mu,ahj t hk]
theorem Cq:∀(xs ys:Ls),val (xs++ys)=val xs+2 ^ xs.length*val ys
 |[],ys=>by show val ys=0+1*val ys;lia
 |x::xs,ys=>by
  show x.length+2*val (xs++ys)=x.length+2*val xs+2 ^ (xs.length+1)*val ys;rw[Cq xs ys,mQ,GJ,WQ _ 2,uR];lia
structure Run(room tn ov un:Int)(ls:Ls)(q:Nat)(tn2 ov2 un2:Int)(ms:Ls):Prop where
 cont:∀out tn' ov' un',Stl room q tn2 ov2 un2 (ms.drop q) out tn' ov' un'->Stl room 0 tn ov un ls (ms.take q++out) tn' ov' un'
 vl:val (ms.take q)+2 ^ q*val (ms.drop q)=val ls
 le:q<=ms.length
 b1:(∀l∈ls,l.length<=31)->∀l∈ms,l.length<=62
 b2:(∀l∈ls,l.length<=31)->∀l∈ms.drop (q+1),l.length<=31
 b0:(∀l∈ls,(l.length:Int)<=room)->ms=ls
theorem Run.start{room tn ov un:Int}{ls:Ls}:Run room tn ov un ls 0 tn ov un ls:=
 #[fun _ _ _ _ h=>h,by show 0+1*_=_;rw[MF];lia,cJ _,fun h l hl=>by have:=h l hl;lia,fun h l hl=>h l (Mt hl),fun _=>rfl]
theorem Run.done{room tn ov un tn2 ov2 un2:Int}{ls ms:Ls}{q:Nat}(r:Run room tn ov un ls q tn2 ov2 un2 ms)(h:ms.length<=q):Stl room 0 tn ov un ls ms tn2 ov2 un2:=by
 have:=r.cont [] tn2 ov2 un2 (by rw[acf h];exact .nil _ _ _ _);rwa[iH,Jj h]at this
theorem Run.keep{room tn ov un tn2 ov2 un2:Int}{ls ms:Ls}{q:Nat}{l:List Int}(r:Run room tn ov un ls q tn2 ov2 un2 ms)(h:ms[q]? = some l)(hl:(l.length:Int)<=room):Run room tn ov un ls (q+1) tn2 ov2 un2 ms:=by
 obtain⟨hp,_⟩:=fu.mp h;show#[fun out tn' ov' un' s=>?_,?_,hp,r.b1,fun h l hl=>r.b2 h l (by rw[show q+1+1=1+(q+1) by lia,Nat.add_comm 1]at hl;exact Mt (i:=1) (by rwa[List.drop_drop])),r.b0]
 ·have:=r.cont (l::out) tn' ov' un' (by rw[fO h];exact .keep hl s);rwa[X5 h,dO]
 ·have:=r.vl;rw[fO h]at this;rw[X5 h,Cq,d8,WM tb_g%,<-this,mQ];show _+2 ^ q*(l.length+2*0)+_=_+2 ^ q*(l.length+2*_);rw[GJ,GJ,uR];lia
theorem Run.big{room tn ov un tn2 ov2 un2:Int}{ls ms:Ls}{q:Nat}{l:List Int}(r:Run room tn ov un ls q tn2 ov2 un2 ms)(h:ms[q]? = some l)(hl:l≠[]):2 ^ q<=val ls:=by
 have:=r.vl;rw[fO h]at this;have e:val (l::ms.drop (q+1))=l.length+2*val (ms.drop (q+1)):=rfl;have l1:1<=l.length:=by
  cases l with
  |nil=>exact absurd rfl hl
  |cons a b=>show 1<=b.length+1;lia
 have m:=ajC (2 ^ q) (show 1<=val (l::ms.drop (q+1)) by lia);lia
def More(q:Nat)(ms ms':Ls)(nx:List Int):Prop:=(ms'=ms/\ms[q+1]? = some nx)\/(q+1=ms.length/\ms'=ms++[[]]/\nx=[])
theorem More.at{q:Nat}{ms ms':Ls}{nx l:List Int}(m:More q ms ms' nx)(h:ms[q]? = some l):ms'[q]? = some l/\ms'[q+1]? = some nx/\ms'.take q=ms.take q/\(ms.drop (q+1)).headD []=nx/\(ms.drop (q+1)).tail=ms'.drop (q+2):=by
 rcases m with⟨rfl,e⟩|⟨e,rfl,rfl⟩
 ·show#[h,e,rfl,?_,?_]
  ·rw[fO e];rfl
  ·rw[fO e];rfl
 ·obtain⟨hp,_⟩:=fu.mp h;show#[by rwa[tK hp],by rw[e,xr (aJ _),xY];rfl,List.take_append_of_le_length tb_g%,?_,?_]
  ·rw[e,Mu];rfl
  ·rw[e,Mu,acf (by rw[bB];show _+1<=_;lia)];rfl
theorem Run.turn{room tn ov un tn2 ov2 un2:Int}{ls ms ms':Ls}{q:Nat}{l nx:List Int}(r:Run room tn ov un ls q tn2 ov2 un2 ms)(m:More q ms ms' nx)(h:ms[q]? = some l)(hl:room<(l.length:Int)):
  Run room tn ov un ls (q+1) (tn2+1) (if tn2 % 2=0 then ov2+2 ^ q else ov2) (if tn2 % 2=0 then un2 else un2+2 ^ q) ((ms'.set q (lft l)).set (q+1) (srt (nx++pick (decide (tn2 % 2=1)) l))):=by
 obtain⟨h1,h2,h3,h4,h5⟩:=m.at h;obtain⟨p1,_⟩:=fu.mp h1;obtain⟨p2,_⟩:=fu.mp h2;have e0:(ms'.set q (lft l))[q+1]? = some nx:=by rwa[Dh tb_g%]
 have e1:((ms'.set q (lft l)).set (q+1) (srt (nx++pick (decide (tn2 % 2=1)) l))).take (q+1)=ms.take q++[lft l]:=by
  rw[ain (aJ _),aaM h1,h3]
 have e2:((ms'.set q (lft l)).set (q+1) (srt (nx++pick (decide (tn2 % 2=1)) l))).drop (q+1)=srt (nx++pick (decide (tn2 % 2=1)) l)::(ms.drop (q+1)).tail:=by
  rw[fO (l:=srt (nx++pick (decide (tn2 % 2=1)) l)) (by rw[Mq (by rwa[iI])]),set_drop,aci tb_g%,h5]
 have hm:(∀l∈ls,l.length<=31)->∀k∈ms',k.length<=62:=by
  intro hs;rcases m with⟨rfl,_⟩|⟨_,rfl,_⟩
  ·exact r.b1 hs
  ·intro k hk;rcases cF.mp hk with z|z
   ·exact r.b1 hs k z
   ·rw[cI.mp z];exact cJ _
 have nx2:(∀l∈ls,l.length<=31)->nx.length<=31:=by
  intro hs;rcases m with⟨rfl,e⟩|⟨_,_,rfl⟩
  ·exact r.b2 hs nx (by rw[fO e];exact bV)
  ·exact cJ _
 have ll:(∀l∈ls,l.length<=31)->l.length<=62:=fun z=>r.b1 z l (xj h);show#[fun out tn' ov' un' s=>?_,?_,by rw[iI,iI];lia,fun hs k hk=>?_,fun hs k hk=>?_,fun hs=>?_]
 ·rw[e1,dO];refine r.cont (lft l::out) tn' ov' un' ?_;rw[fO h];refine .turn hl ?_;rw[h4];rwa[e2]at s
 ·have v:=r.vl;rw[fO h]at v;rw[e1,e2,Cq,d8,WM (by have:=r.le;lia),<-v,mQ];show _+2 ^ q*((lft l).length+2*0)+2 ^ q*2*((srt _).length+2*val _)=_+2 ^ q*(l.length+2*val _);rw[fZ,bB,kO,zN,aeA (ms.drop (q+1)),h4,uR,Nat.add_assoc,<-GJ];congr 2;lia
 ·rcases z9 hk with z|z
  ·rcases z9 z with z|z
   ·exact hm hs k z
   ·rw[z,zN];lia
  ·have:=nx2 hs;have:=ll hs;rw[z,fZ,bB,kO];lia
 ·rw[set_drop,aci tb_g%,<-h5]at hk;exact r.b2 hs k (aii hk)
 ·have e:=r.b0 hs;have:=hs l (by rw[<-e];exact xj h);lia
theorem Uv(t:Int):∀(n w:Nat)(ls:Ls),w<2 ^ n->(fH t ls w).length<=max ls.length n
 |0,w,ls,h=>by
  have:w=0:=by rw[WR]at h;lia
  rw[this,f9];lia
 |n+1,w,ls,h=>by
  by_cases hw:w=0
  ·rw[hw,f9];lia
  ·rw[gk t ls hw,bh];have:=Uv t n (w / 2) ls.tail (by rw[mQ]at h;lia);rw[List.length_tail]at this;lia
theorem Pn(t:Int){b:Nat}:∀(w:Nat)(ls:Ls),(∀l∈ls,l.length<=b)->∀l∈fH t ls w,l.length<=b+1:=by
 intro w
 induction w using BP with
 |_ w ih =>
  intro ls hl;by_cases hw:w=0
  ·rw[hw,f9];exact fun l h=>Ny (hl l h)
  ·rw[gk t ls hw];intro l m;have hd:=XR (P:=fun l=>l.length<=b) hl (cJ _);rcases aO.mp m with e|e
   ·rw[e];split
    ·rw[fZ,bB];show _+1<=_;lia
    ·exact Ny hd
   ·exact ih (w / 2) tb_g% ls.tail (aeB hl) l e
theorem HS(t:Int){P:Int->Prop}(ht:P t):∀(w:Nat)(ls:Ls),(∀l∈ls,∀z∈l,P z)->∀l∈fH t ls w,∀z∈l,P z:=
 Uu (P:=fun l=>∀z∈l,P z) t (fun _ h=>nomatch h) fun l hl z hz=>by
  rcases cF.mp (zM.mp hz)with e|e
  ·exact hl z e
  ·rwa[cI.mp e]
theorem amj(t:Int)(w:Nat)(ls:Ls)(h:∀l∈ls,Sd l):∀l∈fH t ls w,Sd l:=Uu (P:=Sd) t List.Pairwise.nil (fun _ _=>vH _) w ls h
theorem Stl.mem{P:Int->Prop}{room:Int}{h:Nat}{tn ov un:Int}{ls out:Ls}{tn' ov' un':Int}(a:Stl room h tn ov un ls out tn' ov' un'):(∀l∈ls,∀z∈l,P z)->∀l∈out,∀z∈l,P z:=
 a.all (P:=fun l=>∀z∈l,P z) (fun _ h=>nomatch h) (fun l hl z hz=>hl z (afY hz)) fun l m o hl hm z hz=>by
  rcases cF.mp (zM.mp hz)with e|e
  ·exact hl z e
  ·exact hm z (aaK e)
theorem Stl.sd{room:Int}{h:Nat}{tn ov un:Int}{ls out:Ls}{tn' ov' un':Int}(a:Stl room h tn ov un ls out tn' ov' un'):(∀l∈ls,Sd l)->∀l∈out,Sd l:=
 a.all (P:=Sd) List.Pairwise.nil (fun _=>amg) fun _ _ _ _ _=>vH _
structure Good(r T ov un:Int)(ls:Ls):Prop where
 r2:2<=r
 r64:r<=64
 ev:r % 2=0
 vl:(val ls:Int)=T
 sd:∀l∈ls,Sd l
 sm:∀l∈ls,(l.length:Int)<=r
 fl:Full ls
 pt:(ov+un)*r<=pot 0 ls
 ov0:0<=ov
 un0:0<=un
theorem Good.new{r:Int}(h1:2<=r)(h2:r<=64)(h3:r % 2=0):Good r 0 0 0 []:=
 #[h1,h2,h3,rfl,fun _ h=>(nomatch h),fun _ h=>(nomatch h),fun _ h=>(nomatch h),by show(0+0)*r<=0;lia,cQ _,cQ _]
theorem Good.add{r T ov un tn tn' ov' un' t w:Int}{ls out:Ls}(g:Good r T ov un ls)(w1:1<=w)(s:Stl r 0 tn ov un (fH t ls w.toNat) out tn' ov' un'):Good r (T+w) ov' un' out/\out≠[]:=by
 have h1:=g.r2;have mo:=s.mono;have o0:=g.ov0;have u0:=g.un0;show#[#[g.r2,g.r64,g.ev,?_,s.sd (amj t _ _ g.sd),s.small tb_g%,s.full tb_g% (aeC t _ _ g.fl),?_,by lia,by lia],fun e=>?_]
 ·rw[s.val,Ut];have:=g.vl;lia
 ·have p1:=s.pot g.ev;have p2:=ahk t w.toNat 0 ls;have p3:=g.pt;have e:r*(ov'+un'-ov-un)=(ov'+un')*r-(ov+un)*r:=by grind
  lia
 ·exact aaL tb_g% (s.empty e)
theorem Good.bits{r T ov un:Int}{ls:Ls}(g:Good r T ov un ls)(h:ls≠[]):(2:Int) ^ (ls.length-1)<=T:=by
 have:=X4 g.fl h;have e:=g.vl;have c:((2 ^ (ls.length-1):Nat):Int)=(2:Int) ^ (ls.length-1):=by rw[WW];rfl
 lia
theorem Good.near{r T ov un:Int}{ls:Ls}(g:Good r T ov un ls)(h:ls≠[]):(ov+un)*r<=T*((ls.length:Int)-1):=by
 have p:=ami ls 0;rw[WR,Nat.one_mul,GD]at p;have q:=g.pt;have l1:1<=ls.length:=by
  cases ls with
  |nil=>exact absurd rfl h
  |cons a b=>show 1<=b.length+1;lia
 have c:((ls.length-1)*val ls:Nat)=(((ls.length:Int)-1)*(val ls:Int)):=by rw[adh,Int.natCast_sub l1];rfl
 rw[g.vl]at c;rw[adk T];lia
theorem Good.len{r T ov un:Int}{ls:Ls}(g:Good r T ov un ls){n:Nat}(h:T<2 ^ n):ls.length<=n:=by
 by_cases e:ls=[]
 ·rw[e];exact cJ _
 ·have:=g.bits e;rcases iz (ls.length-1) n with z|z
  ·lia
  ·have p:=Nu (show 0<2 by decide) z;have c:((2 ^ n:Nat):Int)=(2:Int) ^ n:=by rw[WW];rfl
   have c2:((2 ^ (ls.length-1):Nat):Int)=(2:Int) ^ (ls.length-1):=by rw[WW];rfl
   lia
theorem Good.small{r T ov un:Int}{ls:Ls}(g:Good r T ov un ls):∀l∈ls,l.length<=64:=fun l h=>by have:=g.sm l h;have:=g.r64;lia
def tw(x:Int):List (Int × Int)->Int
 |[]=>0
 |p::r=>(if p.1<=x then p.2 else 0)+tw x r
def Rk(T ov un:Int)(ls:Ls)(rs:List (Int × Int)):Prop:=∀x,0<=tw x rs/\tw x rs<=T/\(nr x ls:Int)-ov<=tw x rs/\tw x rs<=nr x ls+un
def jn(l m:Ls)(i:Nat):List Int:=srt (l.getD i []++m.getD i [])
def amk(n:Nat)(l m:Ls):Ls:=(ju n).map (jn l m)
def join(l m:Ls):Ls:=amk (max l.length m.length) l m
theorem ahm(n:Nat)(l m:Ls):(amk n l m).length=n:=by
 unfold amk;rw[aC,air]
theorem yM(l m:Ls):(join l m).length=max l.length m.length:=ahm _ _ _
end RG
set_option autoImplicit false
namespace WN
structure Box where
 f:Int
 l:Int
 s:Int
def sum(bs:List Box):Int:=(bs.map (·.s)).sum
theorem sum_nil:sum []=0:=rfl
theorem sum_cons(b:Box)(r:List Box):sum (b::r)=b.s+sum r:=by unfold sum;rw[cP,gG]
theorem sum_append(a b:List Box):sum (a++b)=sum a+sum b:=by unfold sum;rw[bG,Mv]
def settle(room:Int):Int->Box->List Box->List Box
 |_,b,[]=>[b]
 |S,b,o::os=>if(b.s+o.s)*room<=S then settle room S #[o.f,b.l,b.s+o.s] os else b::settle room (S+b.s) o os
theorem Cr(room S:Int)(b:Box):settle room S b []=[b]:=rfl
theorem fX(room S:Int)(b o:Box)(os:List Box):settle room S b (o::os)=if(b.s+o.s)*room<=S then settle room S #[o.f,b.l,b.s+o.s] os else b::settle room (S+b.s) o os:=rfl
def settled(room:Int):List Box->List Box
 |[]=>[]
 |b::os=>settle room 0 b os
theorem Cu(room:Int):∀(os:List Box)(S:Int)(b:Box),sum (settle room S b os)=b.s+sum os
 |[],S,b=>by rw[Cr,sum_cons]
 |o::os,S,b=>by
  rw[fX,sum_cons];split
  ·rw[Cu room os];show b.s+o.s+sum os=_;lia
  ·rw[sum_cons,Cu room os]
theorem aaN(room:Int)(bs:List Box):sum (settled room bs)=sum bs:=by
 cases bs with
 |nil=>rfl
 |cons b os=>show sum (settle room 0 b os)=_;rw[Cu,sum_cons]
theorem Cv(room:Int):∀(os:List Box)(S:Int)(b:Box),(settle room S b os).length<=os.length+1
 |[],S,b=>by rw[Cr];simp
 |o::os,S,b=>by
  rw[fX];split
  ·have:=Cv room os S #[o.f,b.l,b.s+o.s];simp only[bh];lia
  ·have:=Cv room os (S+b.s) o;simp only[bh];lia
theorem aaO(room:Int)(bs:List Box):(settled room bs).length<=bs.length:=by
 cases bs with
 |nil=>exact aJ _
 |cons b os=>exact Cv room os 0 b
def Multi(room:Int):Int->List Box->Prop
 |_,[]=>True
 |S,b::os=>(b.f≠b.l->b.s*room<=S)/\Multi room (S+b.s) os
def yN(room:Int):Int->List Box->Prop
 |_,[]=>True
 |_,[_]=>True
 |S,b::o::os=>S<(b.s+o.s)*room/\yN room (S+b.s) (o::os)
theorem Multi.mono{room:Int}:∀{bs:List Box}{S S':Int},S<=S'->Multi room S bs->Multi room S' bs
 |[],_,_,_,_=>trivial
 |b::os,S,S',h,m=>#[fun z=>aj1 (m.1 z) h,Multi.mono tb_g% m.2]
theorem vI(room:Int):∀(os:List Box)(S:Int)(b:Box),(b.f≠b.l->b.s*room<=S)->Multi room (S+b.s) os->Multi room S (settle room S b os)
 |[],S,b,h,_=>#[h,trivial]
 |o::os,S,b,h,m=>by
  rw[fX];split
  ·rename_i c;exact vI room os S _ (fun _=>c) (by show Multi room (S+(b.s+o.s)) os;rw[<-ajW];exact m.2)
  ·show#[h,vI room os (S+b.s) o m.1 m.2]
theorem RX{room:Int}{bs:List Box}(h:Multi room 0 bs):Multi room 0 (settled room bs):=by
 cases bs with
 |nil=>trivial
 |cons b os=>exact vI room os 0 b h.1 h.2
theorem vJ{room:Int}(hr:0<=room):∀(os:List Box)(S:Int)(b:Box),0<=b.s->(∀x∈os,0<=x.s)->(∃h t,settle room S b os=h::t/\b.s<=h.s)/\yN room S (settle room S b os)
 |[],S,b,_,_=>#[#[b,[],rfl,cQ _],trivial]
 |o::os,S,b,hb,ho=>by
  have h0:=ho o bV;rw[fX];split
  ·obtain⟨⟨h,t,e,le⟩,n⟩:=vJ hr os S #[o.f,b.l,b.s+o.s] (by show 0<=b.s+o.s;lia) fun x m=>ho x (cB _ m);have le':b.s+o.s<=h.s:=le;show#[#[h,t,e,by lia],n]
  ·rename_i c;obtain⟨⟨h,t,e,le⟩,n⟩:=vJ hr os (S+b.s) o h0 fun x m=>ho x (cB _ m);show#[#[b,_,rfl,cQ _],?_];rw[e]at n ⊢;show#[?_,n];have:(b.s+o.s)*room<=(b.s+h.s)*room:=T7 tb_g% hr;lia
theorem RZ{room:Int}(hr:0<=room){bs:List Box}(h:∀x∈bs,0<=x.s):yN room 0 (settled room bs):=by
 cases bs with
 |nil=>trivial
 |cons b os=>exact(vJ hr os 0 b (h b bV) fun x m=>h x (cB _ m)).2
structure Sums(P:Int->Int):Prop where
 zero:∀n,n<=0->P n=0
 mono:∀a b,a<=b->P a<=P b
def Chain(P:Int->Int)(edge:Int):Int->List Box->Prop
 |u,[]=>edge<=u->P u=P edge
 |u,b::os=>1<=b.f/\b.f<=b.l/\b.l<=u/\P u=P b.l/\b.s=P b.l-P (b.f-1)/\P (b.f-1)<P b.f/\P (b.l-1)<P b.l/\Chain P edge (b.f-1) os
theorem Chain.pos{P:Int->Int}(hP:Sums P){edge:Int}:∀{bs:List Box}{u:Int},Chain P edge u bs->∀b∈bs,1<=b.s
 |b::os,u,⟨_,h2,_,_,h5,h6,_,r⟩,x,m=>by
  walk_at "q"
  ·have:=hP.mono x.f x.l h2;lia
  ·exact Chain.pos hP r x m
theorem Chain.below{P:Int->Int}{edge:Int}:∀{bs:List Box}{u:Int},Chain P edge u bs->∀b∈bs,1<=b.f/\b.f<=b.l/\b.l<=u
 |b::os,u,⟨h1,h2,h3,_,_,_,_,r⟩,x,m=>by
  walk_at "q"
  ·show#[h1,h2,h3]
  ·obtain⟨k1,k2,k3⟩:=Chain.below r x m;show#[k1,k2,by lia]
theorem Chain.join{P:Int->Int}{edge u:Int}{b o:Box}{os:List Box}(h:Chain P edge u (b::o::os)):Chain P edge u (#[o.f,b.l,b.s+o.s]::os):=by
 obtain⟨h1,h2,h3,h4,h5,h6,h7,k1,k2,k3,k4,k5,k6,k7,r⟩:=h;show#[k1,?_,h3,h4,?_,k6,h7,r]
 ·show o.f<=b.l;lia
 ·show b.s+o.s=P b.l-P (o.f-1);lia
theorem Chain.settle{P:Int->Int}{edge room:Int}:∀{os:List Box}{S u:Int}{b:Box},Chain P edge u (b::os)->Chain P edge u (settle room S b os)
 |[],S,u,b,h=>h
 |o::os,S,u,b,h=>by
  rw[fX];split
  ·exact Chain.settle h.join
  ·obtain⟨h1,h2,h3,h4,h5,h6,h7,r⟩:=h;show#[h1,h2,h3,h4,h5,h6,h7,Chain.settle r]
theorem Chain.settled{P:Int->Int}{edge room:Int}{bs:List Box}{u:Int}(h:Chain P edge u bs):Chain P edge u (settled room bs):=by
 cases bs with
 |nil=>exact h
 |cons b os=>exact Chain.settle h
def low(e:Int)(bs:List Box):Int:=sum (bs.filter fun b=>decide (e<b.f))
def cut(e:Int)(bs:List Box):Int:=sum (bs.filter fun b=>decide (b.f<=e/\e<b.l))
theorem aml{P:Int->Int}{edge e:Int}:∀{bs:List Box}{u:Int},Chain P edge u bs->u<=e->low e bs=0/\cut e bs=0:=by
 intro bs u h hu;have k:=Chain.below h;constructor
 ·unfold low;rw[Mr.mpr (fun x m=>by obtain⟨_,_,_⟩:=k x m;simp;lia)];rfl
 ·unfold cut;rw[Mr.mpr (fun x m=>by obtain⟨_,_,_⟩:=k x m;simp;lia)];rfl
theorem Chain.near{P:Int->Int}{edge e room:Int}(hr:0<=room):∀{bs:List Box}{u S:Int},Chain P edge u bs->Multi room S bs->cut e bs*room<=S+low e bs\/cut e bs=0
 |[],u,S,_,_=>.inr rfl
 |b::os,u,S,h,m=>by
  obtain⟨h1,h2,h3,h4,h5,h6,h7,r⟩:=h;by_cases c1:e<b.f
  ·have e1:low e (b::os)=b.s+low e os:=by unfold low;rw[ace (by simpa using c1),sum_cons]
   have e2:cut e (b::os)=cut e os:=by unfold cut;rw[Vp (by simp;lia)]
   rw[e1,e2];rcases Chain.near (e:=e) hr r m.2 with z|z
   ·exact .inl tb_g%
   ·exact .inr z
  ·obtain⟨k1,k2⟩:=aml r (e:=e) tb_g%;have e1:low e (b::os)=low e os:=by unfold low;rw[Vp (by simpa using c1)]
   by_cases c2:e<b.l
   ·have e2:cut e (b::os)=b.s+cut e os:=by unfold cut;rw[ace (by simp;lia),sum_cons]
    refine .inl ?_;rw[e1,e2,k1,k2];have:=m.1 tb_g%;simpa using this
   ·have e2:cut e (b::os)=cut e os:=by unfold cut;rw[Vp (by simp;lia)]
    exact .inr (by rw[e2,k2])
theorem ig{a:Int}(h:0<a)(n:Nat):0<a ^ n:=adp h
theorem grown{room:Int}(hr:1<=room):∀(q:Nat){bs:List Box}{S:Int},1<=S->yN room S bs->bs.length=2*q->S*(room+1) ^ q<=(S+sum bs)*room ^ q/\(0<q->S*(room+1) ^ q<(S+sum bs)*room ^ q)
 |0,bs,S,h,n,l=>by
  have:bs=[]:=Ji.mp tb_g%;subst this;show#[?_,fun z=>absurd z (oh _)];rw[sum_nil];simp
 |q+1,bs,S,h,n,l=>by
  match bs,n,l with
  |b::o::os,n,l =>
   have l':os.length=2*q:=by simp only[bh]at l;lia
   obtain⟨n1,n2⟩:=n;have n3:yN room (S+b.s+o.s) os:=by
    cases os with
    |nil=>trivial
    |cons c cs=>exact n2.2
   have hb:S*(room+1)+1<=(S+b.s+o.s)*room:=by
    rw[ado,adl,ajW S b.s o.s,WX];lia
   have S0:1<=S+b.s+o.s:=by
    by_cases c:1<=S+b.s+o.s
    ·exact c
    ·have:(S+b.s+o.s)*room<=0:=Int.mul_nonpos_of_nonpos_of_nonneg tb_g% tb_g%;have:0<=S*(room+1):=ajV tb_g% tb_g%;lia
   obtain⟨g1,_⟩:=grown hr q S0 n3 l';have p0:=ig (show(0:Int)<room+1 by lia) q;have p1:=ig (show(0:Int)<room by lia) q;have strict:S*(room+1) ^ (q+1)<(S+sum (b::o::os))*room ^ (q+1):=by
    rw[sum_cons,sum_cons,yd,yd];have e1:S*((room+1) ^ q*(room+1))=S*(room+1)*(room+1) ^ q:=by rw[adk ((room+1) ^ q),BW]
    have e2:(S+(b.s+(o.s+sum os)))*(room ^ q*room)=(S+b.s+o.s+sum os)*room ^ q*room:=by rw[<-BW];congr 2;lia
    rw[e1,e2];have k1:(S*(room+1)+1)*(room+1) ^ q<=(S+b.s+o.s)*room*(room+1) ^ q:=T7 hb tb_g%;have k2:(S+b.s+o.s)*(room+1) ^ q*room<=(S+b.s+o.s+sum os)*room ^ q*room:=T7 g1 tb_g%;have e3:(S+b.s+o.s)*room*(room+1) ^ q=(S+b.s+o.s)*(room+1) ^ q*room:=by rw[ajR]
    rw[WX,adn]at k1;lia
   show#[Int.le_of_lt strict,fun _=>strict]
theorem few{room:Int}(hr:1<=room){bs:List Box}(pos:∀b∈bs,1<=b.s)(n:yN room 0 bs):∀p:Nat,2+2*p<bs.length->(room+1) ^ (p+1)<sum bs*room ^ (p+1):=by
 have shrink:∀(k:Nat){bs:List Box}{S:Int},yN room S bs->yN room S (bs.take k):=by
  intro k bs
  induction bs generalizing k with
  |nil=>intro S _;rw[VF];trivial
  |cons b r ih =>
   intro S h;cases k with
   |zero=>trivial
   |succ k =>
    cases r with
    |nil=>rw[Vw,VF];trivial
    |cons o os =>
     cases k with
     |zero=>rw[Vw,acs];trivial
     |succ k=>show#[h.1,ih (k+1) h.2]
 have aoD:∀(k:Nat){bs:List Box},(∀b∈bs,1<=b.s)->sum (bs.take k)<=sum bs:=by
  intro k bs
  induction bs generalizing k with
  |nil=>intro _;rw[VF];exact cQ _
  |cons b r ih =>
   intro h;cases k with
   |zero =>
    have:∀{l:List Box},(∀b∈l,1<=b.s)->0<=sum l:=fun {l}=>by
     induction l with
     |nil=>intro _;exact cQ _
     |cons c cs ih=>intro h;rw[sum_cons];have:=h c bV;have:=ih fun x m=>h x (cB _ m);lia
    rw[acs];exact this h
   |succ k=>rw[Vw,sum_cons,sum_cons];have:=ih k fun x m=>h x (cB _ m);lia
 intro p hl
 match bs,pos,n,hl with
 |b::r,pos,n,hl =>
  have lr:2*(p+1)<=r.length:=by simp only[bh]at hl;lia
  have hb:=pos b bV;have n2:yN room b.s (r.take (2*(p+1))):=by
   refine shrink _ ?_;cases r with
   |nil=>trivial
   |cons o os=>have:=n.2;rwa[Int.zero_add]at this
  obtain⟨_,g⟩:=grown hr (p+1) hb n2 (by rw[d8];lia);have g':=g (ac9 _);have s1:=aoD (2*(p+1)) (bs:=r) fun x m=>pos x (cB _ m);have p0:=ig (show(0:Int)<room+1 by lia) (p+1);have p1:=ig (show(0:Int)<room by lia) (p+1);have k1:1*(room+1) ^ (p+1)<=b.s*(room+1) ^ (p+1):=T7 hb tb_g%;have k2:(b.s+sum (r.take (2*(p+1))))*room ^ (p+1)<=(b.s+sum r)*room ^ (p+1):=T7 tb_g% tb_g%;rw[sum_cons];lia
end WN
namespace L2
open PySem PySem.Spec PyProof.Rows
section
variable{prog:aH}{w:World}{A:aP}{E:Value->Shared->Prop}{s:Shared}
def outR(Q E:Value->Shared->Prop)(r:lC)(z:Shared):Prop:=match r with
 | .ok (.ret u)=>Q u z
 | .ok _=>False
 | .error u=>E u z
def outF(prog:aH)(w:World)(A:aP)(Q E:Value->Shared->Prop)(f:Fin)(z:Shared):Prop:=match f with
 | .done g=>outR Q E (.ok g) z
 | .again c=>c.quiet=true/\fY (model prog w) A c (outR Q E) z
theorem aoE{id:String}{b:dM}{xs:List Value}{kw:List (Str × Value)}{Q:Value->Shared->Prop}(hk:acU id=none)
  (hp:Wx id=true) (hb:Gs table id=some b) (ha:GC id #[xs,kw])
  (hc:wpAny (model prog w) A.in1 (b #[xs,kw]) (outF prog w A Q E) E s):wpAny (model prog w) A (call (.builtin id) xs kw) Q E s:=by
 refine nR (Bj hp hb ?_);simp only [V8,hk];have hc2:=dH hc (Q':=fun f z=>match f with
  | .done g=>outR Q E (.ok g) z
  | .again c=>c.quiet=true/\fY (model prog w) A c (outR Q E) z) (fun _ _ h=>h) fun _ _ h=>h
 generalize hsig:Manifest.signature? id=sg at *;cases sg with
 |none=>exact aK hc2
 |some sig =>
  have e:ak1 id sig #[xs,kw]=pure ():=by
   simp only[GC,hsig]at ha;exact ha
  refine(?_:wpAny _ A.in1 (ak1 id sig #[xs,kw]) _ _ s);rw[e];exact aK hc2
end
def bdB(b:Bool)(xs:Array (Int × Tok))(i j:Nat):Bool:=cond b (decide (numAt xs i<numAt xs j)) (decide (numAt xs i>numAt xs j))
theorem amm(b:Bool):Gs table (cond b "min.loop" "max.loop")=some (cond b dM.«min.loop» dM.«max.loop»)/\Wx (cond b "min.loop" "max.loop")=true/\(toString (cond b "min" "max")++toString ".loop" : String)=cond b "min.loop" "max.loop" := by
 cases b
 ·show#[F.entry_max_loop,F.plain_max_loop,by decide]
 ·show#[F.entry_min_loop,F.plain_min_loop,by decide]
theorem bd_as{prog:aH}{w:World}{A:aP}(b:Bool)(xs:Array (Int × Tok)):acU (cond b "min" "max")=none/\Wx (cond b "min" "max")=true/\Gs table (cond b "min" "max")=some (cond b dM.«min» dM.«max»)/\CmpOf prog w A (cond b .Lt .Gt) (fun i v=>(Bx xs)[i]? = some v) (bdB b xs):=by
 cases b
 ·show#[F.kind_max,F.plain_max,F.entry_max,CmpOf.ints_gt (numAt xs) fun _ _=>acV]
 ·show#[F.kind_min,F.plain_min,F.entry_min,CmpOf.ints_lt (numAt xs) fun _ _=>acV]
theorem aoF(b:Bool)(a d:Value):GC (cond b "min" "max") #[[a],[("default",d)]]:=by cases b <;> (unfold GC;kernel_rfl)
section
variable{prog:aH}{w:World}{A:aP}{R:lC->Shared->Prop}{it:Addr}{fp wr:List Addr}{n:Nat}{P:Nat->Value->Prop}{St:Nat->Heap->Prop}
theorem amn(b:Bool)(W:Walks prog w A.in1 it fp wr n P St)(bt:Nat->Nat->Bool)
  (cm:CmpOf prog w A.in1 (cond b .Lt .Gt) P bt) (S:Addr) (nS:S∉fp) (kw:List (Str × Value)):
  ∀(k j:Nat)(s:Shared)(u:Value)(c:Nat),k+(j+1)=n->St (j+1) s.heap->P (lB bt j) u ->
   s.heap.get? S=some { cls:=.type "list",data:=.seq [u,u].toArray c } ->
   (∀ v h' tk,P (lB bt (n-1)) v->(∀ b o,b∉wr->b≠S->s.heap.get? b=some o->h'.get? b=some o) ->
    R (.ok (.ret v)) { s with heap:=h',toks:=tk }) ->
   fY (model prog w) A (.builtin (cond b "min.loop" "max.loop") #[[.ref it,.none,.ref S],kw]) R s:=by
 obtain⟨el,pl,nm⟩:=amm b;cases b;all_goals
  dsimp only[cond]at *;have nw:S∉wr:=fun h=>nS (W.sub _ h);intro k
  induction k with
  |zero =>
   intro j s u c e st pu hS post;have ej:j=n-1:=by lia
   have en:j+1=n:=by lia
   rw[ej]at pu;rw[en]at st;refine qY el ?_;rw[Dk pl _];refine aA (qt hS rfl ?_);refine aA (Bq (W.done s _ _ st fun h1 tk1 kp=>?_));refine aA (uO (kp S _ nw hS) rfl (aA (Bs (aK ?_))));exact post u _ tk1 pu fun b o nb nbS eb=>by
    rw[mO _ _ (aL nbS)];exact kp b o nb eb
  |succ k ih =>
   intro j s u c e st pu hS post;refine qY el ?_;rw[Dk pl _];refine aA (qt hS rfl ?_);refine aA (Bq (W.item (j+1) s _ _ tb_g% st fun v h1 tk1 pv st1 kp=>?_));have hS1:=kp S _ nw hS;refine aA (aK ?_);refine aA (Bq (iU (aA (cm (j+1) (lB bt j) v u _ _ _ pv pu ?_))));refine aA (iU (Bk (aA (Bs (aK ?_)))));have ab:lB bt (j+1)=if bt (j+1) (lB bt j)then j+1 else lB bt j:=rfl
   cases hb:bt (j+1) (lB bt j)with
   |true =>
    rw[hb,if_pos rfl]at ab;rw[if_pos rfl];refine aA (uO hS1 rfl (aA (Bs ?_)));rw[nm];refine aK #[qZ pl _,ih (j+1) _ v _ tb_g% (W.frame _ _ _ st1 fun b hb o eb=>?_) (by rw[ab];exact pv) (qu _ hS1 rfl) fun v2 h2 tk2 p2 k2=>?_]
    ·rwa[mO _ _ (fun z:S=b=>nS (z ▸ hb))]
    ·exact post v2 h2 tk2 p2 fun b o nb nbS eb=>k2 b o nb nbS (by
      rw [mO _ _ (aL nbS)];exact kp b o nb eb)
   |false =>
    rw[hb,if_neg tb_g%]at ab;rw[if_neg tb_g%];refine aA (Bs ?_);rw[nm];refine aK #[qZ pl _,ih (j+1) _ u c tb_g% st1 (by rwa[ab]) hS1 fun v2 h2 tk2 p2 k2=>?_];exact post v2 h2 tk2 p2 fun b o nb nbS eb=>k2 b o nb nbS (kp b o nb eb)
theorem aaP(b:Bool)(W:Walks prog w A.in1 it fp wr n P St)(bt:Nat->Nat->Bool)
  (cm:CmpOf prog w A.in1 (cond b .Lt .Gt) P bt) (S:Addr) (nS:S∉fp) (d:Value) {s:Shared} {c:Nat} (st:St 0 s.heap)
  (hS:s.heap.get? S=some { cls:=.type "list",data:=.seq #[] c })
  (post:∀ v h' tk,(if 0<n then P (lB bt (n-1)) v else v=d)->(∀ b o,b∉wr->b≠S->s.heap.get? b=some o->h'.get? b=some o) ->
   R (.ok (.ret v)) { s with heap:=h',toks:=tk }) :
  fY (model prog w) A (.builtin (cond b "min.loop" "max.loop") #[[.ref it,.none,.ref S],[("default",d)]]) R s:=by
 obtain⟨el,pl,nm⟩:=amm b;have bg:=amn (prog:=prog) (w:=w) (A:=A) (R:=R) (it:=it) (fp:=fp) (wr:=wr) (n:=n) (P:=P) (St:=St) b;cases b;all_goals
  dsimp only[cond]at *;have nw:S∉wr:=fun h=>nS (W.sub _ h);refine qY el ?_;rw[Dk pl _];refine aA (qt hS rfl ?_);rcases Nv n with e|e
  ·subst e;refine aA (Bq (W.done s _ _ st fun h1 tk1 kp=>?_));refine aA (Nh ?_);exact aK (post d h1 tk1 rfl fun b o nb _ eb=>kp b o nb eb)
  ·refine aA (Bq (W.item 0 s _ _ e st fun v h1 tk1 pv st1 kp=>?_));have hS1:=kp S _ nw hS;refine aA (aK ?_);refine aA (uO hS1 rfl ?_);rw[nm];refine aK #[qZ pl _,bg W bt cm S nS _ (n-1) 0 _ v _ tb_g% (W.frame _ _ _ st1 fun b hb o eb=>?_) pv (qu _ hS1 rfl) fun v2 h2 tk2 p2 k2=>?_]
   ·rwa[mO _ _ (fun z:S=b=>nS (z ▸ hb))]
   ·exact post v2 h2 tk2 (by rw [if_pos (show 0<n from e)];exact p2) fun b o nb nbS eb=>k2 b o nb nbS (by
     rw [mO _ _ (aL nbS)];exact kp b o nb eb)
end
section
variable{prog:aH}{w:World}{A:aP}{E:Value->Shared->Prop}{s:Shared}{l:Addr}{xs:Array (Int × Tok)}
theorem aeE(b:Bool){Q:Value->Shared->Prop}(d:Value)(hh:A.handled=none)(hl:s.heap.IsList l (Bx xs))
  (post:∀ v h' tk,(if 0<xs.size then (Bx xs)[lB (bdB b xs) (xs.size-1)]? = some v else v=d) ->
   (∀ b o,s.heap.get? b=some o->h'.get? b=some o)->Q v { s with heap:=h',toks:=tk }) :
  wpAny (model prog w) A (call (.builtin (cond b "min" "max")) [.ref l] [("default",d)]) Q E s:=by
 have bf:=fun {R it fp wr n P St}=>aaP (prog:=prog) (w:=w) (A:=A) (R:=R) (it:=it) (fp:=fp) (wr:=wr) (n:=n) (P:=P) (St:=St) b;have ar:=aoF b (.ref l) d;obtain⟨el,pl,nm⟩:=amm b;obtain⟨k0,p0,e0,cm⟩:=bd_as (prog:=prog) (w:=w) (A:=A.in1) b xs;cases b;all_goals
  dsimp only[cond]at *;have sz:(Bx xs).size=xs.size:=by simp[Bx]
  refine aoE k0 p0 e0 ar ?_;refine aA (wpAny_of_eq (show aq4 _ ["key","default"] 0 #[[],[("default",d)]]=pure [none,some d]from rfl) ?_);refine aA (aK ?_);refine aA (iter_intList hl fun s2 e st hfp nlI=>?_);subst e;refine aA (acM ?_);rw[nm];refine aK #[qZ pl _,bf (adT (A:=A.in1) hh _ l nlI (Bx xs)) _ cm _ (fun hm=>oh _ (hfp _ hm)) d ?_ (dN _ rfl) fun v h' tk hv kp=>?_]
  ·exact(adT (A:=A.in1) (prog:=prog) (w:=w) hh _ l nlI (Bx xs)).frame _ _ _ st fun b _ o e=>cU _ e
  ·rw[sz]at hv;refine post v h' tk hv fun b o e=>kp b o ?_ ?_ (cU _ (cU _ e))
   ·intro hm;have h1:=cI.mp hm;have h2:=aR e;rw[h1]at h2;exact oh _ h2
   ·have h2:=aR e;rw[tR];exact bR (Nx h2)
end
section
variable{X:Cx}{x:Str}{de:Expr}{tl td:TE}{px p kp pos:Pos}
def Best(lo:Bool)(dv:V)(ns:List Int)(v:V):Prop:=(ns=[]/\v=dv)\/∃m,v=.int m/\m∈ns/\∀z∈ns,if lo then m<=z else z<=m
def asr(K:aG)(lo:Bool)(tl td:TE):TE:=fun σ H Q=>tl σ H fun y H1=>td σ H1 fun dv H2=>∃(a:Addr)(ns:List Int),y=.ref a/\SqL K H2 a (ns.map V.int)/\∀v,Best lo dv ns v->Q v H2
theorem um(b:Bool)(hm0:X.mg (cond b "min" "max" : String)=none)(hl:PE X (.Name x px) tl)(hd:PE X de td)(hc:X.calm=true)(hg:Gl X (cond b "min" "max" : String):=by rfl):
  PE X (.Call (.Name (cond b "min" "max" : String) p) [.Name x px] [#[some "default",de,kp]] pos) (asr X.K b tl td):=by
 have bd:=fun {A s l xs Q}=>aeE (prog:=X.prog) (w:=X.w) (A:=A) (E:=X.xe) (s:=s) (l:=l) (xs:=xs) (Q:=Q) b;have hbt:∀ys:Array (Int × Tok),lB (bdB b ys) (ys.size-1)<=ys.size-1/\∀j,j<=ys.size-1->if b then numAt ys (lB (bdB b ys) (ys.size-1))<=numAt ys j else numAt ys j<=numAt ys (lB (bdB b ys) (ys.size-1)):=fun ys=>by
  cases b
  ·exact argBest_gt (numAt ys) (ys.size-1)
  ·exact argBest_lt (numAt ys) (ys.size-1)
 have bo:uP (cond b "min" "max" : String)=some (.builtin (cond b "min" "max")):=by
  cases b
  ·exact boot_max
  ·exact boot_min
 cases b;all_goals
  dsimp only[cond]at *
  walk_at "l"
  refine Aa (iB I hg hm0 bo ?_);refine callWith_kw (uV (thn (hl pins s σ H _ I h) fun v s1 zq=>?_));obtain⟨y,H1,I1,r1,q1⟩:=zq;refine yh (kws_cons (thn (hd pins s1 σ H1 _ I1 q1) fun d s2 ⟨dv,H2,I2,r2,q2⟩=>kws_nil ?_));obtain⟨a,ns,rfl,ha,q⟩:=q2;obtain rfl:v=Value.ref a:=r1;show wpAny _ _ (call (.builtin _) [.ref a] [(aD "default",d)]) _ _ _;obtain⟨its,rv,pl,hz⟩:=I2.list ha;have hi:=intsAre_of rv;have hl:=pl.isList;obtain⟨ys,ey⟩:=hi.allInts.items;have hns:ns=ys.toList.map (·.1):=by rw[<-hi.numsOf,<-ajq,<-ey]
  have hsz:ns.length=ys.size:=by rw[hns,aC,tU]
  rw[ey]at hl;refine bd d (I2.ok.hd hc) hl fun v h' tk hv hk=>?_;rcases Nv ys.size with z|z
  ·rw[if_neg tb_g%]at hv;subst hv;show#[dv,H2,I2.kept hk,r2,q _ (.inl #[Ji.mp tb_g%,rfl])]
  ·rw[if_pos z]at hv;obtain⟨t,rfl⟩:=acV hv;obtain⟨h1,h2⟩:=hbt ys;show#[.int _,H2,I2.kept hk,#[t,rfl],q _ (.inr #[_,rfl,?_,fun b hb=>?_])]
   ·rw[hns,numAt_eq];exact getD_mem (by rw[aC,tU];lia)
   ·rw[hns]at hb
    k_dat (j,hj,mem_getD,hb) "G"
    rw[aC,tU]at hj;rw[<-numAt_eq];exact h2 j tb_g%
end
theorem aeF{K:aG}{a:Addr}{xs:List V}{caps:List Nat}{tt:TT}{te:TE}{σ:St}{H:Hp}{D:Addr}{Q:VK}
  (Pv:Nat->List V->Hp->Prop) (h0:Pv 0 [] (upd H D (.lst [])))
  (hl:∀i ys H,i<=xs.length->Pv i ys H->SqT K H a xs/\H D=some (.lst ys)/\ys.length<sizeLine)
  (hs:∀i ys H x,xs[i]? = some x->Pv i ys H->tt (yJ σ (some x) caps) H fun b H2=>if b=true then te (yJ σ (some x) caps) H2 fun y H3=>H3 D=some (.lst ys)/\Pv (i+1) (ys++[y]) (upd H3 D (.lst (ys++[y])))else H2 D=some (.lst ys)/\Pv (i+1) ys H2)
  (hd:∀ys H,Pv xs.length ys H->Q (.ref D) H)
  (mT:∀σ H (R R':Bool->Hp->Prop),(∀b H,R b H->R' b H)->tt σ H R->tt σ H R')
  (mE:∀σ H (Q Q':VK),(∀y H,Q y H->Q' y H)->te σ H Q->te σ H Q'):jT (Itt K a) caps tt te σ D Q H:=by
 show#[fun i m ys G=>m=xs.length-i/\i<=xs.length/\Pv i ys G,#[xs.length,rfl,cJ _,h0],?_];rintro i m ys G ⟨rfl,hi,p⟩;obtain⟨sq,q,z⟩:=hl i ys G hi p;show#[q,?_];rcases iz i xs.length with lt|ge
 ·refine .inr #[#[xs,xs[i],sq,eU lt],z,fun x G' y=>?_];obtain⟨rfl,y⟩:=y;refine mT _ _ _ _ (fun b G2 hb=>?_) (hs i ys _ x (y xs sq) p);cases b with
  |true =>
   rw[if_pos rfl]at hb ⊢;exact mE _ _ _ _ (fun y G3 ⟨a,b⟩=>#[a,xs.length-(i+1),by lia,rfl,lt,b]) hb
  |false =>
   rw[if_neg tb_g%]at hb ⊢;show#[hb.1,xs.length-(i+1),by lia,rfl,lt,hb.2]
 ·obtain rfl:i=xs.length:=by lia
  exact .inl #[#[xs,sq,aJ _],hd ys G p]
section
variable{X:Cx}{e se:Expr}{te:TE}{lo hi:Option Expr}{tl th ts:TO}{p2 pos:Pos}
def vK{α:Type}(k:Int)(xs:List α)(lo hi:Option Int):List α:=
 (Ni (jr lo hi (some k) xs.length).1 (jr lo hi (some k) xs.length).2.1 (jr lo hi (some k) xs.length).2.2).filterMap (xs[·]?)
def rSlK(K:aG)(k:Int):V->Option Int->Option Int->Hp->VK->Prop:=fun x lo hi H Q=>∃a xs,x=.ref a/\SqL K H a xs/\∀p,H p=none->Q (.ref p) (upd H p (.lst (vK k xs lo hi)))
def tSl2(K:aG)(te:TE)(tl th ts:TO):TE:=fun σ H Q=>te σ H fun x H1=>tl σ H1 fun l H2=>th σ H2 fun u H3=>ts σ H3 fun t H4=>∃k,t=some k/\k≠0/\rSlK K k x l u H4 Q
theorem aoG:∀{xs:List V}{us:List Value},Vals xs us->∀ks:List Nat,Vals (ks.filterMap (xs[·]?)) (ks.filterMap (us[·]?)):=by
 intro xs us r ks
 induction ks with
 |nil=>exact .nil
 |cons k ks ih =>
  rw[wA,wA];rcases iz k xs.length with h|h
  ·obtain⟨u,eu,ru⟩:=r.get (eU h);rw[eU h,eu];exact .cons ru ih
  ·rwa[Vr h,Vr (by rw[<-r.length];exact h)]
theorem amo{α:Type}(k:Int)(xs:List α)(lo hi:Option Int):(vK k xs lo hi).length<=xs.length:=by
 have:=slicePick_size_le (Array.replicate xs.length Value.none) lo hi (some k);rw[akz]at this;unfold Nm at this;rw[bH,akz]at this;refine bQ (GF ?_) this;unfold vK;rw[ah7,ah7];apply List.countP_congr;intro k _;simp[Array.getElem?_replicate]
theorem HW(he:PE X e te)(hl:PO X lo tl)(hu:PO X hi th)(hs:PO X (some se) ts):PE X (.Subscript e (.Slice lo hi (some se) p2) pos) (tSl2 X.K te tl th ts):=by
 walk_at "l"
 k_dat (adx,he,v) "z"
 walk_at "w"
 refine wpAny_Slice (thn (hl pins s1 σ H1 _ I1 q1) fun vl s2 ⟨l,H2,I2,pl,q2⟩=>thn (hu pins s2 σ H2 _ I2 q2) fun vu s3 ⟨u,H3,I3,pu,q3⟩=>thn (hs pins s3 σ H3 _ I3 q3) fun vs s4 zq=>?_);obtain⟨t,H4,I4,pt,q4⟩:=zq;obtain⟨k,rfl,k0,a,xs,rfl,hx,q⟩:=q4;cases r1;have I5:Inv X pins σ H4 { s4 with heap:=s4.heap.push { cls:=.type "slice",data:=.fields [vl,vu,vs].toArray } }:=I4.kept (t':=s4.toks) fun b ob q=>cU _ q;obtain⟨its,r,ht,hz⟩:=I5.list hx;have hlen:=r.length;show wpAny (model X.prog X.w) X.A (W4 e (.Slice lo hi (some se) p2) (.ref a) (.ref s4.heap.objs.size)) (EP X pins σ Q) X.xe { s4 with heap:=s4.heap.push { cls:=.type "slice",data:=.fields [vl,vu,vs].toArray } };refine adz (ops:=[.ref a,.ref s4.heap.objs.size]) ht.isList.typeIs acK.lookup ?_ (by with_unfolding_all rfl);refine aiU ht.isList (akS ..) pl pu pt (by simpa using k0) ?_ (by rw[bH];lia);have ec:Nm its.toArray l u (some k)=(vK k its l u).toArray:=by
  unfold Nm vK;rw[bH];simp only[aib]
 rw[ec];show#[.ref _,_,I5.laid (t':=s4.toks) (o:=.lst (vK k xs l u)) (fun b ob q=>cU _ q) (aJ _) ?_,rfl,q _ (I5.hok.fresh (aJ _))];show#[bQ (amo k xs l u) hz,_,0,?_,dN _ rfl];unfold vK;rw[<-hlen];exact aoG r _
end
theorem ahn{ns:List Int}{t:Int}(ht:t=0\/t=1):vK 2 (ns.map V.int) (some t) (some ((ns.length:Int)-(ns.length:Int) % 2))=(RG.pick (decide (t=1)) ns).map V.int:=by
 have hp:∀(ns:List Int)(o:Bool),RG.pick o ns=(ju (ns.length / 2)).filterMap fun k=>ns[(if o then 1 else 0)+2*k]?:=by
  intro ns o
  fun_induction RG.pick o ns with
  |case1 a b r ih =>
   have e:(a::b::r).length / 2=r.length / 2+1:=by simp only[bh];lia
   have sh:(fun k=>(a::b::r)[(if o=true then 1 else 0)+2*k]?) ∘ Nat.succ=fun k=>r[(if o=true then 1 else 0)+2*k]?:=by
    funext k
    show(a::b::r)[(if o=true then 1 else 0)+2*(k+1)]? = _;rw[show(if o=true then 1 else 0)+2*(k+1)=(if o=true then 1 else 0)+2*k+1+1 by lia,Vq,Vq]
   rw[ih,e,acg,wA,FT,sh];cases o <;> rfl
  |case2 l h =>
   match l,h with
   |[],_=>rfl
   |[x],_=>simp
   |a::b::r,h=>exact absurd rfl (h a b r)
 unfold vK;rw[hp,List.map_filterMap];have hn:(ns.map V.int).length=ns.length:=aC _;rw[hn];have b1:(jr (some t) (some ((ns.length:Int)-(ns.length:Int) % 2)) (some 2) ns.length).1=min t ns.length:=by
  rcases ht with rfl|rfl <;> simp[jr] <;> lia
 have b2:(jr (some t) (some ((ns.length:Int)-(ns.length:Int) % 2)) (some 2) ns.length).2.1=(ns.length:Int)-(ns.length:Int) % 2:=by
  simp[jr];lia
 have b3:(jr (some t) (some ((ns.length:Int)-(ns.length:Int) % 2)) (some 2) ns.length).2.2=2:=rfl;rw[b1,b2,b3];unfold Ni;rw[FT];have cnt:(if(2:Int)>0 then(if min t ns.length<(ns.length:Int)-(ns.length:Int) % 2 then((ns.length:Int)-(ns.length:Int) % 2-min t ns.length+2-1) / 2 else 0)else(if min t ns.length>(ns.length:Int)-(ns.length:Int) % 2 then(min t ns.length-((ns.length:Int)-(ns.length:Int) % 2)-2-1) / (-2)else 0)).toNat=ns.length / 2:=by
  rw[if_pos tb_g%];split
  ·rcases ht with rfl|rfl <;> lia
  ·rcases ht with rfl|rfl <;> lia
 rw[cnt];have fm:∀(ks:List Nat)(f g:Nat->Option V),(∀k∈ks,f k=g k)->ks.filterMap f=ks.filterMap g:=by
  intro ks f g
  induction ks with
  |nil=>intro _;rfl
  |cons k r ih =>
   intro h;rw[wA,wA,h k bV,ih fun j hj=>h j (cB _ hj)]
 refine fm _ _ _ fun k hk=>?_;have hk:=Mz.mp hk;show(ns.map V.int)[(min t ns.length+2*(k:Int)).toNat]? = _;have:(min t ns.length+2*(k:Int)).toNat=(if decide (t=1)then 1 else 0)+2*k:=by
  rcases ht with rfl|rfl
  ·simp;lia
  ·simp;lia
 rw[this,dF]
def Itv(K:aG)(a:Addr)(n:Nat):It:=
 #[fun i H=>∃xs,SqL K H a xs/\xs.length=n/\i<n,fun i H x H'=>H'=H/\∀xs,SqL K H a xs->xs[n-1-i]? = some x,fun i _=>n<=i]
theorem amq{P:aH}{w:World}{K:aG}{tg:Expr}(a it:Addr)(n:Nat):Turn P w K tg (Itv K a n) [it] it (fun i h=>i<=n/\h.IsRevIter it a ((n:Int)-1-i)) where
 mem:=by simp
 obj:=fun i h st b hb=>by
  have e:b=it:=by simpa using hb
  subst e;obtain⟨_,o,e,c,d⟩:=st;show#[o,e,fun v z=>by rw[d]at z;cases z]
 keep:=fun i h h' st k=>#[st.1,st.2.at fun o e=>k it (by simp) o e]
 item:=by
  walk_at "g"
  subst hP hw hK;obtain⟨xs,hq,hn,hi⟩:=hg;obtain⟨its,rv,p,hz⟩:=I.list hq;have hx:xs[n-1-i]? = some (xs[n-1-i]'tb_g%):=eU tb_g%;obtain⟨u,hu,ru⟩:=rv.get hx
  k_dat it "i"
  have st2:=st.2;rw[show(n:Int)-1-i=((n-1-i:Nat):Int) by lia]at st2;refine wpAny_pyNext_rev_item st2 p.isList (x:=u) (by simpa using hu) fun h' st' sb=>?_;rw[show((n-1-i:Nat):Int)-1=(n:Int)-1-((i+1:Nat):Int) by lia]at st';have I1:Inv X pins σ H { s with heap:=h' }:=I.turned (t':=s.toks) (fun b o hb e=>(sb.2 b hb).trans e) f0 f1 f3 f4 f5;obtain⟨o,e,c,d⟩:=id st';show#[u,rfl,aan (s:={ s with heap:=h' }) e c d tb_g% #[_,H,I1,ru,#[rfl,fun ys hy=>by rwa[I.aal hy hq]],#[hi,st'],fun b hb=>(hf b hb).1]]
 done:=by
  walk_at "g"
  subst hP hw hK;have hle:n<=i:=hg;have e:i=n:=Nat.le_antisymm st.1 hle;subst e
  k_dat it "i"
  have st2:=st.2;rw[show(i:Int)-1-i = -1 by lia]at st2;exact wpAny_pyNext_rev_end (I.ok.hd hc) st2 fun h' eb=>#[rfl,I.turned (t':=s.toks) (fun b o hb e=>eb b o hb e) f0 f1 f3 f4 f5]
 self:=fun _ _ _ _ _ st h=>V5 st.2 h
section
variable{X:Cx}{tg:Expr}
def iRev(K:aG)(ta:TA):TI:=fun σ H R=>ta σ H fun vs H1=>∃a xs,vs=[.ref a]/\SqL K H1 a xs/\R (Itv K a xs.length) H1
theorem aeG{a:Expr}{ta:TA}{p pos:Pos}(hg:Gl X "reversed")(hm:X.mg "reversed" = none)(ha:PA X [a] ta)(hs:aZ [a] X.env=[(false,eval a X.env)]:=by rfl):
  PI X tg (.Call (.Name "reversed" p) [a] [] pos) (iRev X.K ta):=by
 intro pins s σ H R I h;refine Call_ (iB I hg hm adw (yg (thn (ha pos pins s σ H _ I h) fun us s1 zq=>?_) hs rfl));obtain⟨vs,H1,I1,r1,q1⟩:=zq;obtain⟨l,xs,e,hq,q⟩:=q1;subst e;obtain⟨u,rfl,ru⟩:=vals1 r1;cases ru;obtain⟨its,rv,pl,hz⟩:=I1.list hq;have hlen:=rv.length;refine acJ pl.isList ?_;have el:((its.toArray.size:Nat):Int)-1=(xs.length:Int)-1-((0:Nat):Int):=by rw[bH];lia
 refine V5 #[_,dN _ rfl,rfl,rfl] #[_,[s1.heap.objs.size],_,Itv X.K l xs.length,H1,rfl,I1.kept (t':=s1.toks) fun b o e=>cU _ e,amq l _ _,#[cJ _,_,dN _ rfl,rfl,by rw[<-el];rfl],fun b hb=>?_,q];have e:b=s1.heap.objs.size:=by simpa using hb
 subst e;exact I1.ad5 (aJ _) (I1.hok.fresh (aJ _))
end
theorem X6{K:aG}{a:Addr}{xs:List V}{g:TG}{tb:TS}{D:Ends}{σ:St}{H:Hp}(Pv:Nat->St->Hp->Prop)(h0:Pv 0 σ H)(hl:∀i σ H,i<=xs.length->Pv i σ H->SqL K H a xs)
  (hs:∀i x σ H,xs.reverse[i]? = some x->Pv i σ H->g x σ H fun σ2 H2=>tb { D with nx:=Pv (i+1),ct:=Pv (i+1),bk:=D.nx } σ2 H2) (hd:∀σ H,Pv xs.length σ H->D.nx σ H):
  ∃W:Nat->Nat->St->Hp->Prop,(∃m,W 0 m σ H)/\∀i m σ H,W i m σ H ->
   ((Itv K a xs.length).stop i H/\D.nx σ H)\/((Itv K a xs.length).go i H/\∃N:St->Hp->Prop,(∀σ' H',N σ' H'->∃m',m'<m/\W (i+1) m' σ' H')/\∀x H',(Itv K a xs.length).yld i H x H'->g x σ H' fun σ2 H2=>tb { D with nx:=N,ct:=N,bk:=D.nx } σ2 H2):=by
 show#[fun i m σ H=>m=xs.length-i/\i<=xs.length/\Pv i σ H,#[xs.length,by simp,cJ _,h0],?_];rintro i m σ H ⟨rfl,hi,p⟩;have q:=hl i σ H hi p;by_cases hlt:i<xs.length
 ·refine .inr #[#[xs,q,rfl,hlt],Pv (i+1),fun σ' H' p'=>#[xs.length-(i+1),by lia,rfl,hlt,p'],fun x H' y=>?_];obtain⟨rfl,hx⟩:=y;exact hs i x σ H' (by rw[Vs hlt];exact hx xs q) p
 ·have e:i=xs.length:=by lia
  subst e;exact .inl #[aJ _,hd σ H p]
theorem aeH:xQ (.type "list_reverseiterator") "__len__" = pure none:=by rw[Wc,V4];kernel_rfl
theorem amr:xQ (.type "list_reverseiterator") "__length_hint__" = pure (some (.builtin "list_reverseiterator.__length_hint__")):=by rw[Wc,V4];kernel_rfl
section
variable{prog:aH}{w:World}{A:aP}{E:Value->Shared->Prop}{s:Shared}{r l:Addr}
theorem ams{Q:Bool->Shared->Prop}(ty:s.TypeIs (.ref r) "list_reverseiterator")(h:Q false s):wpAny (model prog w) A (adB (.ref r)) Q E s:=by
 unfold adB;refine aA (M8 ty aeH ?_)
 wp_delta
 refine Gj (fun q=>absurd q tb_g%) fun _=>?_;refine Gj (fun q=>absurd q tb_g%) fun _=>?_;refine aA (M8 ty amr ?_);generalize hid:("list_reverseiterator.__length_hint__" : String)=nm
 wp_delta
 rw[show splitId nm=some ("list_reverseiterator","__length_hint__")from by rw[<-hid];decide +kernel];subst hid;refine aA (ai5 (T := "list_reverseiterator") (b:=true) ty (by rw[isSubtype_type];kernel_rfl) ?_);refine Gj (fun q=>absurd q tb_g%) fun _=>?_;refine Gj (fun _=>?_) fun q=>absurd tb_g% q;refine Gj (fun q=>absurd q tb_g%) fun _=>?_;exact aK h
def Behind(items:Array Value)(i:Nat)(v:Value):Prop:=items[items.size-1-i]? = some v
theorem aaQ{R:lC->Shared->Prop}{items:Array Value}(hh:A.handled=none)(hr:s.heap.IsRevIter r l ((items.size:Int)-1))(hl:s.heap.IsList l items)(hrl:l≠r)(S:Addr)(n1:S≠r)(n2:S≠l)(res:Value)(c:Nat)
  (hS:s.heap.get? S=some { cls:=.type "list",data:=.seq #[] c }) (hz:items.size<=sizeLine)
  (hR:∀h' tk acc d,(∀b o,b≠S->b≠r->s.heap.get? b=some o->h'.get? b=some o)->h'.get? S=some { cls:=.type "list",dict:=none,data:=.seq acc d,slots:=#[] }->Nr (Behind items) acc items.size->R (.ok (.ret res)) { s with heap:=h',toks:=tk }):
  wpAny (model prog w) A.in1 (Ab (.ref S) (.ref r) res) (fun fin t=>match fin with | .done f=>R (.ok f) t | .again k=>k.quiet=true/\fY (model prog w) A k R t) (fun e t=>R (.error e) t) s:=by
 have W:=Walks.listRev (prog:=prog) (w:=w) (A:=A.in1) hh r l hrl items;have away:S∉[r,l]:=by
  simp only[aO,gB,or_false,not_or];show#[n1,n2]
 unfold Ab;refine aA (Br (T := "list_reverseiterator") hr.typeIs ?_);have e1:W9 (.ref S) (.ref r)=false:=by simp[W9,n1]
 have e2:(Value.type "list_reverseiterator" == Value.type "list")=false:=by decide
 have e3:(Value.type "list_reverseiterator" == Value.type "tuple")=false:=by decide
 simp only[e1,e2,e3,adf,Nz,if_false];refine aA (V5 hr ?_);refine aA (iU (ams hr.typeIs ?_));refine Gj (fun q=>absurd q tb_g%) fun _=>aK #[qZ PySem.F.plain_extend_loop _,?_];refine codeAny_extend_loopS W.toS hz S away res items.size 0 _ #[] c rfl (cJ _) #[cJ _,by simpa using hr,hl] hS (ItemsOf.nil _) fun t acc d hm hS2 hacc=>?_;rw[Moved.eq_with hm];refine hR t.heap t.toks acc d (fun b o hb hb2 e=>hm.heap b o (fun m=>?_) e) hS2 hacc;rcases aO.mp m with q|q
 ·exact hb q
 ·exact hb2 (cI.mp q)
theorem amt{R:lC->Shared->Prop}{items:Array Value}(hh:A.handled=none)(hr:s.heap.IsRevIter r l ((items.size:Int)-1))(hl:s.heap.IsList l items)(hrl:l≠r)(S:Addr)(n1:S≠r)(n2:S≠l)
  (hS:s.heap.get? S=some { cls:=.type "list",data:=.seq #[] }) (hz:items.size<=sizeLine)
  (hR:∀h' tk acc d,(∀b o,b≠S->b≠r->s.heap.get? b=some o->h'.get? b=some o)->h'.get? S=some { cls:=.type "list",dict:=none,data:=.seq acc d,slots:=#[] }->Nr (Behind items) acc items.size->R (.ok (.ret .none)) { s with heap:=h',toks:=tk }):
  wpAny (model prog w) A.in1 (dM.«list.__init__» ⟨[.ref S,.ref r],[]⟩) (fun fin t=>match fin with | .done f=>R (.ok f) t | .again k=>k.quiet=true/\fY (model prog w) A k R t) (fun e t=>R (.error e) t) s:=by
 show wpAny _ _ (do let was <-N7 (.ref S);ako (.ref S) (fun _=>#[]);letGo was.toList.reverse;Ab (.ref S) (.ref r) .none) _ _ s;refine aA ?_;unfold N7;refine aA (qt hS rfl (aK ?_));show wpAny _ _ (Gq S (fun _=>#[]) >>= fun _=>letGo (#[]:Array Value).toList.reverse >>= fun _=>Ab (.ref S) (.ref r) Value.none) _ _ s;refine aA (uO hS rfl ?_);have hS2:=qu (gq (fun _=>(#[]:Array Value))) hS rfl;have rest:∀b o,b≠S->s.heap.get? b=some o->(s.heap.update S (gq (fun _=>(#[]:Array Value)))).get? b=some o:=fun b o n e=>(mO _ _ (aL n)).trans e;refine aA (Bs ?_);refine aaQ hh (hr.at fun o e=>rest r o (aL n1) e) (hl.at fun o e=>rest l o (aL n2) e) hrl S n1 n2 .none _ hS2 hz fun h' tk acc d hk hS3 hacc=>?_;exact hR h' tk acc d (fun b o n m e=>hk b o n m (rest b o n e)) hS3 hacc
theorem amu{Q:Value->Shared->Prop}{items:Array Value}(hh:A.handled=none)(hr:s.heap.IsRevIter r l ((items.size:Int)-1))(hl:s.heap.IsList l items)(hrl:l≠r)(hz:items.size<=sizeLine)
  (hQ:∀h' tk acc d,(∀b o,b≠r->s.heap.get? b=some o->h'.get? b=some o)->h'.get? s.heap.objs.size=some { cls:=.type "list",dict:=none,data:=.seq acc d,slots:=#[] }->Nr (Behind items) acc items.size->Q (.ref s.heap.objs.size) { s with heap:=h',toks:=tk }):
  wpAny (model prog w) A (call (.type "list") [.ref r]) Q E s:=by
 refine acO (Q₁:=fun o t=>o=.ref s.heap.objs.size/\t={ s with heap:=s.heap.push { cls:=.type "list",data:=.seq #[] } }) PySem.F.called_list (PySem.F.typeCall_list_1 _) PySem.F.entry_list_init (ajr _ #[rfl,rfl]) fun o t ht=>?_;obtain⟨rfl,rfl⟩:=ht;have hS:(s.heap.push { cls:=.type "list",data:=.seq #[] }).get? s.heap.objs.size=some { cls:=.type "list",data:=.seq #[] }:=dN _ rfl;obtain⟨o1,g1,_⟩:=id hr;obtain⟨o2,g2,_⟩:=id hl;show#[#[_,hS,rfl],PySem.F.args_list_init_2 _ _,amt (A:=A.in1) hh (hr.at fun o e=>cU _ e) (hl.at fun o e=>cU _ e) hrl _ (lE (aR g1)) (lE (aR g2)) hS hz fun h' tk acc d hk hS2 hacc=>?_];show#[rfl,hQ h' tk acc d (fun b o n e=>hk b o (bR (aR e)) n (cU _ e)) hS2 hacc]
theorem X7:∀{xs:List V}{us:List Value},us.length=xs.length->(∀(j:Nat)(x:V)(u:Value),xs[j]? = some x->us[j]? = some u->RelV x u)->Vals xs us
 |[],[],_,_=>.nil
 |[],_::_,h,_=>by cases h
 |_::_,[],h,_=>by cases h
 |x::xs,u::us,h,k=>.cons (k 0 x u rfl rfl) (X7 (by simpa using h) fun j y v hy hv=>k (j+1) y v (by simpa using hy) (by simpa using hv))
end
section
variable{X:Cx}{l:Expr}{tl:TE}{p p' pos pos':Pos}
def amv(K:aG)(ta:TA):TE:=fun σ H Q=>ta σ H fun vs H1=>∃a xs,vs=[.ref a]/\SqL K H1 a xs/\∀q,H1 q=none->Q (.ref q) (upd H1 q (.lst xs.reverse))
theorem aeI{ta:TA}(hm0:X.mg "list" = none)(hm1:X.mg "reversed" = none)(ha:PA X [l] ta)(hc:X.calm=true)(hg0:Gl X "list" := by rfl)(hg1:Gl X "reversed" := by rfl)
  (he:aZ [.Call (.Name "reversed" p') [l] [] pos'] X.env=[(false,eval (.Call (.Name "reversed" p') [l] [] pos') X.env)]:=by rfl) (hs:aZ [l] X.env=[(false,eval l X.env)]:=by rfl):
  PE X (.Call (.Name "list" p) [.Call (.Name "reversed" p') [l] [] pos'] [] pos) (amv X.K ta):=by
 walk_at "l"
 refine Call_ (iB I hg0 hm0 boot_list (yg ?_ he rfl));rw[he];refine uV (Call_ (iB I hg1 hm1 adw (yg (thn (ha pos' pins s σ H _ I h) fun us s1 zq=>?_) hs rfl)));obtain⟨vs,H1,I1,r1,q1⟩:=zq;obtain⟨a,xs,e,hq,q⟩:=q1;subst e;obtain⟨u,rfl,ru⟩:=vals1 r1;cases ru;obtain⟨its,rv,pl,hz⟩:=I1.list hq;have hlen:=rv.length;refine acJ pl.isList (yh ?_);show wpAny _ _ (call (.type "list") [.ref s1.heap.objs.size]) _ _ _;have hla:a≠s1.heap.objs.size:=by
  obtain⟨o,g,_⟩:=pl.isList;exact bR (aR g)
 refine amu (items:=its.toArray) (I1.ok.hd hc) #[_,dN _ rfl,rfl,rfl] (pl.isList.at fun o e=>cU _ e) hla (by rw[bH];lia) fun h' tk acc d hk hS hacc=>?_;have kp:∀b o,s1.heap.get? b=some o->h'.get? b=some o:=fun b o e=>hk b o (bR (aR e)) (cU _ e);have hsz:(s1.heap.push (revObj a ((its.toArray.size:Int)-1))).objs.size=s1.heap.objs.size+1:=ady _ _;have rr:Vals xs.reverse acc.toList:=X7 (by rw[tU,hacc.1,bH,xu];lia) fun j x u hx hu=>by
  have hj:j<xs.length:=by
   have:=(fu.mp hx).1
   rwa [xu]at this
  rw[Vs hj]at hx;have hb:Behind its.toArray j u:=hacc.2 j u (by rwa[<-Hg]);unfold Behind at hb;rw[bH,<-hlen]at hb;obtain⟨v,hv,rvv⟩:=rv.get hx;have:u=v:=bN (hb.symm.trans (by simpa using hv));rwa[this]
 show#[.ref _,_,I1.laid (a:=(s1.heap.push (revObj a ((its.toArray.size:Int)-1))).objs.size) (o:=.lst xs.reverse) (t':=tk) kp (by rw[hsz];exact rB _) ?_,rfl,q _ (I1.hok.fresh (by rw[hsz];exact rB _))];show#[by rw[xu];lia,acc.toList,d,rr,by first|(rwa[Xc])|simpa using hS]
end
section
variable{X:Cx}{pins:List (Addr × Obj)}{σ:St}{H:Hp}{s:Shared}{h':Heap}
theorem Inv.aho{t':Nat}{ch:List Addr}{t:Addr}{o:HO}(I:Inv X pins σ H s)(k:∀b u,b∉ch->s.heap.get? b=some u->h'.get? b=some u)(hf:∀b∈ch,Ci X pins H b)(ht:s.heap.objs.size<=t)
  (new:cA X.prog X.w (upd H t o) h' t o):Inv X pins σ (upd H t o) { s with heap:=h',toks:=t' }:=by
 have nit:∀b u,H b=some u->b∉ch:=fun b u e z=>by rw[(hf b z).1]at e;cases e
 have ntt:H t=none:=I.hok.fresh ht;have lt:∀b u,s.heap.get? b=some u->b≠t:=fun b u e=>bR (dI (aR e) ht);refine I.step (g':=s.gens) (d':=s.drawn) (ch:=ch) (fun b hb=>#[(hf b hb).2.2.2.1,(hf b hb).2.1,(hf b hb).2.2.2.2.1,(hf b hb).2.2.2.2.2]) (fun b o _ _ hc e _=>k b o hc e) (fun b o _ _ hc e _=>#[o.slots,k b o hc e]) (fun b u _ e n=>by rwa[ao (lt b u e)])
  (fun b o hc e=>#[o,k b o hc e]) (fun b xs e=>by rwa[ao (ak e ntt)]) (fun b q u e=>by rwa[ao (ak e ntt)]) (fun b ps e=>#[#[],by rw[ao (ak e ntt),e];simp]) (fun m hm=>?_) (fun b u e=>?_) I.bare
 ·obtain⟨o,es,ep,ho,r⟩:=hm;show#[o,es,ep,k _ o (fun z=>(hf _ z).2.1 rfl) ho,r]
 ·by_cases hb:b=t
  ·subst hb;rw[aj]at e;cases e;exact new
  ·rw[ao hb]at e;refine(I.hok b u e).stay (fun c v hc q=>k c v ?_ q) (fun c q=>by rwa[ao (ak q ntt)]) fun c xs q=>by rwa[ao (ak q ntt)]
   rcases hc with z|z
   ·rw[z];exact nit b u e
   ·exact nit c _ z
theorem Inv.aoH{t':Nat}{ch:List Addr}(I:Inv X pins σ H s)(k:∀b u,b∉ch->s.heap.get? b=some u->h'.get? b=some u)(hf:∀b∈ch,Ci X pins H b):Inv X pins σ H { s with heap:=h',toks:=t' }:=by
 have nit:∀b u,H b=some u->b∉ch:=fun b u e z=>by rw[(hf b z).1]at e;cases e
 refine I.step (g':=s.gens) (d':=s.drawn) (ch:=ch) (fun b hb=>#[(hf b hb).2.2.2.1,(hf b hb).2.1,(hf b hb).2.2.2.2.1,(hf b hb).2.2.2.2.2]) (fun b o _ _ hc e _=>k b o hc e) (fun b o _ _ hc e _=>#[o.slots,k b o hc e]) (fun b u _ _ n=>n)
  (fun b o hc e=>#[o,k b o hc e]) (fun _ _ e=>e) (fun _ _ _ e=>e) (fun b ps e=>#[#[],by rw[e];simp]) (fun m hm=>?_) (fun b u e=>?_) I.bare
 ·obtain⟨o,es,ep,ho,r⟩:=hm;show#[o,es,ep,k _ o (fun z=>(hf _ z).2.1 rfl) ho,r]
 ·refine(I.hok b u e).stay (fun c v hc q=>k c v ?_ q) (fun _ q=>q) fun _ _ q=>q;rcases hc with z|z
  ·rw[z];exact nit b u e
  ·exact nit c _ z
end
def Itz(a b:Addr):It:=
 #[fun i H=>∃ xs ys,H a=some (.lst xs)/\H b=some (.lst ys)/\i<xs.length/\i<ys.length,
  fun i H x H'=>∃t u v xs ys,H a=some (.lst xs)/\H b=some (.lst ys)/\xs[i]? = some u/\ys[i]? = some v/\H t=none/\x=.ref t/\H'=upd H t (.tup [u,v]),
  fun i H=>∃ xs ys,H a=some (.lst xs)/\H b=some (.lst ys)/\(xs.length<=i\/ys.length<=i)]
theorem ap0{c z TI TO i1 i2:Addr}(h:c∈[z,TO,i1,i2]):c∈[z,TI,TO,i1,i2]:=by
 simp only[aO,gB,or_false]at h ⊢;rcases h with h|h|h|h <;> simp[h]
structure Z5(z TI TO i1 i2:Addr):Prop where
 a:TI≠z
 b:TO≠z
 c:i1≠z
 d:i2≠z
 e:TI≠TO
 f:TI≠i1
 g:TI≠i2
 h:TO≠i1
 i:TO≠i2
 j:i1≠i2
theorem Z5.apart{z TI TO i1 i2 a b:Addr}(k:Z5 z TI TO i1 i2){H:Hp}{xs ys:List V}(ha:H a=some (.lst xs))(hb:H b=some (.lst ys))(f:∀c∈[z,TI,TO,i1,i2],H c=none):ZipApart z TI TO i1 i2 a b:=
 #[k.a,k.b,k.c,k.d,k.e,k.f,k.g,k.h,k.i,k.j,ak ha (f z (by simp)),ak ha (f TO (by simp)),ak ha (f i1 (by simp)),ak ha (f i2 (by simp)),ak hb (f z (by simp)),ak hb (f TO (by simp)),ak hb (f i1 (by simp)),ak hb (f i2 (by simp))]
theorem z5_of(n:Nat):Z5 (n+4) (n+2) (n+3) n (n+1):=
 #[(show ¬ (n+2:Nat)=n+4 by lia),(show ¬ (n+3:Nat)=n+4 by lia),(show ¬ (n:Nat)=n+4 by lia),(show ¬ (n+1:Nat)=n+4 by lia),(show ¬ (n+2:Nat)=n+3 by lia),(show ¬ (n+2:Nat)=n by lia),(show ¬ (n+2:Nat)=n+1 by lia),(show ¬ (n+3:Nat)=n by lia),(show ¬ (n+3:Nat)=n+1 by lia),(show ¬ (n:Nat)=n+1 by lia)]
theorem amw{P:aH}{w:World}{K:aG}{elts:List Expr}{x1}{tpos:Pos}(a b z TI TO i1 i2:Addr)(k5:Z5 z TI TO i1 i2):
  Turn P w K (.Tuple elts x1 tpos) (Itz a b) [z,TI,TO,i1,i2] z (fun i h=>IsZip h z TI TO .none/\IsPair h TI (.ref i1) (.ref i2)/\(∃u v,IsPair h TO u v)/\h.IsListIter i1 a i/\h.IsListIter i2 b i) where
 mem:=by simp
 obj:=fun i h st c hc=>by
  obtain⟨hz,hTI,⟨u,v,hTO⟩,⟨o1,h1,_,d1⟩,⟨o2,h2,_,d2⟩⟩:=st
  k_dat hc "D"
  rcases hc with rfl|rfl|rfl|rfl|rfl
  ·show#[_,hz,fun v z=>by cases z]
  ·show#[_,hTI,fun v z=>by cases z]
  ·show#[_,hTO,fun v z=>by cases z]
  ·show#[_,h1,fun v z=>by rw[d1]at z;cases z]
  ·show#[_,h2,fun v z=>by rw[d2]at z;cases z]
 keep:=fun i h h' st k=>by
  obtain⟨hz,hTI,⟨u,v,hTO⟩,⟨o1,h1,r1⟩,⟨o2,h2,r2⟩⟩:=st;show#[k z (by simp) _ hz,k TI (by simp) _ hTI,#[u,v,k TO (by simp) _ hTO],#[o1,k i1 (by simp) _ h1,r1],#[o2,k i2 (by simp) _ h2,r2]]
 item:=by
  walk_at "g"
  subst hP hw hK;obtain⟨hz,hTI,⟨pa,pb,hTO⟩,h1,h2⟩:=st;obtain⟨xs,ys,ea,eb,li,lj⟩:=hg;obtain⟨_,us,n,rv,_,gl⟩:=I.yF ea;obtain⟨_,vs,m,rw',_,gr⟩:=I.yF eb;have ex:xs[i]? = some xs[i]:=eU li;have ey:ys[i]? = some ys[i]:=eU lj;obtain⟨u,hu,ru⟩:=rv.get ex;obtain⟨v,hv,rv'⟩:=rw'.get ey;have D:=k5.apart ea eb fun c hc=>(hf c hc).1;refine wpAny_pyNext_zip_item D hz hTI hTO h1 h2 #[_,gl,rfl,n,rfl] #[_,gr,rfl,m,rfl] (by simpa using hu) (by simpa using hv) fun h' a1 a2 a3 a4 a5 a6 hk=>?_;have nt:H s.heap.objs.size=none:=I.hok.fresh (aJ _);have hf4:∀c∈[z,TO,i1,i2],Ci X pins H c:=fun c hc=>hf c (ap0 hc);have I1:Inv X pins σ (upd H s.heap.objs.size (.tup [xs[i],ys[i]])) { s with heap:=h' }:=I.aho (t':=s.toks) (ch:=[z,TO,i1,i2])
   (fun c o hc e=>hk c o (fun q=>hc (by simp[q])) (fun q=>hc (by simp[q])) (fun q=>hc (by simp[q])) (fun q=>hc (by simp[q])) e) hf4 (aJ _)
   #[tb_g%,[u,v],.cons ru (.cons rv' .nil),#[_,a5,rfl,_,rfl]]
  have lts:∀c∈[z,TI,TO,i1,i2],c≠s.heap.objs.size:=fun c hc=>by
   have:∃o,s.heap.get? c=some o:=by
    obtain⟨o1,g1,_⟩:=h1;obtain⟨o2,g2,_⟩:=h2
    k_dat hc "D"
    rcases hc with rfl|rfl|rfl|rfl|rfl
    ·show#[_,hz]
    ·show#[_,hTI]
    ·show#[_,hTO]
    ·show#[_,g1]
    ·show#[_,g2]
   obtain⟨o,e⟩:=this;exact bR (aR e)
  have fr1:∀c∈[z,TI,TO,i1,i2],(upd H s.heap.objs.size (.tup [xs[i],ys[i]])) c=none:=fun c hc=>by rw[ao (lts c hc)];exact(hf c hc).1
  show#[.ref s.heap.objs.size,rfl,wpAny_letOwnedTupleGo_zip a1 fun h2' hz' hs'=>?_]
  k_dat z "i"
  show#[.ref s.heap.objs.size,_,I1.turned (t':=s.toks) (fun c ob hb q=>(hs'.2 c hb).trans q) (fr1 z (by simp)) f1 f3 f4 f5,rfl,#[_,_,_,xs,ys,ea,eb,ex,ey,nt,rfl,rfl],#[hz',?_,#[u,v,?_],?_,?_],fr1]
  ·exact(hs'.2 TI k5.a).trans (hk TI _ k5.a k5.e k5.f k5.g hTI)
  ·exact(hs'.2 TO k5.b).trans a2
  ·obtain⟨o,e,r⟩:=a3;show#[o,(hs'.2 i1 k5.c).trans e,r]
  ·obtain⟨o,e,r⟩:=a4;show#[o,(hs'.2 i2 k5.d).trans e,r]
 done:=by
  walk_at "g"
  subst hP hw hK;obtain⟨hz,hTI,⟨pa,pb,hTO⟩,h1,h2⟩:=st;obtain⟨xs,ys,ea,eb,le⟩:=hg;obtain⟨_,us,n,rv,el,gl⟩:=I.yF ea;obtain⟨_,vs,m,rw',er,gr⟩:=I.yF eb;have D:=k5.apart ea eb fun c hc=>(hf c hc).1;have hend:us.toArray[i]? = none\/vs.toArray[i]? = none:=by
   rcases le with z|z
   ·exact .inl (aky (by rwa[bH,<-el]))
   ·exact .inr (aky (by rwa[bH,<-er]))
  refine wpAny_pyNext_zip_end (I.ok.hd hc) D hz hTI hTO h1 h2 #[_,gl,rfl,n,rfl] #[_,gr,rfl,m,rfl] hend fun h' hk=>#[rfl,?_];exact I.aoH (t':=s.toks) (ch:=[z,TO,i1,i2]) (fun c o hc e=>hk c o (fun q=>hc (by simp[q])) (fun q=>hc (by simp[q])) (fun q=>hc (by simp[q])) (fun q=>hc (by simp[q])) e)
   (fun c hc=>hf c (ap0 hc))
 self:=fun A i s Q E st h=>V9 st.1 h
def iZip(ta:TA):TI:=fun σ H R=>ta σ H fun vs H1=>∃a b xs ys,vs=[.ref a,.ref b]/\H1 a=some (.lst xs)/\H1 b=some (.lst ys)/\R (Itz a b) H1
theorem asu{X:Cx}{a b:Expr}{ta:TA}{elts:List Expr}{x1}{tpos p pos:Pos}(hg:Gl X "zip")(hm:X.mg "zip" = none)(ha:PA X [a,b] ta)(hs:aZ [a,b] X.env=[(false,eval a X.env),(false,eval b X.env)]:=by rfl)
  (hs2:aZ [b] X.env=[(false,eval b X.env)]:=by rfl):PI X (.Tuple elts x1 tpos) (.Call (.Name "zip" p) [a,b] [] pos) (iZip ta):=by
 intro pins s σ H R I h;refine Call_ (iB I hg hm adA (yg (thn (ha pos pins s σ H _ I h) fun us s1 zq=>?_) (by rw[hs,hs2]) (by rw[hs2];rfl)));obtain⟨vs,H1,I1,r1,q1⟩:=zq;obtain⟨l1,l2,xs,ys,e,e1,e2,q⟩:=q1;subst e;cases r1 with
 |cons r rr =>
  cases rr with
  |cons r' rr =>
   cases rr;cases r;cases r';obtain ⟨_,us,n,rv,_,gl⟩:=I1.yF e1;obtain ⟨_,vs,m,rw',_,gr⟩:=I1.yF e2;refine call_zip_2 (xs:=us.toArray) (ys:=vs.toArray) #[_,gl,rfl,n,rfl] #[_,gr,rfl,m,rfl] fun h' z1 z2 z3 z4 z5 z6 hk=>?_;refine V9 z1 #[_,[s1.heap.objs.size+4,s1.heap.objs.size+2,s1.heap.objs.size+3,s1.heap.objs.size,s1.heap.objs.size+1],_,Itz l1 l2,H1,rfl,I1.kept (t':=s1.toks) hk,
    amw l1 l2 (s1.heap.objs.size+4) (s1.heap.objs.size+2) (s1.heap.objs.size+3) s1.heap.objs.size (s1.heap.objs.size+1) (z5_of _),#[z1,z2,#[_,_,z3],z4,z5],fun c hc=>?_,q]
   have hle:s1.heap.objs.size<=c:=by
    k_dat hc "D"
    rcases hc with rfl|rfl|rfl|rfl|rfl <;> lia
   exact I1.ad5 hle (I1.hok.fresh hle)
theorem ahp{a b:Addr}{xs ys:List V}{g:TG}{k:Nat}{caps:List Nat}{te:TE}{σ:St}{H:Hp}{D:Addr}{Q:VK}(Pv:Nat->List V->Hp->Prop)(h0:Pv 0 [] (upd H D (.lst [])))
  (hl:∀i zs H,Pv i zs H->H a=some (.lst xs)/\H b=some (.lst ys)/\H D=some (.lst zs)/\zs.length<sizeLine)
  (hs:∀i zs H x y t (ws:List (Option V)),xs[i]? = some x->ys[i]? = some y->Pv i zs H->H t=none->ws.length=k->g (.ref t) (nF σ ws caps) (upd H t (.tup [x,y])) fun σ2 H2=>(∃ws':List (Option V),ws'.length=k/\σ2=nF σ ws' caps)/\te σ2 H2 fun u H4=>H4 D=some (.lst zs)/\Pv (i+1) (zs++[u]) (upd H4 D (.lst (zs++[u]))))
  (hd:∀zs H,Pv (min xs.length ys.length) zs H->Q (.ref D) H)
  (monoG:∀x σ H (R R':St->Hp->Prop),(∀σ H,R σ H->R' σ H)->g x σ H R->g x σ H R')
  (mono:∀σ H (Q Q':VK),(∀y H,Q y H->Q' y H)->te σ H Q->te σ H Q'):
  pB (Itz a b) g k caps vG te σ D Q H:=by
 show#[fun i m zs H=>m=min xs.length ys.length-i/\i<=min xs.length ys.length/\Pv i zs H,#[min xs.length ys.length,by simp,cJ _,h0],?_];rintro i m zs H ⟨rfl,hi,p⟩;obtain⟨qa,qb,qd,hz⟩:=hl i zs H p;show#[qd,?_];by_cases hlt:i<min xs.length ys.length
 ·refine .inr #[#[xs,ys,qa,qb,by lia,by lia],hz,fun x H' y ws hw=>?_];obtain⟨t,u,v,xs',ys',ea,eb,ex,ey,ht,rfl,rfl⟩:=y
  k_dat (qa,ea) "I"
  k_dat (qb,eb) "I"
  refine monoG _ _ _ _ _ (fun σ2 H2 h2=>#[h2.1,?_]) (hs i zs H u v t ws ex ey p ht hw);unfold vG;dsimp only;rw[if_pos rfl];exact mono _ _ _ _ (fun y H3 ⟨a,b⟩=>#[a,min xs.length ys.length-(i+1),by lia,rfl,hlt,b]) h2.2
 ·have e:i=min xs.length ys.length:=by lia
  subst e;exact .inl #[#[xs,ys,qa,qb,by lia],hd zs H p]
inductive Alike (K:aG) (H:Hp):Nat->V->V->Prop where
 |flat {n:Nat} {x:V} (h:yE x=true):Alike K H n x x
 |lst {n:Nat} {a b:Addr} {xs ys:List V} (ha:SqL K H a xs) (hb:SqL K H b ys) (hl:xs.length=ys.length) (h:∀(i:Nat)(x y:V),xs[i]? = some x->ys[i]? = some y->Alike K H n x y):Alike K H (n+1) (.ref a) (.ref b)
 |tup {n:Nat} {a b:Addr} {xs ys:List V} (ha:SqT K H a xs) (hb:SqT K H b ys) (hl:xs.length=ys.length) (h:∀(i:Nat)(x y:V),xs[i]? = some x->ys[i]? = some y->Alike K H n x y):Alike K H (n+1) (.ref a) (.ref b)
theorem aaR{x:V}(h:yE x=true):eqV x x=true:=by
 cases x with
 |non=>rfl
 |bl b=>show(b == b)=true;simp
 |int i=>show(i == i)=true;simp
 |str z=>show(z == z)=true;simp
 |byt _=>cases h
 |flt _=>cases h
 |ref _=>cases h
 |ty _=>cases h
section
variable{X:Cx}{pins:List (Addr × Obj)}{σ:St}{H:Hp}{s:Shared}
theorem all_true(n:Nat):((ju n).all fun _=>true)=true:=by simp
theorem iQ{K:aG}{A:aP}{n:Nat}{xs ys:List V}{us vs:List Value}(ru:Vals xs us)(rv:Vals ys vs)
  (h:∀(i:Nat)(x y:V),xs[i]? = some x->ys[i]? = some y->Alike K H n x y) (ih:∀(x y:V)(u v:Value),Alike K H n x y->RelV x u->RelV y v->Od A s u v true):
  ∀j (h1:j<us.toArray.size) (h2:j<vs.toArray.size),Od A s us.toArray[j] vs.toArray[j] true:=fun j h1 h2=>by
 have e1:j<us.length:=by simpa using h1
 have e2:j<vs.length:=by simpa using h2
 have l1:j<xs.length:=by rwa[ru.length]
 have l2:j<ys.length:=by rwa[rv.length]
 have g1:xs[j]? = some xs[j]:=eU l1;have g2:ys[j]? = some ys[j]:=eU l2;obtain⟨u,k1,r1⟩:=ru.get g1;obtain⟨v,k2,r2⟩:=rv.get g2;have m1:us.toArray[j]=u:=by
  rw[eU e1]at k1;simpa using k1
 have m2:vs.toArray[j]=v:=by
  rw[eU e2]at k2;simpa using k2
 rw[m1,m2];exact ih _ _ _ _ (h j _ _ g1 g2) r1 r2
theorem Pq(I:Inv X pins σ H s):∀(n:Nat)(A:aP)(x y:V)(u v:Value),A.units+n<cLine->Alike X.K H n x y->RelV x u->RelV y v->Od A s u v true
 |0,A,x,y,u,v,hu,h,ru,rv=>by
  cases h with
  |flat f=>have:=aeg (A:=A) (s:=s) ru rv f f;rwa[aaR f]at this
 |n+1,A,x,y,u,v,hu,h,ru,rv=>by
  have ih:=fun(x y:V) (u v:Value) (k:Alike X.K H n x y) (r1:RelV x u) (r2:RelV y v)=>Pq I n A.in1 x y u v (by show A.units+1+n<cLine;lia) k r1 r2;cases h with
  |flat f=>have:=aeg (A:=A) (s:=s) ru rv f f;rwa[aaR f]at this
  | @lst _ a b xs ys ha hb hl k =>
   obtain rfl:u=Value.ref a:=ru;obtain rfl:v=Value.ref b:=rv;by_cases e:a=b
   ·subst e;exact adP _
   ·obtain⟨us,r1,p1,_⟩:=I.list ha;obtain⟨vs,r2,p2,_⟩:=I.list hb;have:=akY (A:=A) p1.isList p2.isList (by rw[bH,bH,<-r1.length,<-r2.length,hl]) tb_g% (iQ r1 r2 k ih);rw[all_true]at this;exact akN e this
  | @tup _ a b xs ys ha hb hl k =>
   obtain rfl:u=Value.ref a:=ru;obtain rfl:v=Value.ref b:=rv;by_cases e:a=b
   ·subst e;exact adP _
   ·obtain⟨us,r1,p1,_⟩:=I.tuple ha;obtain⟨vs,r2,p2,_⟩:=I.tuple hb;have hs:us.toArray.size=vs.toArray.size:=by rw[bH,bH,<-r1.length,<-r2.length,hl]
    have:=akX (A:=A) p1 p2 tb_g% (iQ r1 r2 k ih);rw[all_true,hs]at this;exact akN e (by simpa using this)
def aeJ(K:aG)(b:Bool):R2:=fun x y H Q=>∃n p q,x=.ref p/\y=.ref q/\n<=40/\Alike K H n x y/\Q (.bl b) H
theorem amx(hu:X.A.units+64<cLine):OpR X (fB .Eq) (aeJ X.K true):=by
 walk_at "k"
 obtain⟨n,p,q,rfl,rfl,hn,k,w⟩:=h;obtain rfl:v=Value.ref p:=rx;obtain rfl:u=Value.ref q:=ry;have ih:=fun m (hm:m+1<=40) (x y:V) (u v:Value) (k:Alike X.K H m x y) (r1:RelV x u) (r2:RelV y v)=>Pq I m X.A.in1 x y u v (by show X.A.units+1+m<cLine;lia) k r1 r2;have fin:EP X pins σ Q (.bool true) s:=#[.bl true,H,I,rfl,w];cases k with
 |flat f=>cases f
 | @lst m a b xs ys ha hb hl k =>
  obtain⟨us,r1,p1,_⟩:=I.list ha;obtain⟨vs,r2,p2,_⟩:=I.list hb;have:=akY (A:=X.A) p1.isList p2.isList (by rw[bH,bH,<-r1.length,<-r2.length,hl]) tb_g% (iQ r1 r2 k (ih m tb_g%));rw[all_true]at this;exact this X.prog X.w X.xe _ fin
 | @tup m a b xs ys ha hb hl k =>
  obtain⟨us,r1,p1,_⟩:=I.tuple ha;obtain⟨vs,r2,p2,_⟩:=I.tuple hb;have hs:us.toArray.size=vs.toArray.size:=by rw[bH,bH,<-r1.length,<-r2.length,hl]
  have:=akX (A:=X.A) p1 p2 tb_g% (iQ r1 r2 k (ih m tb_g%));rw[all_true,hs]at this;exact(show SeqAt.RcAt X.A s (.ref p) (.ref q) true by simpa using this) X.prog X.w X.xe _ fin
theorem asv(hu:X.A.units+64<cLine):OpR X (fB .NotEq) (aeJ X.K false):=by
 walk_at "k"
 obtain⟨n,p,q,rfl,rfl,hn,k,w⟩:=h;obtain rfl:v=Value.ref p:=rx;obtain rfl:u=Value.ref q:=ry;have ih:=fun m (hm:m+1<=40) (x y:V) (u v:Value) (k:Alike X.K H m x y) (r1:RelV x u) (r2:RelV y v)=>Pq I m X.A.in1 x y u v (by show X.A.units+1+m<cLine;lia) k r1 r2;have fin:EP X pins σ Q (.bool false) s:=#[.bl false,H,I,rfl,w];cases k with
 |flat f=>cases f
 | @lst m a b xs ys ha hb hl k =>
  obtain⟨us,r1,p1,_⟩:=I.list ha;obtain⟨vs,r2,p2,_⟩:=I.list hb;have:=arD (A:=X.A) p1.isList p2.isList (by rw[bH,bH,<-r1.length,<-r2.length,hl]) tb_g% (iQ r1 r2 k (ih m tb_g%));rw[all_true]at this;exact this X.prog X.w X.xe _ fin
 | @tup m a b xs ys ha hb hl k =>
  obtain⟨us,r1,p1,_⟩:=I.tuple ha;obtain⟨vs,r2,p2,_⟩:=I.tuple hb;have hs:us.toArray.size=vs.toArray.size:=by rw[bH,bH,<-r1.length,<-r2.length,hl]
  have:=arC (A:=X.A) p1 p2 tb_g% (iQ r1 r2 k (ih m tb_g%));rw[all_true,hs]at this;exact(show SeqAt.RcNeAt X.A s (.ref p) (.ref q) false by simpa using this) X.prog X.w X.xe _ fin
end
section
variable{X:Cx}
def rSumL(K:aG):List V->Hp->VK->Prop:=fun xs H Q=>∃(a:Addr)(ns:List Int),xs=[V.ref a]/\SqL K H a (ns.map V.int)/\Q (.int ns.sum) H
theorem Uw(hc:X.calm=true):fW X (.builtin "sum") (rSumL X.K):=by
 walk_at "s"
 obtain⟨a,ns,rfl,ha,q⟩:=h;obtain⟨u,rfl,ru⟩:=vals1 r;cases ru;obtain⟨its,rv,p,hz⟩:=I.list ha;have hi:=intsAre_of rv;have hl:=p.isList;obtain⟨ys,e⟩:=hi.allInts.items;have hns:ns=ys.toList.map (·.1):=by rw[<-hi.numsOf,<-ajq,<-e]
 rw[e]at hl;refine sum_intListG (I.ok.hd hc) hl fun h' tk t' hk=>#[.int ns.sum,H,I.kept hk,#[t',?_],q];rw[preSum_eq,Jj (by simp),hns]
end
theorem Jr{K:aG}{a:Addr}{xs:List V}{caps:List Nat}{tt:TT}{te:TE}{σ:St}{H:Hp}{D:Addr}{Q:VK}(Pv:Nat->List V->Hp->Prop)(h0:Pv 0 [] (upd H D (.lst [])))
  (hl:∀i ys H,i<=xs.length->Pv i ys H->SqL K H a xs/\H D=some (.lst ys)/\ys.length<sizeLine)
  (hs:∀i ys H x,xs[i]? = some x->Pv i ys H->tt (yJ σ (some x) caps) H fun b H2=>if b=true then te (yJ σ (some x) caps) H2 fun y H3=>H3 D=some (.lst ys)/\Pv (i+1) (ys++[y]) (upd H3 D (.lst (ys++[y])))else H2 D=some (.lst ys)/\Pv (i+1) ys H2) (hd:∀ys H,Pv xs.length ys H->Q (.ref D) H)
  (monoT:∀σ H (R R':Bool->Hp->Prop),(∀b H,R b H->R' b H)->tt σ H R->tt σ H R')
  (mono:∀σ H (Q Q':VK),(∀y H,Q y H->Q' y H)->te σ H Q->te σ H Q'):
  jT (Itl K a) caps tt te σ D Q H:=by
 show#[fun i m ys H=>m=xs.length-i/\i<=xs.length/\Pv i ys H,#[xs.length,by simp,cJ _,h0],?_];rintro i m ys H ⟨rfl,hi,p⟩;obtain⟨sq,q,z⟩:=hl i ys H hi p;show#[q,?_];by_cases hlt:i<xs.length
 ·refine .inr #[#[xs,xs[i],sq,by simp[hlt]],z,fun x H' y=>?_];obtain⟨e,y⟩:=y;subst e;refine monoT _ _ _ _ (fun b H2 hb=>?_) (hs i ys _ x (y xs sq) p);cases b with
  |true =>
   rw[if_pos rfl]at hb ⊢;exact mono _ _ _ _ (fun y H3 ⟨a,b⟩=>#[a,xs.length-(i+1),by lia,rfl,hlt,b]) hb
  |false =>
   rw[if_neg tb_g%]at hb ⊢;show#[hb.1,xs.length-(i+1),by lia,rfl,hlt,hb.2]
 ·have e:i=xs.length:=by lia
  subst e;exact .inl #[#[xs,sq,aJ _],hd ys H p]
def yO(te:TE):Prop:=∀σ H (Q Q':VK),(∀y H,Q y H->Q' y H)->te σ H Q->te σ H Q'
theorem X8{r:R2}{ta tb:TE}(hr:∀x y H (Q Q':VK),(∀y H,Q y H->Q' y H)->r x y H Q->r x y H Q')(ma:yO ta)(mb:yO tb):yO (tOp r ta tb):=fun σ H Q Q' hq h =>
 ma σ H _ _ (fun x H1 h1=>mb σ H1 _ _ (fun y H2 h2=>hr x y H2 Q Q' hq h2) h1) h
theorem afZ {K:aG} {ta tb:TE} (ma:yO ta) (mb:yO tb):yO (tOp (aek K) ta tb):=X8 (fun x y H Q Q' hq h2=>by
 rcases h2 with⟨a1,a2,a3,a4,a5,a6,a7,a8,q⟩|⟨a1,a2,a3,a4,a5,a6,a7,a8,q⟩|⟨a1,a2,a3,a4,q⟩
 ·exact .inl #[a1,a2,a3,a4,a5,a6,a7,a8,hq _ _ q]
 ·exact .inr (.inl #[a1,a2,a3,a4,a5,a6,a7,a8,hq _ _ q])
 ·exact .inr (.inr #[a1,a2,a3,a4,hq _ _ q])) ma mb
theorem zP {f:Int->Int->V} {ta tb:TE} (ma:yO ta) (mb:yO tb):yO (tOp (rI0 f) ta tb):=X8 (fun x y H Q Q' hq h2=>by
 obtain ⟨a1,a2,a3,a4,q⟩:=h2;show#[a1,a2,a3,a4,hq _ _ q]) ma mb
theorem eE(i:Nat):yO (alg i):=fun σ H Q Q' hq ⟨v,e,q⟩=>#[v,e,hq _ _ q]
theorem aeK(v:V):yO (tC v):=fun σ H Q Q' hq q=>hq _ _ q
def aaS(ta:TA):Prop:=∀σ H (Q Q':List V->Hp->Prop),(∀xs H,Q xs H->Q' xs H)->ta σ H Q->ta σ H Q'
theorem aaT:aaS tNil:=fun σ H Q Q' hq q=>hq _ _ q
theorem Ux{ta:TE}{tr:TA}(ma:yO ta)(mr:aaS tr):aaS (alC ta tr):=fun σ H Q Q' hq h=>ma σ H _ _ (fun x H1 h1=>mr σ H1 _ _ (fun xs H2 h2=>hq _ _ h2) h1) h
section
variable{X:Cx}{tg:Expr}
end
section
variable{X:Cx}{l:Expr}{td:TE}{p cpos apos pos:Pos}
end
def MonoT(tt:TT):Prop:=∀σ H (R R':Bool->Hp->Prop),(∀b H,R b H->R' b H)->tt σ H R->tt σ H R'
theorem pD {te:TE} (m:yO te):MonoT (alw te):=fun σ H R R' hr h=>m σ H _ _ (fun y H1 h1=>by
 obtain ⟨b,e,r⟩:=h1;show#[b,e,hr _ _ r]) h
theorem aeL{K:aG}(i j:Nat):∀x σ H (R R':St->Hp->Prop),(∀σ H,R σ H->R' σ H)->gTup K 2 (OD (o8 i) (OD (o8 j) gNil)) x σ H R->gTup K 2 (OD (o8 i) (OD (o8 j) gNil)) x σ H R':=fun x σ H R R' hr h=>by
 obtain⟨a,xs,e,sq,hl,v,r,e1,v2,r2,e2,e3,q⟩:=h;show#[a,xs,e,sq,hl,v,r,e1,v2,r2,e2,e3,hr _ _ q]
section
variable{X:Cx}
end
theorem aoI{r:List V->Hp->VK->Prop}{ta:TA}(hr:∀vs H (Q Q':VK),(∀y H,Q y H->Q' y H)->r vs H Q->r vs H Q')(ma:aaS ta):yO (tCB r ta):=fun σ H Q Q' hq h=>ma σ H _ _ (fun vs H1 h1=>hr vs H1 Q Q' hq h1) h
theorem aaU {K:aG} {ta:TA} (ma:aaS ta):yO (tCB (afR K) ta):=aoI (fun vs H Q Q' hq h=>by
 rcases h with⟨x,n,e,l,q⟩|⟨a,kvs,e,r,q⟩
 ·exact .inl #[x,n,e,l,hq _ _ q]
 ·exact .inr #[a,kvs,e,r,hq _ _ q]) ma
theorem Pr {K:aG} {ta:TE} {f:Str} (ma:yO ta):yO (alA K ta f):=fun σ H Q Q' hq h=>ma σ H _ _ (fun x H1 h1=>by
 obtain ⟨a,C,dx,fs,v,e,h2,c,n,l,q⟩:=h1;show#[a,C,dx,fs,v,e,h2,c,n,l,hq _ _ q]) h
section
variable{X:Cx}
end
theorem aaV(ns:List Int)(lo hi:Option Int):∃ms:List Int,rY (ns.map V.int) lo hi=ms.map V.int/\ms.length<=ns.length/\∀m∈ms,m∈ns:=by
 show#[(ns.drop (HT.sIx (ns.map V.int).length 0 lo)).take (HT.sIx (ns.map V.int).length (ns.map V.int).length hi-HT.sIx (ns.map V.int).length 0 lo),?_,?_,fun m hm=>Mt (tM hm)]
 ·unfold rY;rw[iT,xH]
 ·rw[d8,uL];lia
theorem int_at{ns:List Int}{i:Nat}{y:V}(h:(ns.map V.int)[i]? = some y):∃z,ns[i]? = some z/\y=V.int z:=by
 rw[dF]at h;cases e:ns[i]? with
 |none=>rw[e]at h;cases h
 |some z=>rw[e]at h;show#[z,rfl,(bN h).symm]
theorem Pu{xs:List V}{n:Nat}(h:n<=xs.length):rY xs none (some (n:Int))=xs.take n:=by
 unfold rY;rw[HT.aar,HT.afM,WM h,MF,ajE]
theorem yP{xs:List V}{n:Nat}(h:n<=xs.length):rY xs (some (n:Int)) none=xs.drop n:=by
 unfold rY;rw[HT.aar,HT.afM,WM h,Jj (by rw[uL];exact aJ _)]
theorem Yb{ns:List Int}{i:Int}(h0:0<=i)(h1:i<(ns.length:Int)):∃v,v∈ns/\atI (ns.map V.int) i=some (.int v):=by
 have e:ns[i.toNat]? = some (ns[i.toNat]'tb_g%):=eU tb_g%;show#[_,xj e,?_];have:=cZ (xs:=ns.map V.int) (j:=i.toNat) (v:=.int (ns[i.toNat]'tb_g%)) (by rw[dF,e];rfl)
 rwa [GQ h0]at this
theorem four{a b c d v:Int}(h:v∈[a,b,c,d]):v=a\/v=b\/v=c\/v=d:=by simpa using h
theorem amy(f:Str)(v:V):bU f v []=[(f,v)]:=rfl
theorem aoJ(f:Str)(v:V)(r:List (Str × V))(u:V):bU f v ((f,u)::r)=(f,v)::r:=by
 unfold bU;rw[if_pos rfl]
theorem aoK{f g:Str}(h:¬ g=f)(v:V)(r:List (Str × V))(u:V):bU f v ((g,u)::r)=(g,u)::bU f v r:=by
 rw[bU,if_neg h]
theorem cg{f m:Str}{v:V}{r:List (Str × V)}(h:¬ m=f):((f,v)::r).lookup m=r.lookup m:=by
 rw[aco];rw[beq_eq_false_iff_ne.mpr h]
theorem aaW{a:Addr}:decide (V.ref a=V.non)=false:=decide_eq_false (by intro z;cases z)
theorem aaX:decide (V.non=V.non)=true:=decide_eq_true rfl
theorem eF{p a:Addr}{H H':Hp}(b:But p H H')(h:H' a=none)(n:a≠p):H a=none:=by
 cases e:H a with
 |none=>rfl
 |some o=>rw[b a o e n]at h;cases h
section
variable{X:Cx}
def amz(K:aG):R2:=fun x y H Q=>∃(a b:Addr)(xs ys:List V),x=.ref a/\y=.ref b/\SqL K H a xs/\SqL K H b ys/\xs.length≠ys.length/\Q (.bl false) H
theorem aaY(hu:X.A.units+64<cLine):OpR X (fB .Eq) (amz X.K):=by
 walk_at "k"
 obtain⟨a,b,xs,ys,rfl,rfl,ha,hb,hl,w⟩:=h;obtain rfl:v=Value.ref a:=rx;obtain rfl:u=Value.ref b:=ry;obtain⟨us,r1,p1,_⟩:=I.list ha;obtain⟨vs,r2,p2,_⟩:=I.list hb;have l1:=r1.length;have l2:=r2.length;have:=aq3 (A:=X.A) (s:=s) p1.isList p2.isList (by rw[bH,bH,bne_iff_ne];lia) tb_g%;exact this X.prog X.w X.xe _ #[.bl _,H,I,rfl,w]
end
theorem amA{X:Cx}(hu:X.A.units+64<cLine):OpR X (fB .Eq) (fun x y H Q=>aeJ X.K true x y H Q\/amz X.K x y H Q):=fun pins s σ H x y v u Q I rx ry h =>
 h.elim (amx hu pins s σ H x y v u Q I rx ry) (aaY hu pins s σ H x y v u Q I rx ry)
end L2
namespace Dec
abbrev dg(n:Nat):List Char:=Nat.toDigits 10 n
theorem DR{n:Nat}(h:n<10):dg n=[BR n]:=Nat.toDigits_of_lt_base h
theorem Uy{n:Nat}(h:10<=n):dg n=dg (n / 10)++dg (n % 10):=by
 have:=Nat.toDigits_append_toDigits (b:=10) (n:=n / 10) (d:=n % 10) tb_g% tb_g% tb_g%;rw[show 10*(n / 10)+n % 10=n by lia]at this;exact this.symm
theorem aeM(n:Nat):(dg (n % 10)).length=1:=by rw[DR tb_g%];rfl
def pad(k m:Nat):List Char:=gY (k-(dg m).length) '0'++dg m
theorem vL:∀(k:Nat){m:Nat},1<=k->m<10 ^ k->(dg m).length<=k
 |0,_,h,_=>by lia
 |k+1,m,_,h=>by
  rcases iz m 10 with l|l
  ·rw[DR l];exact Nat.succ_le_succ (cJ _)
  ·rw[Uy l,bB,aeM];have hk:1<=k:=by
    rcases Nv k with rfl|z
    ·rw[GD,Nat.pow_one]at h;lia
    ·exact z
   have:=vL k hk (m:=m / 10) (by rw[mQ]at h;lia);lia
theorem amB{k m:Nat}(hk:1<=k)(h:m<10 ^ (k+1)):pad (k+1) m=pad k (m / 10)++dg (m % 10):=by
 unfold pad;rcases iz m 10 with l|l
 ·rw[show m / 10=0 by lia,show m % 10=m by lia,DR l,DR (show 0<10 by decide)];show gY (k+1-1) '0'++[BR m]=gY (k-1) '0'++['0']++[BR m];rw[show k+1-1=(k-1)+1 by lia,Vt]
 ·have:=vL k hk (m:=m / 10) (by rw[mQ]at h;lia);rw[Uy l,bB,aeM,<-dO];rw[show k+1-((dg (m / 10)).length+1)=k-(dg (m / 10)).length by lia]
theorem aaZ{n:Nat}(hn:0<n):∀(k:Nat){m:Nat},1<=k->m<10 ^ k->dg (n*10 ^ k+m)=dg n++pad k m
 |0,_,h,_=>by lia
 |k+1,m,_,h=>by
  have e:(n*10 ^ (k+1)+m) / 10=n*10 ^ k+m / 10:=by rw[mQ,<-uR];lia
  have e2:(n*10 ^ (k+1)+m) % 10=m % 10:=by rw[mQ,<-uR];lia
  have big:10<=n*10 ^ (k+1)+m:=by
   have:=ac8 hn (Nu (show 0<10 by decide) (show 1<=k+1 by lia));lia
  rw[Uy big,e,e2];rcases Nv k with rfl|z
  ·rw[WR,Nat.mul_one]at *;have hm:m<10:=by simpa using h
   rw[show m / 10=0 by lia,Nat.add_zero,show m % 10=m by lia];unfold pad;rw[DR hm];rfl
  ·rw[aaZ hn k z (by rw[mQ]at h;lia),amB z h,dO]
end Dec
namespace Dec
open PySem
def tx(cs:List Char):Str:=#[(cs.map oE).toArray]
theorem vM(cs:List Char):(tx cs).length=cs.length:=by
 show((cs.map oE).toArray).size=_;rw[bH,aC]
theorem af0(n:Nat):(WT n).toList=dg n:=by
 unfold WT;exact String.toList_ofList
theorem jV(n:Nat):aD (toString (n:Int))=tx (dg n):=by
 rw[aiC,show toString (n:Int)=WT n from rfl,af0];rfl
theorem DW{n:Nat}(h:0<n):aD (toString (-(n:Int)))=tx ('-'::dg n):=by
 obtain⟨m,rfl⟩:∃m,n=m+1:=#[n-1,by lia];rw[aiC,show toString (-((m+1:Nat):Int)) = "-" ++ WT (m+1)from rfl,String.toList_append,af0];rfl
theorem aa0{n:Nat}{c:Char}(h:c∈dg n):48<=c.toNat/\c.toNat<=57:=by
 have:=Nat.isDigit_of_mem_toDigits tb_g% tb_g% h;simp[Char.isDigit]at this;show#[this.1,this.2]
theorem af2(n:Nat):dg n≠[]:=by
 rcases iz n 10 with l|l
 ·rw[DR l];exact eZ _ _
 ·rw[Uy l];intro e;have:=congrArg gZ e;rw[bB,aeM]at this;simp at this
theorem amC{k m:Nat}(hk:1<=k)(h:m<10 ^ k):W8 (tx (dg m)) k=tx (pad k m):=by
 have hl:=vL k hk h;unfold W8 pad;rw[vM];by_cases e:(k:Int)<=(dg m).length
 ·rw[if_pos e,show k-(dg m).length=0 by lia];rfl
 ·rw[if_neg e];unfold zfilled;obtain⟨c,cs,ec⟩:=Vn (af2 m);have hc:=aa0 (n:=m) (c:=c) (by rw[ec];exact bV);have e0:(tx (dg m)).cps[0]? = some c.toNat:=by rw[ec];rfl
  rw[e0];have:(match some c.toNat with|some 43=>true|some 45=>true|_=>false)=false:=by
   split
   ·rename_i z;have:=bN z;lia
   ·rename_i z;have:=bN z;lia
   ·rfl
  split
  ·rename_i z;have:=bN z;lia
  ·rename_i z;have:=bN z;lia
  ·unfold aqz tx;rw[adg];apply congrArg Str.mk;apply Hi.mp;simp
theorem Uz:∀(ys:List Str)(acc:Array Nat),ys.foldl (fun acc p=>acc++(#[#[]]:Str).cps++p.cps) acc=acc++(ys.flatMap fun y=>y.cps.toList).toArray
 |[],acc=>by simp
 |y::ys,acc=>by
  rw[Mx,Uz ys,tO];apply Hi.mp;simp
theorem join_none(css:List (List Char)):bZ #[#[]] (css.map tx)=tx css.flatten:=by
 show Xe #[#[]] (css.map tx)=_;unfold Xe;cases css with
 |nil=>rfl
 |cons c cs =>
  rw[cP];show(#[(cs.map tx).foldl (fun acc p=>acc++(#[#[]]:Str).cps++p.cps) (tx c).cps]:Str)=_;rw[Uz];apply congrArg Str.mk;apply Hi.mp;unfold tx;simp only[List.flatMap,fj,Hh,List.flatten_cons];rw[bG,List.map_flatten];rfl
end Dec
namespace L2
open PySem PySem.Spec PyProof.Rows
section
variable{X:Cx}
theorem Yc:∀{ys:List Str}{its:List Value},Vals (ys.map V.str) its->StrsAre its ys
 |[],_,h=>by cases h;exact .nil
 |y::ys,_,h=>by
  cases h with
  |cons r1 r2=>obtain⟨t,rfl⟩:=r1;exact .cons _ _ (Yc r2)
def rJoin(K:aG):V->List V->Hp->VK->Prop:=fun x vs H Q=>∃(sep:Str)(a:Addr)(ys:List Str),x=.str sep/\vs=[.ref a]/\SqL K H a (ys.map V.str)/\sep.length<=16/\(ys.map (·.length)).sum+ys.length<=1048576/\Q (.str (bZ sep ys)) H
theorem DX:MtR X "str.join" (rJoin X.K):=by
 walk_at "E"
 obtain⟨sep,a,ys,rfl,rfl,hs,h16,hw,q⟩:=h
 k_dat (t,t,v,sep,rx) "A"
 obtain⟨u,rfl,ru⟩:=vals1 rv;cases ru;obtain⟨its,r,p,hz⟩:=I.list hs;exact join_listW p.isList (Yc r) h16 hw fun t' k=>#[.str _,H,I.tok k,#[t',rfl],q]
def asw:V->List V->Hp->VK->Prop:=fun x vs H Q=>∃(z:Str)(i:Int),x=.str z/\vs=[.int i]/\PadOk i=true/\Q (.str (W8 z i)) H
theorem amD:MtR X "str.zfill" asw:=by
 walk_at "E"
 obtain⟨z,i,rfl,rfl,hp,q⟩:=h
 k_dat (t,t,v,z,rx) "A"
 obtain⟨u,rfl,ru⟩:=vals1 rv
 k_dat (k,ru) "F"
 exact arF hp fun t' k=>#[.str _,H,I.tok k,#[t',rfl],q]
theorem ahq:fW X (.builtin "abs") (fun xs H Q=>∃i,xs=[.int i]/\Q (.int (if i<0 then -i else i)) H):=by
 walk_at "s"
 obtain⟨i,rfl,q⟩:=h;obtain⟨u,rfl,t,rfl⟩:=vals1 r;exact call_abs_int fun u k=>#[.int _,H,I.tok k,#[u,rfl],q]
def ap1(_ j:Int):Prop:=0<j/\j<2 ^ 200
theorem amE:OpR X (jx .FloorDiv) (rI ap1 fun i j=>.int (i / j)):=
 opI (C:=ap1) (g:=fun i j=>i / j) fun i j t u s Q E hc h=>by
  obtain⟨h0,h1⟩:=hc;have hl:j.natAbs.log2<9000:=by
   have h3:j.natAbs≠0:=by lia
   have h2:j.natAbs<2 ^ 200:=by lia
   have:=(ajF h3).mpr h2;lia
  refine akl tb_g% ?_ (.inl (PyProof.noPylong_of_log2 hl));rwa[ajP i tb_g%]
end
section
variable{prog:aH}{w:World}{A:aP}{E:Value->Shared->Prop}{s:Shared}{r l:Addr}
theorem aa1{Q:List Value->Shared->Prop}{items:Array Value}(hh:A.handled=none)(hr:s.heap.IsRevIter r l ((items.size:Int)-1))(hl:s.heap.IsList l items)(hrl:l≠r)(hz:items.size<=sizeLine)
  (q:∀h' tk acc,(∀b o,b≠r->s.heap.get? b=some o->h'.get? b=some o)->Nr (Behind items) acc items.size->Q acc.toList { s with heap:=h',toks:=tk }):wpAny (model prog w) A (collect (.ref r)) Q E s:=by
 obtain ⟨o1,g1,_⟩:=id hr;obtain ⟨o2,g2,_⟩:=id hl;unfold collect;refine aA (wpAny_runValue (qY PySem.F.entry_proto_collect ?_));rw [Dk PySem.F.plain_proto_collect _];show wpAny _ A.in1 (newList [] >>= fun l=>again (.builtin "list.__iadd__" ⟨[l,.ref r],[]⟩)) _ _ s;refine aA (acM ?_);refine aK ⟨qZ akv _,qY PySem.F.entry_list_iadd ?_⟩;rw [Dk akv _];have hS:(s.heap.push { cls:=.type "list",data:=.seq #[] }).get? s.heap.objs.size=some { cls:=.type "list",data:=.seq #[] }:=dN _ rfl;show wpAny _ A.in1 (Ab (.ref s.heap.objs.size) (.ref r) (.ref s.heap.objs.size)) _ _ { s with heap:=s.heap.push { cls:=.type "list",data:=.seq #[] } };refine aaQ (R:=fun res s'=>match res with
  | Except.ok (Flow.ret v)=>wpAny (model prog w) A (match v with
   | .ref a=>load a >>= fun o=>match o.data with
    | .seq xs _=>pure xs.toList
    |_=>unsupported "internal:collect"
   | _=>unsupported "internal:collect") Q E s'
  |Except.ok _=>False
  | Except.error e=>E e s') (s:={ s with heap:=s.heap.push { cls:=.type "list",data:=.seq #[] } }) hh (hr.at fun o e=>cU _ e) (hl.at fun o e=>cU _ e) hrl _ (lE (aR g1)) (lE (aR g2)) _ 0 hS hz fun h' tk acc d hk hS2 hacc=>?_
 exact aA (wpAny_load hS2 (aK (q h' tk acc (fun b o n e=>hk b o (bR (aR e)) n (cU _ e)) hacc)))
theorem amF{x:Str}{t:Tok}{Q:Value->Shared->Prop}{items:Array Value}{zs:List Str}(hh:A.handled=none)(hr:s.heap.IsRevIter r l ((items.size:Int)-1))(hl:s.heap.IsList l items)(hrl:l≠r)(hz:items.size<=sizeLine)
  (hs:∀acc,Nr (Behind items) acc items.size->StrsAre acc.toList zs) (h16:x.length<=16) (hw:(zs.map (·.length)).sum+zs.length<=1048576)
  (q:∀h' t' k,(∀b o,b≠r->s.heap.get? b=some o->h'.get? b=some o)->Q (.str (bZ x zs) t') { s with heap:=h',toks:=k }):
  wpAny (model prog w) A (call (.builtin "str.join") [.str x t,.ref r]) Q E s:=by
 apply nR;apply Bj Jl.plain PySem.F.entry_str_join;refine Jl.check _ _ _ _ _ _ _ _ (xR _ _ _) (PySem.F.args_str_join_2 _ _) ?_;rw[join_tree_other];refine aA (Br (T := "list_reverseiterator") hr.typeIs ?_);show wpAny _ A.in1 ((Gy (.ref r)).tryCatch _ >>= fun it=>collect it >>= fun its=>joinTail x its) _ _ s;refine aA (Bq (V5 hr ?_));refine aA (aa1 (A:=A.in1) hh hr hl hrl hz fun h' tk acc hk hacc=>?_);obtain⟨ps,e1,e2⟩:=strsAre_values (hs acc hacc);subst e2;rw[e1];have ok:=joinOk_of_weight hw h16;unfold JoinOk at ok;rw[ajJ]at ok;have g:Gives (joinTail x (Wq ps)) (joinMade x ps):=by
  cases ps with
  |nil=>exact acP x [] ok
  |cons a1 r1 =>
   cases r1 with
   |nil=>exact acP x [a1] ok
   |cons a2 r2=>exact acP x (a1::a2::r2) ok
 exact g prog w A (wants Q E) _ (post_join ps #[joinFit_length ok,fun t' k=>q h' t' k hk])
end
section
variable{X:Cx}{o l:Expr}{to:TE}{p' apos pos' cpos:Pos}
def amG(K:aG)(to:TE)(ta:TA):TE:=fun σ H Q=>to σ H fun x H1=>∃sep:Str,x=.str sep/\ta σ H1 fun vs H2=>∃(a:Addr)(ys:List Str),vs=[.ref a]/\SqL K H2 a (ys.map V.str)/\sep.length<=16/\(ys.map (·.length)).sum+ys.length<=1048576/\Q (.str (bZ sep ys.reverse)) H2
theorem aeN{ta:TA}(hm1:X.mg "reversed" = none)(ho:PE X o to)(ha:PA X [l] ta)(hc:X.calm=true)(hg1:Gl X "reversed" := by rfl)
  (hbase:nQ o "join" X.env (eval o X.env)=eval o X.env:=by rfl)
  (hfew:((cY cpos (aZ [.Call (.Name "reversed" p') [l] [] pos'] X.env)).all (fun x=>!x.1) && (xW cpos (xP [] X.env)).all (fun x=>x.1.isSome)
   && decide ([Expr.Call (.Name "reversed" p') [l] [] pos'].length+([]:List lA).length+(if ([]:List lA).isEmpty then 0 else 1)<30))=true:=by rfl)
  (hline:(apos.endLine == cpos.line)=true:=by rfl) (he:aZ [.Call (.Name "reversed" p') [l] [] pos'] X.env=[(false,eval (.Call (.Name "reversed" p') [l] [] pos') X.env)]:=by rfl) (hs:aZ [l] X.env=[(false,eval l X.env)]:=by rfl):
  PE X (.Call (.Attribute o "join" apos) [.Call (.Name "reversed" p') [l] [] pos'] [] cpos) (amG X.K to ta):=by
 walk_at "l"
 refine aiV hbase hfew hline rfl (thn (ho pins s σ H _ I h) fun v s1 zq=>?_);obtain⟨x,H1,I1,rx,q1⟩:=zq;obtain⟨sep,rfl,q1⟩:=q1
 k_dat (t,t,v,sep,rx) "A"
 refine⟨"str","str.join",wD,Jl,Hf,xR _ _ _,(fun _ e=>nomatch e),?_⟩;rw[he];refine adK rfl (adL (uV (Call_ (iB I1 hg1 hm1 adw (yg (thn (ha pos' pins s1 σ H1 _ I1 q1) fun us s2 zq=>?_) hs rfl)))));obtain⟨vs,H2,I2,r2,q2⟩:=zq;obtain⟨a,ys,e,hq,h16,hw,q⟩:=q2;subst e;obtain⟨u,rfl,ru⟩:=vals1 r2;cases ru;obtain⟨its,rv,pl,hz⟩:=I2.list hq;have hlen:=rv.length;refine acJ pl.isList (yh ?_);show wpAny _ _ (call (.builtin "str.join") [.str sep t,.ref s2.heap.objs.size]) _ _ _;have hla:a≠s2.heap.objs.size:=by
  obtain⟨o,g,_⟩:=pl.isList;exact bR (aR g)
 refine amF (items:=its.toArray) (zs:=ys.reverse) (I2.ok.hd hc) #[_,dN _ rfl,rfl,rfl] (pl.isList.at fun o e=>cU _ e) hla (by rw[bH];lia) (fun acc hacc=>?_) h16 (by rwa[xG,aiu,xu]) fun h' t' k hk=>?_
 ·refine Yc ?_;rw[xG];refine X7 (by rw[tU,hacc.1,bH,xu];lia) fun j x u hx hu=>?_;have hj:j<(ys.map V.str).length:=by
   have:=(fu.mp hx).1
   rwa [xu]at this
  rw[Vs hj]at hx;have hb:Behind its.toArray j u:=hacc.2 j u (by rwa[<-Hg]);unfold Behind at hb;rw[bH,<-hlen]at hb;obtain⟨v,hv,rvv⟩:=rv.get hx;have:u=v:=bN (hb.symm.trans (by simpa using hv));rwa[this]
 ·show#[.str _,H2,I2.kept (t':=k) fun b o e=>hk b o (bR (aR e)) (cU _ e),#[t',rfl],q]
end
section
variable{X:Cx}
def amH(K:aG):V->List V->Hp->VK->Prop:=fun x vs H Q=>∃l b xs zs,x=.ref l/\vs=[.ref b]/\H l=some (.lst xs)/\SqT K H b zs/\xs.length+zs.length<=sizeLine/\Q .non (upd H l (.lst (xs++zs)))
theorem aeO:MtM X "list.extend" (amH X.K):=by
 walk_at "E"
 obtain⟨l,b,xs,zs,rfl,rfl,hH,hB,hz,q⟩:=h;cases rx;obtain⟨u,rfl,ru⟩:=rv.one;cases ru;obtain⟨z,its,n,r,hl,e⟩:=I.yF hH;obtain⟨its2,r2,⟨o2,g2,c2,n2,d2⟩,z2⟩:=I.tuple hB;have hl2:=r2.length;have h1:its.toArray.size+its2.toArray.size<=sizeLine:=by rw[bH,bH];lia
 refine V7 F.slot_list_extend #[_,e,rfl] F.entry_list_extend ?_ (F.args_list_extend_2 _ _);show wpAny _ _ (Ab (.ref l) (.ref b) .none) _ _ s;unfold Ab N7;refine aA (Br (T := "tuple") #[o2,g2,c2] ?_);rw[if_pos (by rw[show(Value.type "tuple" == Value.type "tuple")=true by decide,ajO])];refine aA (aA (qt g2 d2 (aK ?_)));refine aA (aA (qt e rfl (aK ?_)));rw[if_neg (by rw[aau h1,GP];exact d9)];refine aA (listUpdate_at e rfl ?_ (by rw[bH];lia) (by rw[adI];lia));refine aK #[_,rfl,?_];show#[.non,_,I.lset (its':=its++its2) hH e (by simp) (r.append r2) ?_,rfl,q];rw[bB];lia
end
end L2
namespace Dec
open PySem PySem.NumText
theorem asx(n:Nat):digitsVal ((dg n).map oE)=n:=by
 induction n using BP with
 |_ n ih =>
  have one:∀m,m<10->(BR m).toNat-48=m:=by decide
  rcases iz n 10 with l|l
  ·rw[DR l];have:=one n l;show 0*10+((BR n).toNat-48)=n;lia
  ·rw[Uy l,DR (n:=n % 10) tb_g%,bG];show digitsVal (_++[(BR (n % 10)).toNat])=n;rw[digitsVal_snoc,ih (n / 10) tb_g%,one (n % 10) tb_g%];lia
theorem qO(cs:List Char):(tx cs).cps.toList=cs.map oE:=by unfold tx;simp
theorem Yd(n:Nat):AllDigits ((dg n).map oE):=fun c m=>by
 k_dat (d,hd,cX.mp,m) "G"
 exact aa0 hd
theorem asy{n:Nat}(h:(dg n).length<=640):intText? (tx (dg n))=some (n:Int):=by
 rw[intText_digits (by rw[qO];exact Yd n) (by rw[qO];simpa using af2 n) (by rw[vM];lia),qO,asx]
theorem aoL{c:Nat}(h:48<=c/\c<=57):uU (aD "0123456789") #[[c].toArray]=true:=by
 have all:∀k,k<10->uU (aD "0123456789") #[[48+k].toArray]=true:=by decide +kernel
 have:=all (c-48) tb_g%
 rwa [show 48+(c-48)=c by lia]at this
theorem aoM{n:Nat}(h:0<n):∃c r,(dg n).map oE=c::r/\49<=c:=by
 induction n using BP with
 |_ n ih =>
  have one:∀m,m<10->0<m->49<=(BR m).toNat:=by decide
  rcases iz n 10 with l|l
  ·show#[_,[],by rw[DR l];rfl,one n l h]
  ·obtain⟨c,r,e,hc⟩:=ih (n / 10) tb_g% tb_g%;show#[c,r++(dg (n % 10)).map oE,by rw[Uy l,bG,e];rfl,hc]
end Dec
namespace L2
open PySem PySem.Spec PySem.Builtin PySem.Builtin.Str PyProof.Rows
section
variable{X:Cx}
theorem Px:∀l:List (Str × Tok),Vals ((l.map (·.1)).map V.str) (Wq l)
 |[]=>.nil
 |p::l=>.cons #[p.2,rfl] (Px l)
theorem Cw{pins:List (Addr × Obj)}{s:Shared}{σ:St}{H:Hp}{Q:VK}{k:Nat}(I:Inv X pins σ H s)(l:List (Str × Tok)){ys:List Str}(e:l.map (·.1)=ys)(hl:ys.length<=sizeLine)
  (q:∀D,H D=none->Q (.ref D) (upd H D (.lst (ys.map V.str)))):EP X pins σ Q (.ref s.heap.objs.size) { s with heap:=s.heap.push { cls:=.type "list",data:=.seq (Wq l).toArray },toks:=k }:=by
 show#[.ref s.heap.objs.size,_,I.laid (t':=k) (fun b u h=>cU _ h) (aJ _) (show cA X.prog X.w _ _ s.heap.objs.size (.lst (ys.map V.str))from#[by rwa[aC],Wq l,0,by rw[<-e];exact Px l,ajz rfl rfl]),rfl,q _ (I.hok.fresh (aJ _))]
def asz:V->List V->Hp->VK->Prop:=fun x vs H Q=>∃z y:Str,x=.str z/\vs=[.str y]/\(y.length == 0)=false/\z.length<=1048576/\∀D,H D=none->Q (.ref D) (upd H D (.lst ((lF z y).map V.str)))
theorem DY:MtR X "str.split" asz:=by
 walk_at "E"
 obtain⟨z,y,rfl,rfl,hy,hz,q⟩:=h
 k_dat (t,t,v,z,rx) "A"
 obtain⟨u,rfl,ru⟩:=vals1 rv
 k_dat (k,ru) "F"
 have big:z.length+2<=sizeLine:=bQ (show _<=1048578 by lia) tb_g%;have hn:(partsBetween z (occurrences z y 0 z.length (z.length+1)) y.length).length<=sizeLine:=by
  have:=StrLaws.occ_length_le z y 0 z.length (z.length+1);rw[aiY];lia
 unfold lF at q;cases c1:(decide (z.length<y.length) || decide (akG z<akG y))with
 |true =>
  rw[if_pos c1]at q;refine Gn F.slot_str_split (xR _ _ _) F.entry_str_split (F.args_str_split_2 _ _) (meets_str_split_cannot_occur z y t k c1) ?_;exact Cw I [(z,t)] rfl tb_g% q
 |false =>
  rw[if_neg (ne_true_of_eq_false c1)]at q;cases c2:(occurrences z y 0 z.length (z.length+1)).isEmpty with
  |true =>
   rw[if_pos c2]at q;refine Gn F.slot_str_split (xR _ _ _) F.entry_str_split (F.args_str_split_2 _ _) (meets_str_split_not_found z y t k c1 hy c2) ?_;exact Cw I [(z,t)] rfl tb_g% q
  |false =>
   rw[if_neg (ne_true_of_eq_false c2)]at q;refine Gn F.slot_str_split (xR _ _ _) F.entry_str_split (F.args_str_split_2 _ _) (meets_str_split_sep z y t k c1 hy c2 tb_g% hn) ?_;have e:=Cw (k:=s.toks+(partsBetween z (occurrences z y 0 z.length (z.length+1)) y.length).length) I (numbered s.toks (partsBetween z (occurrences z y 0 z.length (z.length+1)) y.length)) (numbered_texts _ _) hn q;rwa[<-strsFrom_eq]at e
def aoN:V->List V->Hp->VK->Prop:=fun x vs H Q=>∃z y:Str,x=.str z/\vs=[.str y]/\Q (.bl (G9 z y)) H
theorem R4:MtR X "str.startswith" aoN:=by
 walk_at "E"
 obtain⟨z,y,rfl,rfl,q⟩:=h
 k_dat (t,t,v,z,rx) "A"
 obtain⟨u,rfl,ru⟩:=vals1 rv
 k_dat (k,ru) "F"
 exact arE #[.bl _,H,I,rfl,q]
theorem amI:OpR X (fB .In) (fun x y H Q=>∃a b:Str,x=.str a/\y=.str b/\Q (.bl (uU b a)) H):=by
 walk_at "k"
 obtain⟨a,b,rfl,rfl,q⟩:=h
 k_dat (t,t,v,a,rx) "A"
 k_dat (k,t,u,b,ry) "A"
 exact PySem.P.in_str #[.bl _,H,I,rfl,q]
theorem aeP:fW X (.type "int") (fun xs H Q=>∃(z:Str)(n:Int),xs=[.str z]/\z.length<=640/\PySem.intText? z=some n/\Q (.int n) H):=by
 walk_at "s"
 obtain⟨z,n,rfl,hz,e,q⟩:=h;obtain⟨u,rfl,t,rfl⟩:=vals1 r;exact arz e hz #[.int n,H,I.tok _,#[_,rfl],q]
end
def ji(c:Nat):List (List Nat)->List Nat
 |[]=>[]
 |[a]=>a
 |a::b::r=>a++c::ji c (b::r)
theorem amJ{c:Nat}:∀{a b X Y:List Nat},c∉a->c∉b->a++c::X=b++c::Y->a=b/\X=Y
 |[],[],_,_,_,_,e=>#[rfl,(Oc e).2]
 |[],y::b,_,_,_,h,e=>absurd (aO.mpr (.inl (Oc e).1)) h
 |x::a,[],_,_,h,_,e=>absurd (aO.mpr (.inl (Oc e).1.symm)) h
 |x::a,y::b,_,_,h,g,e=>by
  obtain⟨e1,e2⟩:=Oc e;obtain⟨e3,e4⟩:=amJ (fun m=>h (cB _ m)) (fun m=>g (cB _ m)) e2;show#[by rw[e1,e3],e4]
theorem amK{c:Nat}:∀{A B:List (List Nat)},A≠[]->B≠[]->(∀a∈A,c∉a)->(∀b∈B,c∉b)->ji c A=ji c B->A=B
 |[],_,h,_,_,_,_=>absurd rfl h
 |_::_,[],_,h,_,_,_=>absurd rfl h
 |[a],[b],_,_,_,_,e=>by rw[show a=b from e]
 |[a],b::d::r,_,_,h,_,e=>absurd (by rw[show a=b++c::ji c (d::r)from e];exact tL _ bV) (h a bV)
 |a::d::r,[b],_,_,_,h,e=>absurd (by rw[<-show a++c::ji c (d::r)=b from e];exact tL _ bV) (h b bV)
 |a::d::r,b::f::s,_,_,h,g,e=>by
  obtain⟨e1,e2⟩:=amJ (h a bV) (g b bV) e;rw[e1,amK (eZ _ _) (eZ _ _) (fun x m=>h x (cB _ m)) (fun x m=>g x (cB _ m)) e2]
theorem Ye(c:Nat):∀ts:List Str,(VG #[[c].toArray] ts).cps.toList=ji c (ts.map fun t=>t.cps.toList)
 |[]=>rfl
 |[a]=>rfl
 |a::b::r=>by
  show(a.cps++[c].toArray++(VG #[[c].toArray] (b::r)).cps).toList=_;rw[Hh,Hh,Ye c (b::r),dO];rfl
theorem amL(x y:Str):lF x y≠[]:=by
 unfold lF;split
 ·exact eZ _ _
 ·split
  ·exact eZ _ _
  ·rename_i h;intro e;have:=aiY x (occurrences x y 0 x.length (x.length+1)) y.length;rw[e]at this;cases this
theorem Py{c:Nat}{ts:List Str}(ne:ts≠[])(free:∀t∈ts,c∉t.cps.toList):lF (bZ #[[c].toArray] ts) #[[c].toArray]=ts:=by
 have e:=StrLaws.join_split (bZ #[[c].toArray] ts) #[[c].toArray];have f:=StrLaws.split_free (bZ #[[c].toArray] ts) c;have n:=amL (bZ #[[c].toArray] ts) #[[c].toArray];generalize lF (bZ #[[c].toArray] ts) #[[c].toArray]=us at e f n;have e2:VG #[[c].toArray] us=VG #[[c].toArray] ts:=e.trans (StrLaws.glued_eq_join _ _);have e3:=congrArg (fun z:Str=>z.cps.toList) e2;rw[Ye,Ye]at e3;have inj:∀{us ts:List Str},us.map (fun t=>t.cps.toList)=ts.map (fun t=>t.cps.toList)->us=ts:=fun {us ts} h=>by
  have:∀us:List Str,(us.map fun t=>t.cps.toList).map (fun l=>(#[l.toArray]:Str))=us:=fun us=>by
   rw[fj];exact(wB fun t _=>by cases t;simp).trans (List.map_id us)
  rw[<-this us,h,this]
 refine inj (amK (fun z=>n (Vx.mp z)) (fun z=>ne (Vx.mp z)) (fun a m=>?_) (fun a m=>?_) e3)
 ·obtain⟨t,mt,rfl⟩:=cX.mp m;exact f t mt
 ·obtain⟨t,mt,rfl⟩:=cX.mp m;exact free t mt
end L2
namespace L2
open PySem PySem.Spec PyProof.Rows
def Itc(z:Str):It:=#[fun i _=>i<z.cps.size,fun i H x H'=>H'=H/\∃c,z.cps[i]? = some c/\x=.str #[[c].toArray],fun i _=>i=z.cps.size]
theorem aa2{P:aH}{w:World}{K:aG}{tg:Expr}(it:Addr)(z:Str)(t:Tok){ty:String}(hty:["enumerate","zip","dict_itemiterator","dict_reverseitemiterator","odict_iterator","itertools.zip_longest","itertools.pairwise"].contains ty=false)
  (W:∀A:aP,A.handled=none->Walks P w A it [it] [it] z.cps.size (SignAt z) fun i h=>h.IsStrIter it ty z t i)
  (S:∀(A:aP)(i:Nat)(s:Shared)(Q:Value->Shared->Prop)(E:Value->Shared->Prop),s.heap.IsStrIter it ty z t i->Q (.ref it) s->wpAny (model P w) A (Gy (.ref it)) Q E s):Turn P w K tg (Itc z) [it] it (fun i h=>h.IsStrIter it ty z t i) where
 mem:=by simp
 obj:=fun i h st b hb=>by
  have e:b=it:=by simpa using hb
  subst e;obtain⟨o,e,c,d⟩:=st;show#[o,e,fun v y=>by rw[d]at y;cases y]
 keep:=fun i h h' st k=>(W { } rfl).frame i h h' st k
 item:=by
  walk_at "g"
  subst hP hw hK
  k_dat it "i"
  refine(W X.A (I.ok.hd hc)).item i s _ _ hg st fun v h' tk hv st' kk=>?_;obtain⟨c,u,hx,rfl⟩:=hv;have I1:Inv X pins σ H { s with heap:=h',toks:=tk }:=I.turned (fun b o hb e=>kk b o (by simpa using hb) e) f0 f1 f3 f4 f5;have st2:=st';obtain⟨o,ho,hcl,hd⟩:=st2;show#[_,rfl,aan (s:={ s with heap:=h',toks:=tk }) ho hcl hd hty #[.str #[[c].toArray],H,I1,#[u,rfl],#[rfl,c,hx,rfl],st',fun b hb=>(hf b hb).1]]
 done:=by
  walk_at "g"
  subst hP hw hK
  k_dat it "i"
  obtain rfl:i=z.cps.size:=hg;exact(W X.A (I.ok.hd hc)).done s _ _ st fun h' tk kk=>#[rfl,I.turned (t':=tk) (fun b o hb e=>kk b o (by simpa using hb) e) f0 f1 f3 f4 f5]
 self:=S
section
variable{X:Cx}{tg:Expr}
def iStr(tl:TE):TI:=fun σ H R=>tl σ H fun x H1=>∃z,x=.str z/\R (Itc z) H1
theorem asA{l:Expr}{tl:TE}(hl:PE X l tl):PI X tg l (iStr tl):=by
 intro pins s σ H R I h;refine thn (hl pins s σ H _ I h) fun v s1 zq=>?_
 walk_at "w"
 obtain⟨z,rfl,q⟩:=q1
 k_dat (t,t,v,z,r1) "A"
 have fp:∀b∈[s1.heap.objs.size],Ci X pins H1 b:=fun b hb=>by
  have e:b=s1.heap.objs.size:=by simpa using hb
  subst e;exact I1.ad5 (aJ _) (I1.hok.fresh (aJ _))
 cases ha:z.cps.all (· < 128)with
 |true=>exact wpAny_pyIter_ascii ha #[_,_,_,_,H1,rfl,I1.kept (t':=s1.toks) fun b o e=>cU _ e,aa2 _ z t tb_g% (fun A hA=>Walks.strAscii hA _ z t) (fun _ _ _ _ _ st hQ=>wpAny_pyIter_striter_ascii st hQ),#[_,dN _ rfl,rfl,rfl],fp,q]
 |false=>exact wpAny_pyIter_wide ha #[_,_,_,_,H1,rfl,I1.kept (t':=s1.toks) fun b o e=>cU _ e,aa2 _ z t tb_g% (fun A hA=>Walks.strWide hA _ z t) (fun _ _ _ _ _ st hQ=>wpAny_pyIter_striter_wide st hQ),#[_,dN _ rfl,rfl,rfl],fp,q]
end
theorem amM{z:Str}{caps:List Nat}{te:TE}{σ:St}{H:Hp}{D:Addr}{Q:VK}(Pv:Nat->List V->Hp->Prop)(h0:Pv 0 [] (upd H D (.lst [])))
  (hl:∀i ys H,i<=z.cps.size->Pv i ys H->H D=some (.lst ys)/\ys.length<sizeLine)
  (hs:∀i ys H c,z.cps[i]? = some c->Pv i ys H->te (yJ σ (some (.str #[[c].toArray])) caps) H fun y H3=>H3 D=some (.lst ys)/\Pv (i+1) (ys++[y]) (upd H3 D (.lst (ys++[y]))))
  (hd:∀ys H,Pv z.cps.size ys H->Q (.ref D) H) (mE:∀σ H (Q Q':VK),(∀y H,Q y H->Q' y H)->te σ H Q->te σ H Q'):jT (Itc z) caps vG te σ D Q H:=by
 show#[fun i m ys H=>m=z.cps.size-i/\i<=z.cps.size/\Pv i ys H,#[_,rfl,cJ _,h0],?_];rintro i m ys H ⟨rfl,hi,p⟩;obtain⟨q,l⟩:=hl i ys H hi p;show#[q,?_];rcases iz i z.cps.size with lt|ge
 ·refine .inr #[lt,l,fun x H' y=>?_];obtain⟨rfl,c,hc,rfl⟩:=y;unfold vG;dsimp only;rw[if_pos rfl];exact mE _ _ _ _ (fun y H3 ⟨a,b⟩=>#[a,z.cps.size-(i+1),by lia,rfl,lt,b]) (hs i ys _ c hc p)
 ·obtain rfl:i=z.cps.size:=by lia
  exact .inl #[rfl,hd ys H p]
section
variable{X:Cx}
def rAllL(K:aG):List V->Hp->VK->Prop:=fun xs H Q=>∃(a:Addr)(bs:List Bool),xs=[V.ref a]/\SqL K H a (bs.map V.bl)/\Q (.bl (bs.all id)) H
theorem aa3:∀{bs:List Bool}{its:List Value},Vals (bs.map V.bl) its->∀(i:Nat)(v:Value),its.toArray[i]? = some v->∃b,bs[i]? = some b/\v=Value.bool b
 |[],_,h,i,v,e=>by cases h;simp at e
 |b::bs,_,h,i,v,e=>by
  cases h with
  |cons r1 r2 =>
   cases i with
   |zero=>obtain rfl:=(show _=Value.bool b from r1);show#[b,rfl,by simpa using e.symm]
   |succ i=>exact aa3 r2 i v (by simpa using e)
theorem range_all{bs:List Bool}:(ju bs.length).all (fun i=>bs.getD i true)=bs.all id:=by
 rw[NP,Ay,Ay];constructor
 ·intro h b m;obtain⟨i,hi⟩:=Vu m;have:=h i (Mz.mpr (fu.mp hi).1);rwa[ab7,hi]at this
 ·intro h i m;have li:=Mz.mp m;rw[ab7,eU li];exact h _ (acp li)
theorem zQ(hc:X.calm=true):fW X (.builtin "all") (rAllL X.K):=by
 walk_at "s"
 obtain⟨a,bs,rfl,ha,q⟩:=h;obtain⟨u,rfl,ru⟩:=vals1 r;cases ru;obtain⟨its,rv,p,hz⟩:=I.list ha;have hl:its.length=bs.length:=by rw[<-rv.length,aC]
 have ne:a≠s.heap.objs.size:=bR (aR (p.isList.choose_spec.1));refine call_all_walk (M5 p.isList #[s.heap.objs.size,_,_,_,_,_,fun i=>bs.getD i true,rfl,adT (A:=X.A.in1) (I.ok.hd hc) _ a ne its.toArray,#[#[_,dN _ rfl,rfl,rfl],?_],?_,fun h' tk hk=>?_])
 ·exact p.isList.push _
 ·intro i v s' Q' E' hv hq;obtain⟨b,hb,rfl⟩:=aa3 rv i v hv;dsimp only at hq;rw[ab7,hb]at hq;exact Bk hq
 ·show#[.bl (bs.all id),H,I.kept (t':=tk) fun b o e=>hk b o (fun m=>?_) (cU _ e),?_,q]
  ·have l1:=aR e;rw[cI.mp m]at l1;exact oh _ l1
  ·rw[bH,hl,range_all];rfl
end
end L2
namespace L2
open PySem PySem.Spec PySem.Builtin PySem.Builtin.Str PyProof.Rows
section
variable{X:Cx}
def rSlS:V->Option Int->Option Int->Hp->VK->Prop:=fun x lo hi H Q=>∃z:Str,x=.str z/\z.length<=1048576/\Q (.str (N6 z lo hi)) H
theorem asB:SlR X rSlS:=by
 intro pins s σ H x v vl vu lo hi sl Q I rx hs pl pu h;obtain⟨z,rfl,hz,q⟩:=h
 k_dat (t,t,v,z,rx) "A"
 have big:z.length<=sizeLine:=bQ hz tb_g%;have fin:∀t' k,EP X pins σ Q (.str (N6 z lo hi) t') { s with toks:=k }:=fun t' k=>#[.str _,H,I.tok _,#[t',rfl],q];show#["str",_,F.slot_str_getitem.lookup,xR _ _ _,?_];cases pl <;> cases pu
 ·exact V3 (l:=none) (u:=none) (st:=none) hs rfl (Wd #[bQ (W7 z _ _) big,fin])
 ·exact V3 (l:=none) (u:=some (_,_)) (st:=none) hs rfl (Wd #[bQ (W7 z _ _) big,fin])
 ·exact V3 (l:=some (_,_)) (u:=none) (st:=none) hs rfl (Wd #[bQ (W7 z _ _) big,fin])
 ·exact V3 (l:=some (_,_)) (u:=some (_,_)) (st:=none) hs rfl (Wd #[bQ (W7 z _ _) big,fin])
end
end L2
namespace PySem
open Sem (wp)
abbrev iD(h:Heap)(z TI TO:Addr)(f0:Value)(b:Bool):Prop:=
 h.get? z=some { cls:=.type "zip",dict:=none,data:=.fields [f0,.bool b,.bool false,.ref TI,.ref TO].toArray,slots:=#[] }
abbrev Tp(h:Heap)(T:Addr)(vs:List Value):Prop:=h.get? T=some { cls:=.type "tuple",data:=.seq vs.toArray }
def its(b:Nat):Nat->Nat->List Value
 |0,_=>[]
 |n+1,j=>.ref (b+j)::its b n (j+1)
abbrev Ls:=List (Addr × Array Value)
structure ZN(b:Nat)(ls:Ls)(i j:Nat)(h:Heap):Prop where
 it:∀(k:Nat)(l:Addr)(xs:Array Value),ls[k]? = some (l,xs)->h.IsListIter (b+k) l (if k<j then i+1 else i)/\h.IsList l xs/\l<b
 ti:Tp h (b+ls.length) (its b ls.length 0)
theorem HX(b p q:Nat)(e:p≠q):b+p≠b+q:=by lia
theorem zo1{b c j n:Nat}(h:c<b\/b+n<=c)(l:j<n):c≠b+j:=by lia
theorem zo2{b c n:Nat}(h:c<b\/b+n+2<c)(k:Nat)(l:k<=n+2):c≠b+k:=by lia
theorem zo3{b l n:Nat}(h:l<b):l<=b+n+2:=by lia
theorem ZN.but{b:Nat}{ls:Ls}{i j:Nat}{c:Addr}{h h':Heap}(K:ZN b ls i j h)(s:ajB c h h')(hc:b+ls.length<c):ZN b ls i j h':=by
 have n:∀a:Nat,a<=b+ls.length->a≠c:=fun a l=>bR (nZ l hc);show#[fun k l xs e=>?_,s _ _ (n _ (aJ _)) K.ti];obtain⟨a,m,lt⟩:=K.it k l xs e;have lk:=(fu.mp e).1;show#[a.extBut s (n _ (ac7 (iV lk) b)),m.extBut s (n _ (bQ (iV lt) (j4 _ _))),lt]
section
variable{prog:aH}{w:World}{A:aP}{E:Value->Shared->Prop}{s:Shared}{b:Nat}{ls:Ls}{i j:Nat}
theorem Ea{a:Addr}{Q:Option Obj->Shared->Prop}(h:Q (s.heap.get? a) s):wpAny (model prog w) A (loadIfAlive a) Q E s:=fun _ _ _=>h
theorem ZN.next{l:Addr}{xs:Array Value}{x:Value}{Q:Value->Shared->Prop}(K:ZN b ls i j s.heap)(hl:ls[j]? = some (l,xs))(hx:xs[i]? = some x)(q:∀h',ZN b ls i (j+1) h'->rA (b+j) s.heap h'->Q x { s with heap:=h' }):
  wpAny (model prog w) A (Ob (.ref (b+j))) Q E s:=by
 obtain⟨a,m,lt⟩:=K.it j l xs hl;rw[if_neg (oh j)]at a;refine wpAny_nextOf_list_item a m hx fun h' a' sb=>q h' #[fun k l' xs' e=>?_,sb.extBut _ _ (HX b _ _ (lE (fu.mp hl).1)) K.ti] sb;obtain⟨a2,m2,lt2⟩:=K.it k l' xs' e;show#[?_,m2.extBut sb.extBut (bR (dI lt2 (j4 _ _))),lt2];by_cases z:k=j
 ·subst z;rw[hl]at e;cases e;rwa[if_pos (xX _)]
 ·have:(if k<j+1 then i+1 else i)=if k<j then i+1 else i:=by
   by_cases y:k<j
   ·rw[if_pos y,if_pos (Nx y)]
   ·rw[if_neg y,if_neg tb_g%]
  rw[this];exact a2.extBut sb.extBut (HX b _ _ z)
def Row(ls:Ls)(i:Nat)(vs:List Value):Prop:=vs.length=ls.length/\∀(k:Nat)(l:Addr)(xs:Array Value),ls[k]? = some (l,xs)->xs[i]? = vs[k]?
theorem Row.at{vs:List Value}(r:Row ls i vs){m:Nat}(e:j+(m+1)=ls.length):∃l xs x,ls[j]? = some (l,xs)/\xs[i]? = some x/\vs[j]? = some x:=by
 have l1:j<ls.length:=by lia
 have l2:j<vs.length:=by rw[r.1];lia
 show#[ls[j].1,ls[j].2,vs[j],eU l1,(r.2 j _ _ (eU l1)).trans (eU l2),eU l2]
def ZKp(b n:Nat)(h h':Heap):Prop:=h'.objs.size=h.objs.size/\∀c o,c<b\/b+n<=c->h.get? c=some o->h'.get? c=some o
theorem aoO{n:Nat}{h h' h2:Heap}(l:j<n)(s:rA (b+j) h h')(k:ZKp b n h' h2):ZKp b n h h2:=#[k.1.trans s.1,fun c o e g=>k.2 c o e (s.extBut _ _ (zo1 e l) g)]
theorem UG{vs:List Value}{f:Value->Option Fin × Array Value->Sem (ForInStep (Option Fin × Array Value))}(r:Row ls i vs)
  (hf:∀(it:Value)(items:Array Value)(s:Shared) (Q:ForInStep (Option Fin × Array Value)->Shared->Prop),wpAny (model prog w) A (Ob it) (fun x s'=>Q (.yield (none,items.push x)) s') E s->wpAny (model prog w) A (f it (none,items)) Q E s):
  ∀(m j:Nat)(items:Array Value)(s:Shared)(Q:Option Fin × Array Value->Shared->Prop),j+m=ls.length->ZN b ls i j s.heap->(∀h',ZN b ls i ls.length h'->ZKp b ls.length s.heap h'->Q (none,(items.toList++vs.drop j).toArray) { s with heap:=h' }) ->
   wpAny (model prog w) A (forIn (its b m j) (none,items) f) Q E s
 |0,j,items,s,Q,e,K,q=>by
  have q:=q s.heap (by rw[<-e];exact K) #[rfl,fun _ _ _ g=>g];rw[List.drop_eq_nil_of_le (by rw[r.1];lia),iH,Xc]at q;exact aK q
 |m+1,j,items,s,Q,e,K,q=>by
  obtain ⟨l,xs,x,hl,hx,hv⟩:=r.at e;show wpAny _ _ (forIn (.ref (b+j)::its b m (j+1)) (none,items) f) Q E s;rw [Mw];refine aA (hf _ _ _ _ (K.next hl hx fun h' K' sb=>?_));refine UG r hf m (j+1) _ _ _ tb_g% K' fun h2 K2 k2=>?_;have:=q h2 K2 (aoO tb_g% sb k2);rw [show vs.drop j=x::vs.drop (j+1) from by
   obtain ⟨l2,e2⟩:=fu.mp hv;rw [Mp l2,e2]] at this
  rwa[Array.toList_push,dO]
theorem UJ{vs:List Value}{f:Value × Nat->Option Fin × Unit->Sem (ForInStep (Option Fin × Unit))}(r:Row ls i vs)
  (hf:∀(it:Value)(k:Nat)(s:Shared) (Q:ForInStep (Option Fin × Unit)->Shared->Prop),(∀E',wpAny (model prog w) A (Ob it) (fun x s'=>∃us,Tp s'.heap (b+ls.length+1) us/\us.length=ls.length/\∀h',Tp h' (b+ls.length+1) (us.set k x)->rA (b+ls.length+1) s'.heap h'->Q (.yield (none,())) { s' with heap:=h' }) E' s)->wpAny (model prog w) A (f (it,k) (none,())) Q E s):
  ∀(m j:Nat)(us:List Value)(s:Shared)(Q:Option Fin × Unit->Shared->Prop),j+m=ls.length->ZN b ls i j s.heap->Tp s.heap (b+ls.length+1) (vs.take j++us)->us.length=m->(∀h',ZN b ls i ls.length h'->Tp h' (b+ls.length+1) vs->h'.objs.size=s.heap.objs.size->(∀c o,c<b\/b+ls.length<=c->c≠b+ls.length+1->s.heap.get? c=some o->h'.get? c=some o)->Q (none,()) { s with heap:=h' }) ->
   wpAny (model prog w) A (forIn ((its b m j).zipIdx j) (none,()) f) Q E s
 |0,j,us,s,Q,e,K,t,lu,q=>by
  obtain rfl:=Ji.mp lu;rw[iH,Jj (by rw[r.1];lia)]at t;exact aK (q s.heap (by rw[<-e];exact K) t rfl fun _ _ _ _ g=>g)
 |m+1,j,us,s,Q,e,K,t,lu,q=>by
  k_dat (u,us,List.exists_cons_of_length_eq_add_one,lu) "G"
  obtain⟨l,xs,x,hl,hx,hv⟩:=r.at e;have lv:(vs.take j).length=j:=by rw[d8,r.1];lia
  show wpAny _ _ (forIn ((.ref (b+j),j)::(its b m (j+1)).zipIdx (j+1)) (none,()) f) Q E s;rw[Mw];refine aA (hf _ _ _ _ fun E'=>K.next hl hx fun h' K' sb=>#[_,sb.extBut _ _ (HX b (ls.length+1) j tb_g%) t,by rwa[bB,lv,lu],fun h2 t2 sb2=>?_]);rw[List.set_append_right _ _ (GF lv),lv,xY,List.set_cons_zero]at t2;refine UJ r hf m (j+1) us _ _ tb_g% (K'.but sb2.extBut (xX _)) (by rwa[mL,hv,dO]) (by simpa using lu) fun h3 K3 t3 z3 k3=>?_;exact q h3 K3 t3 (z3.trans (sb2.1.trans sb.1)) fun c o h1 h2 g=>k3 c o h1 h2 (sb2.extBut _ _ h2 (sb.extBut _ _ (zo1 h1 tb_g%) g))
structure ZS(b:Nat)(ls:Ls)(i:Nat)(h:Heap):Prop extends ZN b ls i 0 h where
 z:iD h (b+ls.length+2) (b+ls.length) (b+ls.length+1) .none false\/∃(T:Addr)(o:Obj)(f:Bool),b+ls.length+2<T/\iD h (b+ls.length+2) (b+ls.length) (b+ls.length+1) (jz T) f/\h.get? T=some o
 to:∃us,Tp h (b+ls.length+1) us/\us.length=ls.length
theorem ZN.over {h:Heap} (K:ZN b ls i ls.length h):ZN b ls (i+1) 0 h:=#[fun k l xs e=>by
 have:=K.it k l xs e;rw [if_pos (fu.mp e).1] at this;exact this,K.ti]
theorem ZS.keep{h h':Heap}(k:ZS b ls i h)(nd:∀T o,b+ls.length+2<T->h.get? T=some o->∃o,h'.get? T=some o)(q:∀c o,c<=b+ls.length+2->h.get? c=some o->h'.get? c=some o):ZS b ls i h':=by
 show#[#[fun n l xs e=>?_,q _ _ tb_g% k.ti],?_,?_]
 ·obtain⟨a,m,lt⟩:=k.it n l xs e;have lk:=(fu.mp e).1;show#[a.at fun o g=>q _ o (ac7 (iV (dI lk (j4 _ 2))) b) g,m.at fun o g=>q _ o (zo3 lt) g,lt]
 ·rcases k.z with z|⟨T,o,f,l,z,t⟩
  ·exact .inl (q _ _ (aJ _) z)
  ·obtain⟨o',t'⟩:=nd T o l t;exact .inr #[T,o',f,l,q _ _ (aJ _) z,t']
 ·obtain⟨us,t,l⟩:=k.to;show#[us,q _ _ tb_g% t,l]
theorem aa4{z TI TO T:Addr}{b:Bool}{o:Obj}{Q:Bool->Shared->Prop}(hz:iD s.heap z TI TO (jz T) b)(hT:s.heap.get? T=some o)
  (hQ:∀h',iD h' z TI TO (jz T) true->rA z s.heap h'->Q false { s with heap:=h' }):
  wpAny (model prog w) A (Xd (.ref z)) Q E s:=by
 unfold Xd;refine aA (jt hz rfl (x:=jz T) rfl ?_);show wpAny _ _ (loadIfAlive T >>= _) _ _ _;refine aA (Ea ?_);rw[hT];show wpAny _ _ (field (.ref z) 1 >>= _) _ _ _;refine aA (jt hz rfl (x:=.bool b) rfl ?_);cases b with
 |true => 
  refine aA (aK (aK ?_));exact hQ s.heap hz (.refl _ _)
 |false => 
  refine aA (Gh hz (by simp) fun h₁ hz₁ hs₁=>aK ?_);exact hQ h₁ hz₁ hs₁
theorem zipN{z TI TO:Addr}{f0:Value}{b:Bool}{Q:Option Value->Shared->Prop}(hz:iD s.heap z TI TO f0 b)
  (h:∀ E',(∀ e h',(∃ o,h'.get? e=some o/\o.cls = .type "StopIteration")->Q none { s with heap:=h' }->E' (.ref e) { s with heap:=h' }) ->
   wpAny (model prog w) A.in1 (dM.«zip.__next__» #[[.ref z],[]]) (fun fin s'=>∃ v,fin = .done (.ret v)/\Q (some v) s') E' s):wpAny (model prog w) A (nU (.ref z)) Q E s:=by
 have hT:s.TypeIs (.ref z) "zip" := #[_,hz,rfl];unfold nU;refine aA (Wg (wpAny_callSpecial?_slot (name:=aD "__next__") hT F.slot_zip_next (V7 F.slot_zip_next hT F.entry_zip_next (dH (h _ ?_) (fun fin s' q=>?_) fun _ _ q=>q) (F.args_zip_next_1 _))))
 ·intro e h' he q;obtain⟨o,ho,hc⟩:=he;exact aA (ai5 (T := "StopIteration") (b:=true) #[o,ho,hc] isSubtype_stop (aK q))
 ·obtain⟨v,rfl,q⟩:=q;show#[v,rfl,aK q]
theorem Yg{n:Nat}(h:0<n):((its b n 0).toArray.isEmpty=true)=False:=by
 cases n with
 |zero=>exact absurd h (oh 0)
 |succ n=>simp[its]
theorem updTp{T:Addr}{us:List Value}{k:Nat}{x:Value}{Q:Unit->Shared->Prop}(hT:Tp s.heap T us)(l:us.length<=sizeLine)(h:∀h',Tp h' T (us.set k x)->rA T s.heap h'->Q () { s with heap:=h' }):wpAny (model prog w) A (Gq T (·.setIfInBounds k x)) Q E s:=by
 refine uO (hz:=by simpa using l) (_hz':=by simp;lia) hT rfl (h _ ?_ (arG ..));show Heap.get? _ _=_;rw[qu _ hT rfl];simp[gq]
theorem af3{vs:List Value}{Q:Option Value->Shared->Prop}(k:ZS b ls i s.heap)(r:Row ls i vs)(n0:0<ls.length)(hsz:vs.length<=sizeLine)
  (hQ:∀h',ZS b ls (i+1) h'->Tp h' s.heap.objs.size vs->h'.objs.size=s.heap.objs.size+1->(∀c o,c<b\/b+ls.length+2<c->s.heap.get? c=some o->h'.get? c=some o)->Q (some (.ref s.heap.objs.size)) { s with heap:=h' }):
  wpAny (model prog w) A (nU (.ref (b+ls.length+2))) Q E s:=by
 obtain⟨us,t,lu⟩:=k.to;rcases k.z with z|⟨T,o,f,lT,z,kT⟩
 ·refine zipN z fun E' _=>?_
  k_dat 2 "y"
  refine aA (jt z rfl (x:=.bool false) rfl ?_)
  k_dat 3 "y"
  refine aA (jt z rfl (x:=.ref _) rfl (aA (qt k.ti rfl ?_)));dsimp only;rw[if_neg (by rw[Yg n0];exact id)];refine aA ?_;unfold Xd;refine aA (jt z rfl (x:=.none) rfl (aK ?_));simp only[if_true];refine aA (Nh (aA (jt z rfl (x:=.ref _) rfl ?_)));dsimp only;refine aA (Gh z (by simp) fun h₁ z₁ s₁=>?_);replace z₁:iD h₁ (b+ls.length+2) (b+ls.length) (b+ls.length+1) .ellipsis false:=z₁;have ne:b+ls.length+1≠b+ls.length+2:=HX _ 1 2 tb_g%;refine aA (UJ r (fun it k s Q h=>?_) ls.length 0 us _ _ (GD _) (k.toZN.but s₁.extBut (ac6 tb_g%)) (s₁.extBut _ _ ne t) lu fun h₂ K₂ t₂ e₂ k₂=>?_)
  ·refine aA (ajs ?_);show wpAny _ _ (Ob it >>= _) _ _ _;refine aA (dH (h _) (fun x s' hq=>aK ?_) fun _ _ e=>e);obtain⟨us,t,l,q⟩:=hq;refine aA (qt t rfl ?_);exact aA (updTp t (by rwa[l,<-r.1]) fun h' t' sb=>aA (Bs (aK (q h' t' sb))))
  ·refine aA (qt t₂ rfl (aA (ajf (hsz:=hsz) ?_)));have hs:h₂.objs.size=s.heap.objs.size:=e₂.trans s₁.1;have z₂:iD h₂ (b+ls.length+2) (b+ls.length) (b+ls.length+1) .ellipsis false:=k₂ _ _ (.inr (j4 _ 2)) (aL ne) z₁;have big:b+ls.length+2<h₂.objs.size:=aR z₂;show wpAny _ _ (akC (.ref (b+ls.length+2)) (.ref h₂.objs.size) >>= _) _ _ _;unfold akC;have z₃:iD (h₂.push { cls:=.type "tuple",data:=.seq vs.toArray }) (b+ls.length+2) (b+ls.length) (b+ls.length+1) .ellipsis false:=cU _ z₂;refine aA (aA (Gh z₃ (by simp) fun h₄ z₄ s₄=>?_));replace z₄:iD h₄ (b+ls.length+2) (b+ls.length) (b+ls.length+1) (jz h₂.objs.size) false:=z₄;refine Gh z₄ (by simp) fun h' z' s'=>?_;replace z':iD h' (b+ls.length+2) (b+ls.length) (b+ls.length+1) (jz h₂.objs.size) false:=z';have up:∀c o,c≠b+ls.length+2->h₂.get? c=some o->h'.get? c=some o:=fun c o c1 e=>s'.extBut _ _ c1 (s₄.extBut _ _ c1 (cU _ e));have tri:Tp h' h₂.objs.size vs:=s'.extBut _ _ (lE big) (s₄.extBut _ _ (lE big) (dN _ rfl));have sz':h'.objs.size=h₂.objs.size+1:=by rw[s'.1,s₄.1,tR]
   rw[hs]at z' tri sz' big;refine aK #[_,rfl,?_];show Q (some (.ref h₂.objs.size)) _;rw[hs];refine hQ h' #[K₂.over.but up (ac6 tb_g%),.inr #[_,_,false,big,z',tri],_,up _ _ ne t₂,r.1] tri sz' fun c o e g=>up _ _ (zo2 e _ (aJ _)) (k₂ c o (e.imp id fun e=>iV (nZ (j4 _ 2) e)) (zo2 e (ls.length+1) (rB _)) (s₁.extBut _ _ (zo2 e _ (aJ _)) g))
 ·refine zipN z fun E' _=>?_
  k_dat 2 "y"
  refine aA (jt z rfl (x:=.bool false) rfl ?_)
  k_dat 3 "y"
  refine aA (jt z rfl (x:=.ref _) rfl (aA (qt k.ti rfl ?_)));dsimp only;rw[if_neg (by rw[Yg n0];exact id)];refine aA (aa4 z kT fun h₁ z₁ s₁=>?_);simp only[Nz,if_false,aio];refine aA (UG r (fun it items s Q h=>?_) ls.length 0 #[] _ _ (GD _) (k.toZN.but s₁.extBut (ac6 tb_g%)) fun h₂ K₂ k₂=>?_)
  ·refine aA (iU ?_);show wpAny _ _ (Ob it >>= _) _ _ _;exact aA (dH h (fun x s' q=>aK (aK q)) fun _ _ e=>e)
  ·refine aA (ajf (hsz:=by simpa using hsz) (aK #[_,rfl,?_]));have hs:h₂.objs.size=s.heap.objs.size:=k₂.1.trans s₁.1;have up:ajB (b+ls.length+1) h₂ (h₂.push { cls:=.type "tuple",data:=.seq vs.toArray }):=fun c o _ e=>cU _ e;have up':∀c o,b+ls.length<=c->h₁.get? c=some o->(h₂.push { cls:=.type "tuple",data:=.seq vs.toArray }).get? c=some o:=fun c o l e=>cU _ (k₂.2 c o (.inr l) e);have t2:Tp (h₂.push { cls:=.type "tuple",data:=.seq vs.toArray }) h₂.objs.size vs:=dN _ rfl;show Q (some (.ref h₂.objs.size)) { s with heap:=h₂.push { cls:=.type "tuple",data:=.seq vs.toArray } };rw[hs]at t2 ⊢;exact hQ _ #[K₂.over.but up (xX _),.inr #[T,o,true,lT,up' _ _ (j4 _ 2) z₁,up' _ _ (bQ (j4 _ 2) (iV lT)) (s₁.extBut _ _ (lE lT) kT)],us,up' _ _ (rB _) (s₁.extBut _ _ (HX _ 1 2 tb_g%) t),lu] t2 (by rw[tR,hs])
    fun c o e g=>cU _ (k₂.2 c o (e.imp id fun e=>iV (nZ (j4 _ 2) e)) (s₁.extBut _ _ (zo2 e _ (aJ _)) g))
theorem amN{l:Addr}{xs:Array Value}{Q:Option Value->Shared->Prop}(hh:A.handled=none)(k:ZS b ls i s.heap)(e0:ls[0]? = some (l,xs))(hx:xs[i]? = none)
  (hQ:∀h',(∀c o,c<b\/b+ls.length+2<c->s.heap.get? c=some o->h'.get? c=some o)->Q none { s with heap:=h' }):wpAny (model prog w) A (nU (.ref (b+ls.length+2))) Q E s:=by
 obtain⟨a,m,lt⟩:=k.it 0 l xs e0;have n0:=(fu.mp e0).1;obtain⟨n,en⟩:∃n,ls.length=n+1:=#[ls.length-1,by lia];have ei:its b ls.length 0=.ref (b+0)::its b n 1:=by rw[en];rfl
 have lz:b+0≠b+ls.length+2:=HX b 0 (ls.length+2) tb_g%;have lz2:l≠b+ls.length+2:=bR (dI lt (bQ (j4 _ _) (j4 _ _)));rcases k.z with z|⟨T,o,f,lT,z,kT⟩
 ·refine zipN z fun E' he=>?_
  k_dat 2 "y"
  refine aA (jt z rfl (x:=.bool false) rfl ?_)
  k_dat 3 "y"
  refine aA (jt z rfl (x:=.ref _) rfl (aA (qt k.ti rfl ?_)));dsimp only;rw[if_neg (by rw[Yg n0];exact id)];refine aA ?_;unfold Xd;refine aA (jt z rfl (x:=.none) rfl (aK ?_));simp only[if_true];refine aA (Nh (aA (jt z rfl (x:=.ref _) rfl ?_)));dsimp only;refine aA (Gh z (by simp) fun h₁ z₁ s₁=>aA ?_);replace z₁:iD h₁ (b+ls.length+2) (b+ls.length) (b+ls.length+1) .ellipsis false:=z₁;rw[ei,List.zipIdx_cons,Mw];refine aA (aA (ajs ?_));show wpAny _ _ (Ob (.ref (b+0)) >>= _) _ _ _;refine aA (aiW (show A.in1.handled=none from hh) (a.extBut s₁.extBut lz) (m.extBut s₁.extBut lz2) hx fun h₂ e s₂ ee=>?_);obtain⟨oe,hoe,hce⟩:=ee;have z₂:iD h₂ (b+ls.length+2) (b+ls.length) (b+ls.length+1) .ellipsis false:=s₂ _ _ (aL lz) z₁;have hez:e≠b+ls.length+2:=fun x=>by subst x;rw[z₂]at hoe;cases hoe;simp at hce
  exact Gh z₂ (by simp) fun h₃ _ s₃=>he e h₃ #[oe,s₃.extBut _ _ hez hoe,hce] (hQ h₃ fun c o d g=>s₃.extBut _ _ (zo2 d _ (aJ _)) (s₂ _ _ (zo2 d 0 (cJ _)) (s₁.extBut _ _ (zo2 d _ (aJ _)) g)))
 ·refine zipN z fun E' he=>?_
  k_dat 2 "y"
  refine aA (jt z rfl (x:=.bool false) rfl ?_)
  k_dat 3 "y"
  refine aA (jt z rfl (x:=.ref _) rfl (aA (qt k.ti rfl ?_)));dsimp only;rw[if_neg (by rw[Yg n0];exact id)];refine aA (aa4 z kT fun h₁ z₁ s₁=>?_);simp only[Nz,if_false,aio];rw[ei,Mw];refine aA (aA (aA (iU ?_)));show wpAny _ _ (Ob (.ref (b+0)) >>= _) _ _ _;refine aA (aiW (show A.in1.handled=none from hh) (a.extBut s₁.extBut lz) (m.extBut s₁.extBut lz2) hx fun h₂ e s₂ ee=>?_);exact he e h₂ ee (hQ h₂ fun c o d g=>s₂ _ _ (zo2 d 0 (cJ _)) (s₁.extBut _ _ (zo2 d _ (aJ _)) g))
end
end PySem
namespace PySem
open Sem (wp)
open L2 (bL)
namespace F
theorem aa5:xQ (.type "zip") "keys" = pure none:=ai7 tb_g%
theorem Pz:xQ (.type "zip") "__getattr__" = pure none:=ai7 tb_g%
theorem uo:Gs table "zip.__getattribute__" = some dM.«object.__getattribute__» :=
 ajb (id' := "object.__getattribute__") (by kernel_rfl) tb_g% tb_g% (by kernel_rfl)
theorem eO:Wx "dict.update.loop" = true:=by decide +kernel
theorem jh:Gs table "dict.update.loop" = some dM.«dict.update.loop» := entryFor_of_tree (by kernel_rfl)
end F
theorem PB(a:Addr)(fs:Array Value)(u:Tok):
  Meets (dM.«object.__getattribute__» #[[.ref a,.str "keys" u],[]]) (fun A R s=>s.heap.get? a=some { cls:=.type "zip",dict:=none,data:=.fields fs,slots:=#[] }/\raisesAttr (.ref a) "keys" A R s):=
 Meets.of_wp fun prog w A R s hs=>by
  obtain⟨hp,g,d,tk,os⟩:=s;obtain⟨hx,hs⟩:=hs;have hT:(#[hp,g,d,tk,os]:Shared).TypeIs (.ref a) "zip" := #[_,hx,rfl];have hmiss:=F.aa5;have hname:(["__module__","__name__","__qualname__","__doc__","__annotations__"]:List Str).contains "keys" = false:=by decide +kernel
  unfold dM.«object.__getattribute__»
  repeat (any_goals (first|assumption|wp_step))
  exact wpAny_raiseAttrError hs.1 hs.2 tb_g%
theorem amO{prog:aH}{w:World}{A:aP}{E:Value->Shared->Prop}{s:Shared}{a:Addr}{fs:Array Value}{Q:Option Value->Shared->Prop}(hx:s.heap.get? a=some { cls:=.type "zip",dict:=none,data:=.fields fs,slots:=#[] })(hA:A.handled=none)
  (h:∀h' tk,(∀b o,s.heap.get? b=some o->h'.get? b=some o)->Q none { s with heap:=h',toks:=tk }):wpAny (model prog w) A (getAttr? (.ref a) "keys") Q E s:=by
 obtain⟨hp,g,d,tk,os⟩:=s;have hT:∀tk',(#[hp,g,d,tk',os]:Shared).TypeIs (.ref a) "zip" := fun _=>#[_,hx,rfl];have f1:=sub_AttributeError;have f3:=F.slot_zip_getattribute.lookup;have f4:=F.slot_zip_getattribute.bind (.ref a);have f5:=F.Pz;unfold getAttr? getAttrBy? Wr
 repeat (any_goals (first|assumption|exact hT _|((with_reducible show wpAny _ _ (call (Value.builtin "zip.__getattribute__") _ _) _ _ _);refine Gn F.slot_zip_getattribute (hT _) F.uo (F.args_zip_getattribute_2 _ _) (PB a fs _) #[hx,hA,fun h' tk' e hx'=>?_])|wp_step))
 obtain⟨t',u',he⟩:=hx'.there;show wpAny _ _ (ai0 _ _ _ _ _ _ _) _ _ _;unfold ai0
 repeat (any_goals (first|assumption|wp_step))
 exact h _ _ hx'.keeps
section
variable{prog:aH}{w:World}{A:aP}
def yQ(ps:List (L2.Key × Value)):List (L2.Key × Value):=ps.foldl (fun d p=>nY d p.1 p.2) []
theorem UL(ps:List (L2.Key × Value)):(yQ ps).length<=ps.length:=by
 unfold yQ
 suffices h:∀d:List (L2.Key × Value),(ps.foldl (fun d p=>nY d p.1 p.2) d).length<=d.length+ps.length by simpa using h []
 induction ps with
 |nil=>intro d;simp
 |cons p ps ih =>
  intro d;have:=ih (nY d p.1 p.2);have e:(nY d p.1 p.2).length<=d.length+1:=by unfold nY;split <;> simp
  simp only[Mx,bh];lia
theorem row2 {l1 l2:Addr} {xs ys:Array Value} {i:Nat} {x y:Value} (hx:xs[i]? = some x) (hy:ys[i]? = some y):Row [(l1,xs),(l2,ys)] i [x,y]:=#[rfl,fun k l vs e=>by
 rcases k with _|_|k <;> cases e
 ·exact hx
 ·exact hy]
theorem JN{b l1 l2 D:Addr}{R:lC->Shared->Prop}(hh:A.handled=none){ps:List (L2.Key × Value)}{xs ys:Array Value}(hk:∀(i:Nat)(p:L2.Key × Value),ps[i]? = some p->∃x,xs[i]? = some x/\(bL prog w).is p.1 x=true/\ys[i]? = some p.2)
  (hn:xs.size=ps.length) (hsz:ps.length<=sizeLine) (hD:b+4<D):
  ∀(k i:Nat)(n:Int)(tk:Tok)(s:Shared),ps.length-i=k->i<=ps.length->ZS b [(l1,xs),(l2,ys)] i s.heap->s.heap.DictOf (bL prog w) D (yQ (ps.take i)) ->
   (∀h' t,h'.DictOf (bL prog w) D (yQ ps)->(∀c o,c<b->s.heap.get? c=some o->h'.get? c=some o)->R (.ok (.ret .none)) { s with heap:=h',toks:=t }) ->
   fY (model prog w) A (.builtin "dict.update.loop" #[[.ref D,.ref (b+4),.int n tk,.none],[]]) R s:=by
 have nD:∀c:Nat,c<=b+4->c≠D:=fun c l=>bR (nZ l hD);intro k
 induction k with
 |zero =>
  intro i n tk s e hi st hd hR;have e:i=ps.length:=by lia
  subst e;rw[nJ]at hd;refine qY F.jh ?_;rw[Dk F.eO _];show wpAny _ A.in1 (nU (.ref (b+4)) >>= _) _ _ s;refine aA (amN (show A.in1.handled=none from hh) st (l:=l1) (xs:=xs) rfl (by rw[<-hn];simp) fun h' q=>?_);show wpAny _ _ (aqC D [] >>= _) _ _ _;refine aA (aK (aK (hR h' s.toks ?_ fun c o l g=>q c o (.inl l) g)));obtain⟨o,es,ep,ho,r⟩:=hd;show#[o,es,ep,q _ _ (.inr hD) ho,r]
 |succ k ih =>
  intro i n tk s e hi st hd hR;have lt:i<ps.length:=by lia
  obtain⟨x,hx,kx,hy⟩:=hk i ps[i] (eU lt);refine qY F.jh ?_;rw[Dk F.eO _];show wpAny _ A.in1 (nU (.ref (b+4)) >>= _) _ _ s;refine aA (af3 st (row2 hx hy) (ac9 _) (show 2<=sizeLine by decide) fun h' st' hp _ q=>?_);refine aA (iU (aA (Bq ?_)));unfold aqE;refine aA (Br (T := "tuple") #[_,hp,rfl] ?_);rw[if_pos tb_g%];refine aA (qt hp rfl (aK ?_));have hd':h'.DictOf (bL prog w) D (yQ (ps.take i)):=by
   obtain⟨o,es,ep,ho,r⟩:=hd;show#[o,es,ep,q _ _ (.inr hD) ho,r]
  refine iU (wpAny_dictSet_pairs (hsz:=bQ (UL _) (bQ (List.length_take_le _ _) tb_g%)) kx hd' fun h2 hd2 sb=>?_);refine aK #[qZ F.eO _,ih (i+1) _ _ _ tb_g% lt ?_ ?_ fun h3 t3 hd3 q3=>?_]
  ·refine st'.keep (fun T o _ g=>?_) fun c o l g=>sb.extBut _ _ (nD c l) g;by_cases z:T=D
   ·obtain⟨o2,_,_,ho2,_⟩:=hd2;show#[o2,z ▸ ho2]
   ·show#[o,sb.extBut _ _ z g]
  ·have e2:yQ (ps.take (i+1))=nY (yQ (ps.take i)) ps[i].1 ps[i].2:=by
    unfold yQ;rw[List.take_succ_eq_append_getElem lt,List.foldl_append];rfl
   rwa[e2]
  ·exact hR h3 t3 hd3 fun c o l g=>q3 c o l (sb.extBut _ _ (nD c (iV (dI l (j4 _ _)))) (q c o (.inl l) g))
theorem Yh{b l1 l2:Addr}{E:Value->Shared->Prop}{s:Shared}{Q:Value->Shared->Prop}(hh:A.handled=none){ps:List (L2.Key × Value)}{xs ys:Array Value}(hk:∀(i:Nat)(p:L2.Key × Value),ps[i]? = some p->∃x,xs[i]? = some x/\(bL prog w).is p.1 x=true/\ys[i]? = some p.2)
  (hn:xs.size=ps.length) (hsz:ps.length<=sizeLine) (st:ZS b [(l1,xs),(l2,ys)] 0 s.heap) (hz:iD s.heap (b+4) (b+2) (b+3) .none false)
  (h:∀h' t,h'.DictOf (bL prog w) s.heap.objs.size (yQ ps)->(∀c o,c<b->s.heap.get? c=some o->h'.get? c=some o)->Q (.ref s.heap.objs.size) { s with heap:=h',toks:=t }):
  wpAny (model prog w) A (call (.type "dict") [.ref (b+4)]) Q E s:=by
 refine acO (Q₁:=fun obj s₁=>obj=.ref s.heap.objs.size/\s₁={ s with heap:=s.heap.push { cls:=.type "dict",data:=.dict #[] } }) F.kt_called_dict (F.kt_typeCall_dict_1 _) F.entry_dict_init (kt_code_dict_new _ #[rfl,rfl]) ?_;rintro obj s₁ ⟨rfl,rfl⟩;have hnew:(s.heap.push { cls:=.type "dict",data:=.dict #[] }).DictOf (bL prog w) s.heap.objs.size []:=ak0 s.heap;have up:∀c o,s.heap.get? c=some o->(s.heap.push { cls:=.type "dict",data:=.dict #[] }).get? c=some o:=fun c o e=>cU _ e;show#[hnew.typeIs,F.args_dict_init_2 _ _,?_];unfold dM.«dict.__init__»;refine aA ?_;unfold aqD;refine aA (wpAny_notOrdered_dict hnew.typeIs ?_);show wpAny _ _ (pure (s.heap.objs.size,[Value.ref (b+4)])) _ _ _;refine aK ?_;show wpAny _ _ (akK "dict.__init__" s.heap.objs.size (.ref (b+4)) [] .none) _ _ _;unfold akK;refine aA (Br (T := "zip") #[_,up _ _ hz,rfl] ?_);rw[if_pos tb_g%];refine aA (amO (up _ _ hz) (show A.in1.in1.handled=none from hh) fun h1 t1 q1=>?_);refine aA (Nh ?_);refine aA (V9 (q1 _ _ (up _ _ hz)) ?_);have u:∀c o,s.heap.get? c=some o->h1.get? c=some o:=fun c o e=>q1 _ _ (up c o e);refine aK #[qZ F.eO _,JN (show A.in1.handled=none from hh) hk hn hsz (aR hz) ps.length 0 _ _ _ rfl (cJ _) (st.keep (fun T o _ e=>#[o,u T o e]) fun c o _ e=>u c o e) ?_ fun h' t' hd q=>#[rfl,h h' t' hd fun c o l e=>q c o l (u c o e)]];obtain⟨o,es,ep,ho,r⟩:=hnew;show#[o,es,ep,q1 _ _ ho,r]
end
end PySem
namespace L2
open PySem PySem.Spec PyProof.Rows
def zPut(ns:List Int)(vs:List V):List (Key × V):=(ns.zip vs).foldl (fun d p=>putK d (.inl p.1) p.2) []
def amP(ta:TA):TE:=fun σ H Q=>ta σ H fun vs H1=>∃(a b:Addr)(ns:List Int)(ys:List V),vs=[.ref a,.ref b]/\H1 a=some (.lst (ns.map V.int))/\H1 b=some (.lst ys)/\ns.length=ys.length/\∀p,H1 p=none->Q (.ref p) (upd H1 p (.dK (zPut ns ys)))
theorem aa6:∀{ns:List Int}{vs:List V}{us ws:List Value} {d:List (Key × V)} {e:List (Key × Value)},Vals (ns.map V.int) us->Vals vs ws->KV d e ->
  KV ((ns.zip vs).foldl (fun d p=>putK d (.inl p.1) p.2) d) ((ns.zip ws).foldl (fun d p=>nY d (.inl p.1) p.2) e)
 |[],_,_,_,_,_,_,_,r=>by simpa using r
 |_::_,[],_,_,_,_,_,.nil,r=>by simpa using r
 |n::ns,v::vs,_,_,_,_,.cons _ r1,.cons r2 r3,r=>by
  simp only[List.zip_cons_cons,Mx];exact aa6 r1 r3 (r.put _ r2)
theorem aeQ{X:Cx}{a b:Expr}{ta:TA}{p p2 pos pos2:Pos}(hc:X.calm=true)(hg:Gl X "dict")(hm:X.mg "dict" = none)(hg2:Gl X "zip")(hm2:X.mg "zip" = none)(ha:PA X [a,b] ta)(hs:aZ [a,b] X.env=[(false,eval a X.env),(false,eval b X.env)]:=by rfl)
  (hs2:aZ [b] X.env=[(false,eval b X.env)]:=by rfl) (he:aZ [.Call (.Name "zip" p2) [a,b] [] pos2] X.env=[(false,eval (.Call (.Name "zip" p2) [a,b] [] pos2) X.env)]:=by rfl):PE X (.Call (.Name "dict" p) [.Call (.Name "zip" p2) [a,b] [] pos2] [] pos) (amP ta):=by
 walk_at "l"
 refine Aa (iB I hg hm (show uP "dict" = some (.type "dict") by decide +kernel) ?_ tb_g% tb_g%);refine yg ?_ he rfl;rw[he];refine uV (x:=eval (.Call (.Name "zip" p2) [a,b] [] pos2) X.env) (rest:=[]) (Call_ (iB I hg2 hm2 adA (yg (thn (ha pos2 pins s σ H _ I h) fun us s1 zq=>?_) (by rw[hs,hs2]) (by rw[hs2];rfl))));obtain⟨vs,H1,I1,r1,q1⟩:=zq;obtain⟨l1,l2,ns,ys,e,e1,e2,len,q⟩:=q1;subst e;cases r1 with
 |cons r rr =>
  cases rr with
  |cons r' rr =>
   cases rr;cases r;cases r';obtain⟨z1,us,n,rv,_,gl⟩:=I1.yF e1;obtain⟨_,vs,m,rw',_,gr⟩:=I1.yF e2;have lu:us.length=ns.length:=by rw[<-rv.length,aC]
   have lv:vs.length=ys.length:=rw'.length.symm;refine call_zip_2 (xs:=us.toArray) (ys:=vs.toArray) #[_,gl,rfl,n,rfl] #[_,gr,rfl,m,rfl] fun h1 z1' z2 z3 z4 z5 z6 hk=>yh ?_;have lt:∀ {c:Addr} {o:Obj},s1.heap.get? c=some o->c<s1.heap.objs.size:=fun g=>aR g;have st:ZS s1.heap.objs.size [(l1,us.toArray),(l2,vs.toArray)] 0 h1:=#[#[fun k l xs e=>by
    rcases k with _|_|k <;> cases e
    ·show#[z4,#[_,hk _ _ gl,rfl,n,rfl],lt gl]
    ·show#[z5,#[_,hk _ _ gr,rfl,m,rfl],lt gr],z2],.inl z1',_,z3,rfl]
   refine Yh (b:=s1.heap.objs.size) (ps:=(ns.zip vs).map fun p=>(Sum.inl p.1,p.2)) (I1.ok.hd hc) (fun i p hp=>?_) (by rw[bH,aC,acr];lia) (by rw[aC,acr];rw[aC]at z1;lia) st z1' fun h' t' hd keep=>?_
   ·rw[dF,j6]at hp;obtain⟨pr,hp,rfl⟩:=hp;obtain⟨w1,w2⟩:=Vo.mp hp;obtain⟨u,hu,ru⟩:=rv.get (x:=.int pr.1) (i:=i) (by rw[dF,w1];rfl);obtain⟨t,rfl⟩:=(show ∃t,u=Value.int pr.1 t from ru);show#[.int pr.1 t,by simpa using hu,Ub pr.1 t,by simpa using w2]
   ·have e:yQ ((ns.zip vs).map fun p=>(Sum.inl p.1,p.2))=(ns.zip vs).foldl (fun d p=>nY d (.inl p.1) p.2) []:=by unfold yQ;rw[List.foldl_map]
    rw[e]at hd;have rel:KV (zPut ns ys) ((ns.zip vs).foldl (fun d p=>nY d (.inl p.1) p.2) []):=aa6 rv rw' .nil;show#[.ref h1.objs.size,_,I1.laid (t':=t') (fun b u g=>keep b u (lt g) (hk b u g)) (by rw[z6];lia) (aeh ?_ ?_ rel hd),rfl,q _ (I1.hok.fresh (by rw[z6];lia))]
    ·rw[rel.length,<-e];refine bQ (UL _) ?_;rw[aC,acr];rw[aC]at z1;lia
    ·exact beq_eq_false_iff_ne.mpr (aL (bR (by rw[z6];exact dI I1.big (j4 _ _))))
end L2
namespace PySem
open Sem (wp)
abbrev IsTri(h:Heap)(T:Addr)(a b c:Value):Prop:=Tp h T [a,b,c]
abbrev Z3(n l1 l2 l3:Addr)(xs ys zs:Array Value)(i:Nat)(h:Heap):Prop:=ZS n [(l1,xs),(l2,ys),(l3,zs)] i h
theorem ad1(n p q:Nat)(e:p≠q):n+p≠n+q:=by lia
namespace F
theorem PJ(a b c:Value):checkTypeCall "zip" #[[a,b,c],[]]=pure ():=by kernel_rfl
theorem R5(a b c:Value):V8 "zip.__new__" #[[.type "zip",a,b,c],[]]=pure ():=by kernel_rfl
theorem Cy(a b c d:Value):GC "object.__init__" #[[a,b,c,d],[]]:=by
 unfold GC;rw[signature?_of (id := "object.__init__") (n:=['_','_','t','i','n','i','_','_']) (o:=['t','c','e','j','b','o']) (by kernel_rfl) owner_object];kernel_rfl
end F
abbrev JQ(h:Heap)(l1:Addr):Heap:=h.push { cls:=.type "list_iterator",data:=.fields [.ref l1,.int 0 0].toArray }
abbrev z3H3(h:Heap)(l1 l2 l3:Addr):Heap:=JQ (JQ (JQ h l1) l2) l3
abbrev z3H4(h:Heap)(l1 l2 l3:Addr):Heap:=(z3H3 h l1 l2 l3).push { cls:=.type "tuple",data:=.seq [.ref h.objs.size,.ref (JQ h l1).objs.size,.ref (JQ (JQ h l1) l2).objs.size].toArray }
abbrev z3H5(h:Heap)(l1 l2 l3:Addr):Heap:=(z3H4 h l1 l2 l3).push { cls:=.type "tuple",data:=.seq [.none,.none,.none].toArray }
abbrev Yi(h:Heap)(l1 l2 l3:Addr):Heap:=(z3H5 h l1 l2 l3).push { cls:=.type "zip",data:=.fields [.none,.bool false,.bool false,.ref (z3H3 h l1 l2 l3).objs.size,.ref (z3H4 h l1 l2 l3).objs.size].toArray }
theorem PK(l1 l2 l3:Addr)(xs ys zs:Array Value):
  Meets (dM.«zip.__new__» #[[.type "zip",.ref l1,.ref l2,.ref l3],[]]) (fun _ R s=>s.heap.IsList l1 xs/\s.heap.IsList l2 ys/\s.heap.IsList l3 zs /\
   R (.ok (.ret (.ref (z3H5 s.heap l1 l2 l3).objs.size))) { s with heap:=Yi s.heap l1 l2 l3 }) :=
 .of_wp fun prog w A R s h=>by
  obtain⟨hp,g,d,tk,os⟩:=s;obtain⟨hl1,hl2,hl3,h⟩:=h;have hsub:=sub_zip;have hL1:ac5 (adS #[hp,g,d,tk,os]) l1 xs:=hl1;have hL2:ac5 (adS #[hp.push { cls:=.type "list_iterator",data:=.fields [.ref l1,.int 0 0].toArray },g,d,tk,os]) l2 ys:=adO hl2 _;have hL3:ac5 (adS #[(hp.push { cls:=.type "list_iterator",data:=.fields [.ref l1,.int 0 0].toArray }).push { cls:=.type "list_iterator",data:=.fields [.ref l2,.int 0 0].toArray },g,d,tk,os]) l3 zs:=adO (adO hl3 _) _
  wp_walk using M5 hL1,M5 hL2,M5 hL3
  show#[_,rfl,h]
section
variable{prog:aH}{w:World}{A:aP}{E:Value->Shared->Prop}{s:Shared}
theorem aeR{l1 l2 l3:Addr}{xs ys zs:Array Value}{Q:Value->Shared->Prop}(hl1:s.heap.IsList l1 xs)(hl2:s.heap.IsList l2 ys)(hl3:s.heap.IsList l3 zs)
  (h:∀h',Z3 s.heap.objs.size l1 l2 l3 xs ys zs 0 h'->iD h' (s.heap.objs.size+5) (s.heap.objs.size+3) (s.heap.objs.size+4) .none false->h'.objs.size=s.heap.objs.size+6->(∀c o,s.heap.get? c=some o->h'.get? c=some o)->Q (.ref (s.heap.objs.size+5)) { s with heap:=h' }):
  wpAny (model prog w) A (call (.type "zip") [.ref l1,.ref l2,.ref l3]) Q E s:=by
 refine callType_new F.called_zip tb_g% (F.PJ _ _ _) (F.R5 _ _ _) (fun obj=>F.Cy obj _ _ _) F.entry_zip_new
  (PK l1 l2 l3 xs ys zs) #[hl1,hl2,hl3,?_]
 have z1:(JQ s.heap l1).objs.size=s.heap.objs.size+1:=tR ..;have z2:(JQ (JQ s.heap l1) l2).objs.size=s.heap.objs.size+2:=by rw[tR,z1]
 have z3:(z3H3 s.heap l1 l2 l3).objs.size=s.heap.objs.size+3:=by rw[tR,z2]
 have z4:(z3H4 s.heap l1 l2 l3).objs.size=s.heap.objs.size+4:=by rw[tR,z3]
 have z5:(z3H5 s.heap l1 l2 l3).objs.size=s.heap.objs.size+5:=by rw[tR,z4]
 have z6:(Yi s.heap l1 l2 l3).objs.size=s.heap.objs.size+6:=by rw[tR,z5]
 have up:∀{h:Heap}{c:Addr}{o p:Obj},h.get? c=some o->(h.push p).get? c=some o:=fun e=>cU _ e;have g6:(Yi s.heap l1 l2 l3).get? (z3H5 s.heap l1 l2 l3).objs.size=some _:=dN _ rfl;have g5:(Yi s.heap l1 l2 l3).get? (z3H4 s.heap l1 l2 l3).objs.size=some _:=up (dN _ rfl);have g4:(Yi s.heap l1 l2 l3).get? (z3H3 s.heap l1 l2 l3).objs.size=some _:=up (up (dN _ rfl));have g3:(Yi s.heap l1 l2 l3).get? (JQ (JQ s.heap l1) l2).objs.size=some _:=up (up (up (dN _ rfl)));have g2:(Yi s.heap l1 l2 l3).get? (JQ s.heap l1).objs.size=some _:=up (up (up (up (dN _ rfl))));have g1:(Yi s.heap l1 l2 l3).get? s.heap.objs.size=some _:=up (up (up (up (up (dN _ rfl)))));have old:∀c o,s.heap.get? c=some o->(Yi s.heap l1 l2 l3).get? c=some o:=fun c o e=>up (up (up (up (up (up e)))));show _/\_;rw[z3,z4,z5]at g6;rw[z1,z2,z3]at g4;rw[z4]at g5;rw[z2]at g3;rw[z1]at g2;rw[z5];have lt:∀{l:Addr}{vs:Array Value},s.heap.IsList l vs->l<s.heap.objs.size:=fun⟨_,e,_⟩=>aR e;show#[#[_,g6,rfl],h _ #[#[fun k l vs e=>?_,g4],.inl g6,_,g5,rfl] g6 z6 old];rcases k with _|_|_|k
 ·cases e;show#[#[_,g1,rfl,rfl],hl1.at fun o e=>old _ o e,lt hl1]
 ·cases e;show#[#[_,g2,rfl,rfl],hl2.at fun o e=>old _ o e,lt hl2]
 ·cases e;show#[#[_,g3,rfl,rfl],hl3.at fun o e=>old _ o e,lt hl3]
 ·cases e
theorem row3 {l1 l2 l3:Addr} {xs ys zs:Array Value} {i:Nat} {x y v:Value} (hx:xs[i]? = some x) (hy:ys[i]? = some y) (hv:zs[i]? = some v):Row [(l1,xs),(l2,ys),(l3,zs)] i [x,y,v]:=#[rfl,fun k l vs e=>by
 rcases k with _|_|_|k <;> cases e
 ·exact hx
 ·exact hy
 ·exact hv]
def Tris(n S:Addr)(xs ys zs:Array Value)(i:Nat)(h:Heap)(ts:List Addr):Prop:=
 ts.length=i/\ts.Nodup/\∀(j:Nat)(t:Addr),ts[j]? = some t->n+5<t/\t≠S/\∃x y v,xs[j]? = some x/\ys[j]? = some y/\zs[j]? = some v/\IsTri h t x y v
theorem JR{n l1 l2 l3 S:Addr}{xs ys zs:Array Value}{R:lC->Shared->Prop}(hh:A.handled=none)(hS:n+5<S)(e2:ys.size=xs.size)(e3:zs.size=xs.size)(hsz:xs.size<=sizeLine):
  ∀(k i:Nat)(s:Shared)(ts:List Addr)(c:Nat),xs.size-i=k->i<=xs.size->Z3 n l1 l2 l3 xs ys zs i s.heap->s.heap.get? S=some { cls:=.type "list",dict:=none,data:=.seq (ts.map Value.ref).toArray c,slots:=#[] }->Tris n S xs ys zs i s.heap ts ->
   (∀h' ts' c',h'.get? S=some { cls:=.type "list",dict:=none,data:=.seq (ts'.map Value.ref).toArray c',slots:=#[] }->Tris n S xs ys zs xs.size h' ts'->(∀c o,c<n->s.heap.get? c=some o->h'.get? c=some o)->R (.ok (.ret .none)) { s with heap:=h' }) ->
   fY (model prog w) A (.builtin "list.extend.loop" #[[.ref S,.ref (n+5),.none],[]]) R s:=by
 intro k
 induction k with
 |zero =>
  intro i s ts c hk hi st hs ht hR;have e:i=xs.size:=by lia
  subst e;refine qY F.entry_extend_loop ?_;rw[Dk F.plain_extend_loop _];show wpAny _ A.in1 (nU (.ref (n+5)) >>= _) _ _ s;refine aA (amN (show A.in1.handled=none from hh) st (l:=l1) (xs:=xs) rfl (by simp) fun h' q=>aK (hR h' ts c (q _ _ (.inr hS) hs) #[ht.1,ht.2.1,fun j t e=>?_] fun c o l g=>q _ _ (.inl l) g));obtain⟨a1,a2,x,y,v,a3,a4,a5,a6⟩:=ht.2.2 j t e;show#[a1,a2,x,y,v,a3,a4,a5,q _ _ (.inr a1) a6]
 |succ k ih =>
  intro i s ts c hk hi st hs ht hR;have lt:i<xs.size:=by lia
  have hx:xs[i]? = some xs[i]:=adH lt;have hy:ys[i]? = some (ys[i]'tb_g%):=adH _;have hv:zs[i]? = some (zs[i]'tb_g%):=adH _;refine qY F.entry_extend_loop ?_;rw[Dk F.plain_extend_loop _];show wpAny _ A.in1 (nU (.ref (n+5)) >>= _) _ _ s;refine aA (af3 st (row3 hx hy hv) (ac9 _) (show 3<=sizeLine by decide) fun h' st' tri sz q=>?_);have hs':=q _ _ (.inr hS) hs;have nS:S≠s.heap.objs.size:=bR (aR hs);have big:n+5<s.heap.objs.size:=oA hS (aR hs);have len:(ts.map Value.ref).toArray.size=i:=by rw[bH,aC,ht.1]
  have g2:∃c2,(h'.update S (gq (·.push (.ref s.heap.objs.size)))).get? S=some { cls:=.type "list",dict:=none,data:=.seq ((ts++[s.heap.objs.size]).map Value.ref).toArray c2,slots:=#[] }:=by
   obtain⟨c2,e⟩:∃c2,gq (·.push (.ref s.heap.objs.size)) { cls:=.type "list",data:=.seq (ts.map Value.ref).toArray c }={ cls:=.type "list",data:=.seq ((ts.map Value.ref).toArray.push (.ref s.heap.objs.size)) c2 }:=#[_,rfl];show#[c2,by rw[qu _ hs' rfl,e,List.push_toArray,bG];rfl]
  obtain⟨c2,g2⟩:=g2;show wpAny _ A.in1 (Gq S (·.push (.ref s.heap.objs.size)) >>= _) _ _ _;refine aA (uO hs' rfl (aK #[qZ F.plain_extend_loop _,ih (i+1) _ (ts++[s.heap.objs.size]) c2 tb_g% lt ?_ g2 ?_ fun h3 ts3 c3 g3 t3 q3=>?_]) (by rw[len];lia) (by show((ts.map Value.ref).toArray.push _).size<=sizeLine+1;rw[Array.size_push,len];lia))
  ·refine st'.keep (fun T o l g=>?_) fun c o l g=>(mO _ _ (aL (bR (nZ l hS)))).trans g;by_cases z:T=S
   ·subst z;show#[_,qu _ hs' rfl]
   ·show#[o,(mO _ _ (aL z)).trans g]
  ·show#[by rw[bB,ht.1];rfl,?_,fun j t e=>?_]
   ·refine FW.mpr #[ht.2.1,by simp,fun a ha b hb=>?_];obtain⟨j,hj⟩:=Vu ha;obtain⟨_,_,_,_,_,_,_,_,g⟩:=ht.2.2 j a hj;rw[cI.mp hb];exact bR (aR g)
   ·have oth:∀c o,c≠S->h'.get? c=some o->(h'.update S (gq (·.push (.ref s.heap.objs.size)))).get? c=some o:=fun c o e g=>(mO _ _ (aL e)).trans g;rw[List.getElem?_append]at e;by_cases z:j<ts.length
    ·rw[if_pos z]at e;obtain⟨a1,a2,x,y,v,a3,a4,a5,a6⟩:=ht.2.2 j t e;show#[a1,a2,x,y,v,a3,a4,a5,oth _ _ a2 (q _ _ (.inr a1) a6)]
    ·rw[if_neg z,List.getElem?_singleton]at e;by_cases z2:j-ts.length=0
     ·rw[if_pos z2]at e;cases e;have ej:j=i:=by have:=ht.1;lia
      subst ej;show#[big,nS.symm,_,_,_,hx,hy,hv,oth _ _ nS.symm tri]
     ·rw[if_neg z2]at e;cases e
  ·exact hR h3 ts3 c3 g3 t3 fun c o l g=>q3 c o l ((mO _ _ (aL (bR (oA l (nZ (j4 n 5) hS))))).trans (q _ _ (.inl l) g))
theorem aeS:xQ (.type "zip") "__len__" = pure none:=by rw[Wc,V4];kernel_rfl
theorem aa7:xQ (.type "zip") "__length_hint__" = pure none:=by rw[Wc,V4];kernel_rfl
theorem R6{n l1 l2 l3:Addr}{xs ys zs:Array Value}{Q:Value->Shared->Prop}(hh:A.handled=none)(hs:s.heap.objs.size=n+6)(e2:ys.size=xs.size)(e3:zs.size=xs.size)(hsz:xs.size<=sizeLine)(st:Z3 n l1 l2 l3 xs ys zs 0 s.heap)(hz:iD s.heap (n+5) (n+3) (n+4) .none false)
  (h:∀h' ts c,h'.get? (n+6)=some { cls:=.type "list",dict:=none,data:=.seq (ts.map Value.ref).toArray c,slots:=#[] }->Tris n (n+6) xs ys zs xs.size h' ts->(∀c o,c<n->s.heap.get? c=some o->h'.get? c=some o)->Q (.ref (n+6)) { s with heap:=h' }):
  wpAny (model prog w) A (call (.type "list") [.ref (n+5)]) Q E s:=by
 refine acO (Q₁:=fun obj s₁=>obj=.ref s.heap.objs.size/\s₁={ s with heap:=s.heap.push { cls:=.type "list",data:=.seq #[] } }) F.called_list (F.typeCall_list_1 _) F.entry_list_init (ajr _ #[rfl,rfl]) fun obj s₁ h₁=>?_;obtain⟨rfl,rfl⟩:=h₁;rw[hs];have hS:(s.heap.push { cls:=.type "list",data:=.seq #[] }).get? (n+6)=some { cls:=.type "list",data:=.seq #[] }:=by rw[<-hs];exact dN _ rfl
 have z0:(s.heap.push { cls:=.type "list",data:=.seq #[] }).get? (n+5)=some _:=cU _ hz;show#[#[_,hS,rfl],F.args_list_init_2 _ _,?_];show wpAny _ A.in1.in1 (do let old <-N7 (.ref (n+6));ako (.ref (n+6)) (fun _=>#[]);letGo old.toList.reverse;Ab (.ref (n+6)) (.ref (n+5)) .none) _ _ _;refine aA ?_;unfold N7;refine aA (qt hS rfl (aK ?_));show wpAny _ A.in1.in1 (Gq (n+6) (fun _=>#[]) >>= fun _=>letGo (#[]:Array Value).toList.reverse >>= fun _=>Ab (.ref (n+6)) (.ref (n+5)) .none) _ _ _;refine aA (uO hS rfl ?_);have hS₂:=qu (gq (fun _=>(#[]:Array Value))) hS rfl;have oth:∀(h:Heap)(f:Obj->Obj) b o,b≠n+6->h.get? b=some o->(h.update (n+6) f).get? b=some o:=fun h f b o hb e=>(mO _ _ (aL hb)).trans e;have z1:=oth _ (gq (fun _=>(#[]:Array Value))) _ _ (ad1 n 5 6 tb_g%) z0;refine aA (Bs ?_);unfold Ab;refine aA (Br (T := "zip") #[_,z1,rfl] ?_);have h1:W9 (.ref (n+6)) (.ref (n+5))=false:=by simp[W9]
 have h2:(Value.type "zip" == Value.type "list")=false:=by decide
 have h3:(Value.type "zip" == Value.type "tuple")=false:=by decide
 simp only [h1,h2,h3,adf,Nz,if_false];refine aA (V9 (f0:=.none) z1 ?_);refine aA (iU ?_);unfold adB;refine aA (M8 (T := "zip") #[_,z1,rfl] aeS ?_);show wpAny _ _ (specialOf (Value.ref (n+5)) (aD "__length_hint__") >>= _) _ _ _;refine aA (M8 (T := "zip") #[_,z1,rfl] aa7 ?_);refine aK ?_;show wpAny _ _ (rule "list.extend.makes-room" >>= fun _=>aqv (.ref (n+6)) >>= fun _ =>
  again (.builtin "list.extend.loop" #[[.ref (n+6),.ref (n+5),.none],[]])) _ _ _
 refine aA (Nh ?_);refine aA ?_;show wpAny _ _ (Gq (n+6) (·.push .none) >>= fun _=>Gq (n+6) (·.pop)) _ _ _;refine aA (uO hS₂ rfl ?_);have hS₃:=qu (gq (·.push Value.none)) hS₂ rfl;refine uO (hz:=by seq_fits) hS₃ rfl ?_;have hS₄:=qu (gq (·.pop)) hS₃ rfl;have up:∀c o,s.heap.get? c=some o->((((s.heap.push { cls:=.type "list",data:=.seq #[] }).update (n+6) (gq (fun _=>(#[]:Array Value)))).update (n+6) (gq (·.push Value.none))).update (n+6) (gq (·.pop))).get? c=some o:=fun c o e =>
  have ne:c≠n+6:=by rw[<-hs];exact bR (aR e)
  oth _ _ _ _ ne (oth _ _ _ _ ne (oth _ _ _ _ ne (cU _ e)))
 refine aK #[qZ F.plain_extend_loop _,JR (show A.in1.handled=none from hh) (xX (n+5)) e2 e3 hsz xs.size 0 _ [] _ rfl (cJ _) (st.keep (fun T o _ e=>#[o,up T o e]) fun c o _ e=>up c o e) hS₄ #[rfl,.nil,fun j t e=>by simp at e] fun h' ts c g t q=>#[rfl,h h' ts c g t fun c o l e=>q c o l (up c o e)]]
end
end PySem
namespace L2
open PySem PySem.Spec PyProof.Rows
section
variable{X:Cx}{pins:List (Addr × Obj)}{σ:St}{H H':Hp}{s:Shared}{h':Heap}
theorem Inv.grow{t':Nat}(I:Inv X pins σ H s)(k:∀b u,s.heap.get? b=some u->h'.get? b=some u)(hb:∀b,b<s.heap.objs.size->H' b=H b)(new:∀b o,s.heap.objs.size<=b->H' b=some o->cA X.prog X.w H' h' b o):Inv X pins σ H' { s with heap:=h',toks:=t' }:=by
 have ht:∀b u,H b=some u->H' b=some u:=fun b u e=>by
  rwa[hb b (Nat.lt_of_not_le fun l=>by rw[I.hok.fresh l]at e;cases e)]
 refine I.step (g':=s.gens) (d':=s.drawn) (ch:=[]) (fun b hb=>absurd hb (by simp)) (fun b o _ _ _ e _=>k b o e) (fun b o _ _ _ e _=>#[o.slots,k b o e]) (fun b u _ e n=>by rwa[hb b (aR e)])
  (fun b o _ e=>#[o,k b o e]) (fun b xs e=>ht _ _ e) (fun b q u e=>ht _ _ e) (fun b ps e=>#[#[],by rw[ht _ _ e];simp]) (fun m hm=>?_) (fun b u e=>?_) I.bare
 ·obtain⟨o,es,ep,ho,r⟩:=hm;show#[o,es,ep,k _ o ho,r]
 ·by_cases l:b<s.heap.objs.size
  ·rw[hb b l]at e;exact(I.hok b u e).stay (fun c v _ q=>k c v q) (fun c q=>ht _ _ q) fun c xs q=>ht _ _ q
  ·exact new b u (WL l) e
def JT(H:Hp):List Addr->List (List V)->Hp
 |t::ts,r::rs=>upd (JT H ts rs) t (.tup r)
 |_,_=>H
theorem PL{H:Hp}{b:Addr}:∀{ts:List Addr} {rs:List (List V)},b∉ts->JT H ts rs b=H b
 |[],_,_=>rfl
 |_::_,[],_=>rfl
 |t::ts,r::rs,h=>by
  rw[aO,not_or]at h;show upd _ _ _ b=_;rw[ao h.1,PL h.2]
theorem UW{H:Hp}{b:Addr}{o:HO}:∀{ts:List Addr} {rs:List (List V)},JT H ts rs b=some o->(∃(i:Nat)(r:List V),ts[i]? = some b/\rs[i]? = some r/\o=.tup r)\/H b=some o
 |[],_,h=>.inr h
 |_::_,[],h=>.inr h
 |t::ts,r::rs,h=>by
  by_cases e:b=t
  ·subst e;have h:upd (JT H ts rs) b (.tup r) b=some o:=h;rw[aj]at h;cases h;exact .inl #[0,r,rfl,rfl,rfl]
  ·have h:upd (JT H ts rs) t (.tup r) b=some o:=h;rw[ao e]at h;rcases UW h with⟨i,r',a,b',c⟩|h
   ·exact .inl #[i+1,r',by simpa using a,by simpa using b',c]
   ·exact .inr h
theorem af4{H:Hp}:∀{ts:List Addr} {rs:List (List V)} {i:Nat} {b:Addr} {r:List V},ts.Nodup->ts[i]? = some b->rs[i]? = some r->JT H ts rs b=some (.tup r)
 |[],_,_,_,_,_,h,_=>by simp at h
 |_::_,[],_,_,_,_,_,h=>by simp at h
 |t::ts,r'::rs,i,b,r,n,h,h2=>by
  show upd (JT H ts rs) t (.tup r') b=_;cases i with
  |zero=>cases h;cases h2;rw[aj]
  |succ i =>
   have h:ts[i]? = some b:=by simpa using h
   have ne:b≠t:=fun e=>(iR.mp n).1 (by rw[<-e];exact xj h);rw[ao ne];exact af4 (iR.mp n).2 h (by simpa using h2)
def af5(xs ys zs:List V):List (List V):=(xs.zip (ys.zip zs)).map fun r=>[r.1,r.2.1,r.2.2]
def ahr(ta:TA):TE:=fun σ H Q=>ta σ H fun vs H1=>∃(a b c:Addr)(xs ys zs:List V),vs=[.ref a,.ref b,.ref c]/\H1 a=some (.lst xs)/\H1 b=some (.lst ys)/\H1 c=some (.lst zs)/\ys.length=xs.length/\zs.length=xs.length /\
 ∀p ts,H1 p=none->(∀t∈ts,H1 t=none/\t≠p)->ts.Nodup->ts.length=xs.length->Q (.ref p) (upd (JT H1 ts (af5 xs ys zs)) p (.lst (ts.map V.ref)))
theorem PN:∀ts:List Addr,Vals (ts.map V.ref) (ts.map Value.ref)
 |[]=>.nil
 |_::ts=>.cons rfl (PN ts)
theorem aa8{a b c:Expr}{ta:TA}{p p2 pos pos2:Pos}(hc:X.calm=true)(hg:Gl X "list")(hm:X.mg "list" = none)(hg2:Gl X "zip")(hm2:X.mg "zip" = none)(ha:PA X [a,b,c] ta)(hs:aZ [a,b,c] X.env=(false,eval a X.env)::aZ [b,c] X.env:=by rfl)
  (hs2:(cY pos2 (aZ [b,c] X.env)).any (·.1)=false:=by rfl) (he:aZ [.Call (.Name "zip" p2) [a,b,c] [] pos2] X.env=[(false,eval (.Call (.Name "zip" p2) [a,b,c] [] pos2) X.env)]:=by rfl):PE X (.Call (.Name "list" p) [.Call (.Name "zip" p2) [a,b,c] [] pos2] [] pos) (ahr ta):=by
 walk_at "l"
 refine Aa (iB I hg hm (show uP "list" = some (.type "list") by decide +kernel) ?_ tb_g% tb_g%);refine yg ?_ he rfl;rw[he];refine uV (x:=eval (.Call (.Name "zip" p2) [a,b,c] [] pos2) X.env) (rest:=[]) (Call_ (iB I hg2 hm2 adA (yg (thn (ha pos2 pins s σ H _ I h) fun us s1 zq=>?_) hs hs2)));obtain⟨vs,H1,I1,r1,q1⟩:=zq;obtain⟨l1,l2,l3,xs,ys,zs,e,e1,e2,e3,len2,len3,q⟩:=q1;subst e;cases r1 with
 |cons r rr =>
  cases rr with
  |cons r' rr =>
   cases rr with
   |cons r'' rr =>
    cases rr;cases r;cases r';cases r'';obtain⟨z1,us,n1,rv1,lu,g1⟩:=I1.yF e1;obtain⟨_,vs,n2,rv2,lv,g2⟩:=I1.yF e2;obtain⟨_,ws,n3,rv3,lw,g3⟩:=I1.yF e3;refine aeR (xs:=us.toArray) (ys:=vs.toArray) (zs:=ws.toArray) #[_,g1,rfl,n1,rfl] #[_,g2,rfl,n2,rfl] #[_,g3,rfl,n3,rfl] fun h1 st hz z6 hk=>yh ?_;refine R6 (I1.ok.hd hc) z6 (by rw[bH,bH];lia) (by rw[bH,bH];lia) (by rw[bH];lia) st hz fun h' ts k gS tr keep=>?_;have lt:ts.length=xs.length:=by rw[tr.1,bH];lia
    have nt:∀t∈ts,s1.heap.objs.size+5<t/\t≠s1.heap.objs.size+6:=fun t m=>by
     obtain⟨j,hj⟩:=Vu m;show#[(tr.2.2 j t hj).1,(tr.2.2 j t hj).2.1]
    show#[.ref (s1.heap.objs.size+6),_,I1.grow (t':=s1.toks) (H':=upd (JT H1 ts (af5 xs ys zs)) (s1.heap.objs.size+6) (.lst (ts.map V.ref))) (fun b u e=>keep b u (aR e) (hk b u e)) (fun b l=>?_) (fun b o l e=>?_),rfl,
     q _ ts (I1.hok.fresh (j4 _ _)) (fun t m=>#[I1.hok.fresh (iV (nZ (j4 _ 5) (nt t m).1)),(nt t m).2]) tr.2.1 lt]
    ·rw[ao (bR (dI l (j4 _ _))),PL fun m=>oh b (oA (dI l (j4 _ 5)) (nt b m).1)]
    ·by_cases z:b=s1.heap.objs.size+6
     ·subst z;rw[aj]at e;cases e;show#[by rwa[aC,lt],_,k,PN ts,gS]
     ·rw[ao z]at e;rcases UW e with⟨i,r,a1,a2,rfl⟩|e
      ·obtain⟨_,_,x,y,v,b1,b2,b3,b4⟩:=tr.2.2 i b a1;unfold af5 at a2;rw[dF,j6]at a2;obtain⟨⟨x',y',v'⟩,a2,rfl⟩:=a2;obtain⟨c1,c2⟩:=Vo.mp a2;obtain⟨c2,c3⟩:=Vo.mp c2;obtain⟨u1,d1,f1⟩:=rv1.get c1;obtain⟨u2,d2,f2⟩:=rv2.get c2;obtain⟨u3,d3,f3⟩:=rv3.get c3;have i1:u1=x:=by simpa[d1]using b1
       have i2:u2=y:=by simpa[d2]using b2
       have i3:u3=v:=by simpa[d3]using b3
       subst i1 i2 i3;show#[tb_g%,_,.cons f1 (.cons f2 (.cons f3 .nil)),#[_,b4,rfl,0,rfl]]
      ·rw[I1.hok.fresh l]at e;cases e
end
end L2
namespace L2
open PySem PySem.Spec PyProof.Rows PySem.Builtin PySem.Builtin.ObjectAttr PySem.Builtin.Getset_descriptor
structure JV(K:aG)(C:Addr):Prop where
 ga:fD K (.ref C) "__getattribute__" = some (some (.builtin "BaseException.__getattribute__"))
 gt:fD K (.ref C) "__getattr__" = some none
 cl:fD K (.ref C) "__class__" = some (some (.builtin "object.__class__"))
 sp:Gd K (.builtin "object.__class__") "__get__" = some (some (.builtin "getset_descriptor.__get__"))
 tk:acB K (.builtin "object.__class__")=some true
 ex:jZ K C (.type "BaseException")=some true
 ob:jZ K C (.type "object")=some true
 se:jZ K C (.ref C)=some true
 ty:Bh K (.ref C)=some (.type "type")
section
variable{K:aG}{e C:Addr}{o:Obj}{prog:aH}{w:World}{A:aP}{E:Value->Shared->Prop}{s:Shared}
theorem jH{M:Model}{h:Heap}(he:h.get? e=some o)(hc:o.cls=.ref C):uM M h (WD (.ref e)) (.ref C):=hc ▸ (akF he).andThen .now
theorem HY{M:Model}{h:Heap}(kin:K.In h)(X:JV K C):uM M h (akI (.ref e) (.ref C) "__class__") (.bind (.builtin "getset_descriptor.__get__") (.builtin "object.__class__")):=by
 have l1:=Bc (M:=M) kin X.cl;have l2:=PySem.W.looks_specialIn (M:=M) kin X.sp;have l3:=PySem.W.looks_takesIn (M:=M) kin X.tk;intro A Q E s k q;obtain⟨hh,g,d,t,os⟩:=s;have L1:=l1.keeps k;have L2:=l2.keeps k;have L3:=l3.keeps k;clear l1 l2 l3;unfold akI aqB dM.ObjectAttr.dataDescriptor?
 repeat lk
 exact q
theorem R7{tp:Value}{R:lC->Shared->Prop}(kin:K.In s.heap)(X:JV K C)(he:s.heap.get? e=some o)(hc:o.cls=.ref C)(h:R (.ok (.ret (.ref C))) s):
  fY (model prog w) A (.call (.builtin "getset_descriptor.__get__") #[[.builtin "object.__class__",.ref e,tp],[]]) R s:=by
 obtain⟨hh,g,dr,t,os⟩:=s;have L0:=jH (M:=model prog w) he hc;have L1:=VH (M:=model prog w) kin X.ob;refine Bj akV.plain aq0 ?_;refine akV.check _ _ _ _ _ _ _ _ aqZ (aq1 _ _ _) ?_;unfold dM.«getset_descriptor.__get__» descrGet;rw[PySem.W.dga_obj];refine aA (aK ?_);unfold descrGetter descrCheckInstance descrNameAndClass Wk;simp only[aqX]
 repeat lk
 show#[adM _ tb_g%,?_];refine qY aqY ?_;unfold dM.«object.__class__» shownTypeOf
 repeat lk
 exact h
theorem U0{M:Model}{nameV:Value}{Q:Unit->Shared->Prop}(kin:K.In s.heap)(X:JV K C)(he:s.heap.get? e=some o)(hc:o.cls=.ref C)(hq:Q () s):
  wpAny M A (V8 "BaseException.__getattribute__" #[[.ref e,nameV],[]]) Q E s:=by
 obtain⟨hh,g,dr,t,os⟩:=s;have L0:=jH (M:=M) he hc;have L1:=VH (M:=M) kin X.ex;have L2:uM M hh (Wk (.ref e) (.type "BaseException")) true:=L0.andThen L1;have hk:acU "BaseException.__getattribute__" = some .slot:=by decide +kernel
 have hsp:splitId "BaseException.__getattribute__" = some ("BaseException","__getattribute__"):=by decide +kernel
 have ha:=F.args_bexc_ga (.ref e) nameV;simp only[V8,hk,hsp];refine aA (L2.at ?_)
 repeat (first|wp_step|lk)
 all_goals exact hq
theorem ahs{tk:Tok}{Q:ajx->Shared->Prop}(kin:K.In s.heap)(X:JV K C)(he:s.heap.get? e=some o)(hc:o.cls=.ref C)(hq:Q (.done (.ret (.ref C))) s):
  wpAny (model prog w) A (dM.«object.__getattribute__» #[[.ref e,.str "__class__" tk],[]]) Q E s:=by
 obtain⟨hh,g,dr,t,os⟩:=s;have L0:=jH (M:=model prog w) he hc;have L1:=HY (e:=e) (M:=model prog w) kin X;unfold dM.«object.__getattribute__»;refine aA (aK (a:=(Value.ref e,[Value.str "__class__" tk])) ?_);dsimp only;refine aA (aK (a:=("__class__" : Str)) ?_);refine aA (L0.at ?_);refine aA (L1.at ?_);dsimp only;unfold bindTo;refine aA (iU (nR ?_));exact R7 kin X he hc (aK hq)
theorem asC{tk:Tok}{Q:Value->Shared->Prop}(kin:K.In s.heap)(X:JV K C)(he:s.heap.get? e=some o)(hc:o.cls=.ref C)(hq:Q (.ref C) s):
  wpAny (model prog w) A (Wr (.ref e) (.str "__class__" tk) false) Q E s:=by
 obtain⟨hh,g,dr,t,os⟩:=s;have L0:=jH (M:=model prog w) he hc;have L1:=Bc (M:=model prog w) kin X.ga;have L2:=Bc (M:=model prog w) kin X.gt;have hx2:(Value.builtin "BaseException.__getattribute__" == Value.builtin "object.__getattribute__")=false:=by decide +kernel
 have hb:=F.attr_ValueError.ga.bind (.ref e);unfold Wr;refine iU (aA (L0.at (aA (L1.at ?_))));dsimp only;rw[hx2,GP,if_neg d9];unfold ai8 hookBefore;rw[if_pos (show ac1 (Value.ref C)=true from rfl)];refine aA (L2.at ?_);refine aA (Wg (iU ?_));unfold ai6;rw[ajL,if_neg d9];unfold ajg;rw[hb];refine aA (aK ?_);refine nR (Bj F.attr_ValueError.ga.plain F.entry_bexc_ga (U0 kin X he hc (ahs kin X he hc ?_)))
 repeat (first|exact hq|wp_step|lk)
theorem amQ{Q:Option Value->Shared->Prop}(kin:K.In s.heap)(X:JV K C)(he:s.heap.get? e=some o)(hc:o.cls=.ref C)(hq:Q (some (.ref C)) { s with toks:=s.toks+1 }):
  wpAny (model prog w) A (getAttr? (.ref e) "__class__") Q E s:=by
 obtain⟨hh,g,dr,t,os⟩:=s;unfold getAttr? getAttrBy?;refine aA (ajw (aA (Wg ?_)));exact asC (s:=#[hh,g,dr,t+1,os]) kin X he hc (aK hq)
theorem aa9(X:JV K C):PySem.W.KitX K (.ref e) (.ref C) (fun h=>∃o,h.get? e=some o/\o.cls=.ref C) where
 ty:=fun _ _ _ ⟨_,he,hc⟩=>jH he hc
 it:=fun _ _ kin _=>(aiR kin (Ph (K:=K) (C:=C) (B:=C) (r:=true) X.se X.ob X.ty)).2.1
 ne:=fun h tp dd its n sl kin htp=>by
  refine Bool.eq_false_iff.mpr fun q=>?_;have e1:C=tp:=arK (beq_iff_eq.mp q);subst e1;have k:=X.ob;unfold jZ V2 at k;split at k
  ·rename_i ho;have z:=(kin _ _ ho).symm.trans htp;cases z
  ·cases k
 ca:=fun kin ⟨_,he,hc⟩ k=>amQ kin X he hc k
end
section
variable{X:Cx}
def ap2(K:aG):List V->Hp->VK->Prop:=fun xs H Q=>∃e C dd c cv b,xs=[.ref e,c]/\H e=some (Cm e C dd)/\JV K C/\RelV c cv/\(∀u,RelV c u->u=cv)/\qp K (.ref C) cv=some b/\Q (.bl b) H
theorem aht:fW X (.builtin "isinstance") (ap2 X.K):=by
 walk_at "s"
 obtain⟨e,C,dd,c,cv,b,rfl,he,xc,rc,inj,k,q⟩:=h;obtain⟨u,w',rfl,ru,rw'⟩:=vals2 r;obtain rfl:=inj w' rw';obtain rfl:u=Value.ref e:=ru;obtain⟨⟨o,p1,p2,_⟩,_,_⟩:=(show cA X.prog X.w H s.heap e (Cm e C dd)from I.hok e _ he);exact wC (aa9 xc) I.kIn ⟨o,p1,p2⟩ k (fun z=>nomatch z) fun tk=>⟨.bl b,H,I.tok tk,rfl,q⟩
def amR(K:aG):List V->Hp->VK->Prop:=fun xs H Q=>∃(e C tp:Addr)(dd:Option Addr)(cs:List Addr)(b:Bool),xs=[.ref e,.ref tp]/\H e=some (Cm e C dd)/\JV K C/\H tp=some (.tup (cs.map V.ref))/\acF K (.ref C) (cs.map Value.ref)=some b/\Q (.bl b) H
theorem U3:∀{cs:List Addr}{us:List Value},Vals (cs.map V.ref) us->us=cs.map Value.ref
 |[],_,.nil=>rfl
 |_::_,_,.cons r t=>by rw[cP,<-U3 t];cases r;rfl
theorem aeT:fW X (.builtin "isinstance") (amR X.K):=by
 walk_at "s"
 obtain⟨e,C,tp,dd,cs,b,rfl,he,xc,ht,k,q⟩:=h;obtain⟨u,w',rfl,ru,rw'⟩:=vals2 r;obtain rfl:u=Value.ref e:=ru;obtain rfl:w'=Value.ref tp:=rw';obtain⟨⟨o,p1,p2,_⟩,_,_⟩:=(show cA X.prog X.w H s.heap e (Cm e C dd)from I.hok e _ he);obtain⟨_,its,rv,⟨oc,od,odt,osl⟩,ho,hcl,n,hd⟩:=(show cA X.prog X.w H s.heap tp (.tup (cs.map V.ref))from I.hok tp _ ht);have hi:=U3 rv;subst hi;simp only at hcl hd;subst hcl hd;exact PySem.W.kia_tup (aa9 xc) I.kIn ⟨o,p1,p2⟩ ho k (fun z=>nomatch z) fun tk=>⟨.bl b,H,I.tok tk,rfl,q⟩
end
end L2
namespace L2
open PySem PySem.Spec PyProof.Rows
section
variable{X:Cx}{k:Addr}{o e:Expr}{es:List Expr}{to:TE}{t:TA}{name:Str}{apos cpos:Pos}{T id:String}{r:V->List V->Hp->VK->Prop}
theorem asD(pa:PlainAttrs T)(slot:Slot T name id)(hty:WD (.builtin id)=pure (.type "method_descriptor"))(hm:MtR (X.marked k) id r)(ho:PE (X.marked k) o to)(ha:PA (X.marked k) (e::es) t)
  (hbase:nQ o name X.env (eval o X.env)=eval o X.env:=by rfl)
  (hfew:((cY cpos (aZ (e::es) X.env)).all (fun x=>!x.1) && (xW cpos (xP [] X.env)).all (fun x=>x.1.isSome)
   && decide ((e::es).length+([]:List lA).length+(if ([]:List lA).isEmpty then 0 else 1)<30))=true:=by rfl)
  (hline:(apos.endLine == cpos.line)=true:=by rfl) (hs:aZ (e::es) X.env=(false,eval e X.env)::aZ es X.env:=by rfl) (hplain:(cY cpos (aZ es X.env)).any (·.1)=false:=by rfl):
  PE (X.marked k) (.Call (.Attribute o name apos) (e::es) [] cpos) (tBM X.K T r to t):=mR pa slot hty hm ho ha hbase hfew hline hs hplain
theorem abb:fW (X.marked k) (.builtin "isinstance") (amR X.K):=aeT
theorem Qa:fW (X.marked k) (.builtin "isinstance") (ap2 X.K):=aht
end
abbrev ahu(vs:List Value):Obj:={ cls:=.type "tuple",data:=.seq vs.toArray }
abbrev Yj(C t:Addr)(dd:Option Addr):Obj:={ cls:=.ref C,dict:=dd,data:=.fields [.ref t,.none,.none,.none,.bool false,.none].toArray }
abbrev abd(h:Heap)(C:Addr)(vs:List Value):Heap:=(h.push (ahu vs)).push (Yj C h.objs.size none)
structure XI(K:aG)(C f:Addr)(bmB:List Value)(newId:String):Prop where
 ob:∃nm q N bs bm hd sn sub ab col dd k0 k1 k2 k3 k5,K.lookup C=some (Wh nm q C N bs bm hd sn sub ab col dd k0 k1 k2 k3 k5 newId)/\acD K bmB bm=true/\acE K N=true/\dR K N "__init__" = some (some (.ref f))
section
variable{prog:aH}{w:World}{A:aP}{E:Value->Shared->Prop}{h:Heap}{g:Array ac2}{d:Drawn}{t:Nat}{os:OsState}
variable{nm q:Str}{C N:Addr}{bs bm bmB:List Value}{hd:Bool}{sn:List Str}{sub:List Value}{ab:Bool}{col:Option Bool}{dd:Option Addr}{k0 k1 k2 k3 k5:Option Value}{B newId initId:String}
theorem aeU(F:Nf B newId initId bmB)(T:OwnTail h bmB bm){mN:Str->Option Value}{vs:List Value}{f:Addr}{o:Obj}{Q:Fin->Shared->Prop}
  (hC:h.get? C=some (Wh nm q C N bs bm hd sn sub ab col dd k0 k1 k2 k3 k5 newId)) (hn:h.Ns N mN) (hi:mN "__init__" = some (.ref f)) (ho:h.get? f=some o) (hc:o.cls=.type "function") (few:vs.length<=sizeLine)
  (hq:wpAny (model prog w) A (call (.ref f) (.ref (h.objs.size+1)::vs)) (fun r s'=>r=.none/\Q (.done (.ret (.ref (h.objs.size+1)))) s') E #[abd h C vs,g,d,t,os]):
  wpAny (model prog w) A (dM.«type.__call__» #[.ref C::vs,[]]) Q E #[h,g,d,t,os]:=by
 repeat (first|with_reducible refine M6 hC ?_|with_reducible refine wpAny_madeBy_exc hC ?_|wp_step)
 refine codeAny_call_builtin_code (adM _ F.quiet) (wpAny_check_new_subT F T hC (codeAny_exc_new_subT F T hC ?_ few));show wpAny _ _ _ _ _ _;have up:∀b u,h.get? b=some u->(abd h C vs).get? b=some u:=fun b u z=>cU _ (cU _ z);have hget:(abd h C vs).get? (h.objs.size+1)=some (Yj C h.objs.size none):=by heap_get
 have hC1:=up _ _ hC;have hcC:(Value.ref C::bm).contains (.ref C)=true:=by simp
 unfold Wk
 repeat (first|with_reducible refine M6 hget ?_|(with_reducible refine aiZ hC1 ?_;rw[hcC])|wp_step)
 show wpAny _ _ (xQ (.ref C) _) _ _ _;refine wpAny_typeLookup_tail hC1 (hn.keeps up) (T.keeps up) F.mroIs F.init.lookup ?_;rw[hi];refine iU (aA ?_);unfold bindSpecial;refine aA (Br (T := "function") #[_,up _ _ ho,hc] ?_);rw[if_pos tb_g%];refine aK (aA (dH hq (fun r s' zq=>?_) fun _ _ x=>x));obtain⟨e,z⟩:=zq;subst e
 wp_walk
 exact z
theorem xcall(F:Nf B newId initId bmB)(T:OwnTail h bmB bm){mN:Str->Option Value}{vs:List Value}{f:Addr}{o:Obj}{Q:Value->Shared->Prop}
  (hC:h.get? C=some (Wh nm q C N bs bm hd sn sub ab col dd k0 k1 k2 k3 k5 newId)) (hn:h.Ns N mN) (hi:mN "__init__" = some (.ref f)) (ho:h.get? f=some o) (hc:o.cls=.type "function") (few:vs.length<=sizeLine)
  (hq:wpAny (model prog w) (A.under (.builtin "type.__call__" #[.ref C::vs,[]])) (call (.ref f) (.ref (h.objs.size+1)::vs)) (fun r s'=>r=.none/\Q (.ref (h.objs.size+1)) s') E #[abd h C vs,g,d,t,os]):
  wpAny (model prog w) A (call (.ref C) vs) Q E #[h,g,d,t,os]:=by
 have f1:=tc_lookup;have f2:=tc_bind (.ref C);have hT:(#[h,g,d,t,os]:Shared).TypeIs (.ref C) "type" := #[_,hC,rfl];refine nR (codeAny_of_tree ?_);show wpAny _ _ (callAny (.ref C) _) _ _ _
 repeat (any_goals (first|assumption|with_reducible refine M6 hC ?_|wp_step))
 show#[rfl,?_];exact codeAny_call_builtin_at (adM _ tb_g%) entry_typeCall (wpAny_check_type_call_sub hC (aeU F T hC hn hi ho hc few hq))
end
def vN(e C:Addr)(dd:Option Addr):HO:=.ext fun h=>∃t,h.get? e=some (Yj C t dd)
structure XB(K:aG)(CB:Addr)(initId:String):Prop where
 sp:Gd K (.ref CB) "__getattribute__" = some (some (.builtin "type.__getattribute__"))
 rd:aiN K CB (.type "type")=true
 fd:aiO K (.ref CB) (.type "type") "__init__" = some (.val (.builtin initId))
def asF(C:Addr)(ta:TA):TE:=fun σ H Q=>ta σ H fun vs H1=>∃e z,vs=[.ref e,.str z]/\H1 e=some (vN e C none)/\Q .non H1
section
variable{X:Cx}{C f CB:Addr}{bmB:List Value}{B newId initId:String}{x:Str}{np apos pos:Pos}{e₀ e₁:Expr}{ta:TA}
theorem amS{H:Hp}{e:Addr}{o:HO}(q:H e=some o):upd H e o=H:=by
 funext b
 unfold upd;split
 ·rename_i z;rw[z];exact q.symm
 ·rfl
theorem Yk{P:aH}{w:World}{H:Hp}{h:Heap}{e C t:Addr}{dd:Option Addr}(q:h.get? e=some (Yj C t dd)):cA P w H h e (vN e C dd):=#[#[t,q],#[_,q],fun _ _ ⟨t,r⟩ k=>#[t,k _ r]]
theorem amT{pl:Sem Bool}(FB:Nf B newId initId bmB)(hx:XI X.K C f bmB newId)(hb:XB X.K CB initId)(hh:VN (.builtin initId)=true)(hg:Gl X x)(hm:X.mg x=some (.ref CB))(ha:PA X [e₀,e₁] ta)
  (hdb:(x == ("__debug__" : Str))=false:=by decide)
  (ht:eval (.Call (.Attribute (.Name x np) "__init__" apos) [e₀,e₁] [] pos) X.env=(do
   let ov <-eval (.Name x np) X.env
   Np apos.atName
   let (f,first) <-BJ [ov] (Nj ov "__init__" pl)
   ac3 pos f first (cY pos (aZ [e₀,e₁] X.env)) (xW pos (xP [] X.env))):=by rfl)
  (he:aZ [e₀,e₁] X.env=(false,eval e₀ X.env)::aZ [e₁] X.env:=by rfl) (hpl:(cY pos (aZ [e₁] X.env)).any (·.1)=false:=by rfl):
  PE X (.Call (.Attribute (.Name x np) "__init__" apos) [e₀,e₁] [] pos) (asF C ta):=by
 walk_at "l"
 refine aiF (pl:=pl) (qM I hg hm ?_ hdb) ht;refine PySem.W.method_cls I.kIn hb.sp (PySem.W.cls_value I.kIn hb.rd hb.fd hh ?_);refine aj6 (thn (ha pos pins _ σ H _ (I.tok _) h) fun us s1 zq=>?_) he hpl;obtain⟨vs,H1,I1,r1,e,z,ev,q,k⟩:=zq;subst ev;obtain⟨u,v,rfl,ru,rv⟩:=vals2 r1;obtain rfl:u=Value.ref e:=ru
 k_dat (tk,tk,v,z,rv) "A"
 obtain⟨⟨t,he⟩,_,_⟩:=(show cA X.prog X.w H1 s1.heap e (vN e C none)from I1.hok e _ q);obtain⟨nm,qn,N,bs,bm,hd,sn,sub,ab,col,dd,k0,k1,k2,k3,k5,lk,tl,ok,ni⟩:=hx.ob;have hC:=I1.kIn _ _ lk;have T:=VJ I1.kIn tl;have key:∀s2,s2={ s1 with heap:=(s1.heap.push (ahu [.str z tk])).update e (Hj fun a=>a.setIfInBounds 0 (.ref s1.heap.objs.size)) }->EP X pins σ Q .none s2:=fun s2 e2=>by
  subst e2;have he1:(s1.heap.push (ahu [.str z tk])).get? e=some (Yj C t none):=cU _ he;have I2:=I1.kept (t':=s1.toks) (h':=s1.heap.push (ahu [.str z tk])) fun b u r=>cU _ r;have I3:=I2.write (x:=e) (e:=e) (o:=vN e C none) (t':=s1.toks) (h':=(s1.heap.push (ahu [.str z tk])).update e (Hj fun a=>a.setIfInBounds 0 (.ref s1.heap.objs.size))) (by rw[q];exact True.intro) (.inl rfl)
   (fun b u nb r=>(mO _ _ (aL nb)).trans r) #[_,qu _ he1 rfl] (Yk (t:=s1.heap.objs.size) (qu _ he1 rfl))
  rw[amS q]at I3;show#[.non,H1,I3,rfl,k]
 obtain⟨hh,g,d,tt,os⟩:=s1;refine nR (Bj FB.init.plain FB.initEntry (wpAny_check_init_subT FB T hC he rfl ?_))
 wp_walk
 exact key _ rfl
end
structure XS(K:aG)(C:Addr)(f:Str):Prop where
 sa:fD K (.ref C) "__setattr__" = some (some (.builtin "object.__setattr__"))
 na:bM K C f
 hd:xM K C=true
 ob:jZ K C (.type "object")=some true
theorem abe{h:Heap}{bmB l:List Value}(T:OwnTail h bmB l){self:Value}(hp:Wl self "__setattr__" bmB=pure ()):Wl self "__setattr__" l=pure ():=by
 induction T with
 |base=>exact hp
 |own _ _ _ _ ih=>rwa[refuseLoop_ref]
section
variable{X:Cx}{pins:List (Addr × Obj)}{σ:St}{H:Hp}{s:Shared}{e d C t:Addr}{fs:List (Str × V)}{h':Heap}
theorem Inv.xlaid{t':Nat}{mA:Str->Option Value}(I:Inv X pins σ H s)(q:H e=some (vN e C none))(hd:s.heap.objs.size<=d)(k:∀b o,b≠e->s.heap.get? b=some o->h'.get? b=some o)(he:h'.get? e=some (Yj C t (some d)))
  (hn:h'.Ns1 d mA) (hf:∀f,tZ (fs.lookup f) (mA f)):Inv X pins σ (upd (upd H d (.xd fs)) e (vN e C (some d))) { s with heap:=h',toks:=t' }:=by
 have nd:H d=none:=I.hok.fresh hd;have ne:d≠e:=fun z=>by rw[z,q]at nd;cases nd
 have oth:∀{b:Addr},b≠e->b≠d->upd (upd H d (.xd fs)) e (vN e C (some d)) b=H b:=fun n1 n2=>by rw[ao n1,ao n2]
 have new:∀{b:Addr}{o:Obj},s.heap.get? b=some o->b≠d:=fun r z=>oh _ (dI (aR r) (z ▸ hd));have nt:∀{b:Addr}{o:HO},H b=some o->(∀φ,o≠.ext φ)->b≠e/\b≠d:=fun r n=>#[fun z=>by rw[z,q]at r;cases r;exact n _ rfl,fun z=>by rw[z,nd]at r;cases r];refine I.un #[fun b o r n _ _=>k b o (fun z=>by rw[z,q]at n;cases n) r,fun b o r n _ _=>#[o.slots,k b o (fun z=>by rw[z,q]at n;cases n) r],fun b o r n _=>?_,fun b o r _=>?_,fun b xs r=>?_,fun b o u r=>?_,fun b ps r=>#[#[],?_]] fun b o r=>?_
 ·rwa[oth (fun z=>by rw[z,q]at n;cases n) (new r)]
 ·by_cases z:b=e
  ·show#[_,z ▸ he]
  ·show#[o,k b o z r]
 ·obtain⟨a,c⟩:=nt r (fun _ z=>nomatch z);rwa[oth a c]
 ·obtain⟨a,c⟩:=nt r (fun _ z=>nomatch z);rwa[oth a c]
 ·obtain⟨a,c⟩:=nt r (fun _ z=>nomatch z);rw[oth a c,r,Array.append_empty]
 ·by_cases z:b=e
  ·subst z;rw[aj]at r;cases r;exact Yk he
  ·rw[ao z]at r;by_cases y:b=d
   ·subst y;rw[aj]at r;cases r;show#[mA,hn,hf]
   ·rw[ao y]at r;refine(I.hok b o r).stay (fun c u hc p=>k c u ?_ p) (fun c p=>?_) fun c xs p=>?_
    ·rcases hc with rfl|hc
     ·exact z
     ·exact(nt hc (fun _ z=>nomatch z)).1
    ·obtain⟨a,g⟩:=nt p (fun _ z=>nomatch z);rwa[oth a g]
    ·obtain⟨a,g⟩:=nt p (fun _ z=>nomatch z);rwa[oth a g]
theorem xset{A:aP}{E:Value->Shared->Prop}{f:Str}{fI:Addr}{bmB:List Value}{newId:String}{y:V}{u:Value}{Q:Unit->Shared->Prop}(I:Inv X pins σ H s)(q:H e=some (vN e C none))(hx:XI X.K C fI bmB newId)(hs:XS X.K C f)
  (hp:∀self,Wl self "__setattr__" bmB=pure ()) (ry:RelV y u) (k:∀d s',H d=none->d≠e->Inv X pins σ (upd (upd H d (.xd [(f,y)])) e (vN e C (some d))) s'->Q () s'):wpAny (model X.prog X.w) A (setAttr (.ref e) f u) Q E s:=by
 obtain⟨⟨t,he⟩,_,_⟩:=(show cA X.prog X.w H s.heap e (vN e C none)from I.hok e _ q);obtain⟨nm,qn,N,bs,bm,hd,sn,sub,ab,col,dd,k0,k1,k2,k3,k5,lk,tl,ok,ni⟩:=hx.ob;have J:acG s.heap e (Yj C t none) C none:=#[he,rfl,rfl,trivial];have hC:=I.kIn _ _ lk;obtain⟨cd,hc,hdc⟩:=aiL hs.hd;have ecd:cd.mro=.ref C::bm:=by
  unfold V2 at hc;rw[lk]at hc;cases hc;rfl
 have SF:=PySem.F.store_object;have K1:=I.kIn;have T:=VJ K1 tl;refine aiI K1 J hs.sa (Bj SF.slot.plain SF.entry (@PySem.W.check_slot (model X.prog X.w) _ _ { s with toks:=s.toks+1 } "object.__setattr__" "object" "__setattr__" (.ref e) [.str f s.toks,u] [] _ SF.kind SF.split (J.type.andThen (VH K1 hs.ob)) (SF.args (.ref e) (.str f s.toks) u) ?_));have hm:uM (model X.prog X.w) s.heap (mroOf (.ref C)) cd.mro:=(acz K1 hc).andThen .now;rw[PySem.W.osa_eq,refuse_eq];refine aA (aA (Hl (s:={ s with toks:=s.toks+1 }) J.type (aA (Hl (s:={ s with toks:=s.toks+1 }) hm ?_))));rw[ecd,refuseLoop_ref,abe T (hp _)];refine aK (aA (Hl (s:={ s with toks:=s.toks+1 }) J.type (aA (Hl (s:={ s with toks:=s.toks+1 }) (Bc K1 hs.na) (aA (aK ?_))))));have hxs:e≠s.heap.objs.size:=bR (aR he);have he1:(s.heap.push tQ).get? e=some (Yj C t none):=cU _ he;refine aA (aK (aA (aA (aja he (aA (Hl (s:={ s with toks:=s.toks+1 }) (acz K1 hc) ?_))))));rw[hdc];refine aA (wpAny_alloc' ?_);refine aA (wpAny_update' he1 (aK ?_));have hgd:((s.heap.push tQ).update e fun o=>{ o with dict:=some s.heap.objs.size }).get? s.heap.objs.size=some tQ:=(ajy _ _ _ _ hxs.symm).trans (ajz rfl rfl);have hnd:((s.heap.push tQ).update e fun o=>{ o with dict:=some s.heap.objs.size }).Ns s.heap.objs.size (fun _=>none):=#[_,#[],_,hgd,rfl,fun _ he=>absurd he (by simp),fun _=>rfl];show wpAny _ _ (akH s.heap.objs.size (.str f s.toks) f u) _ _ _;unfold akH aqA;refine aA (aK (aA (ajt (akW hnd) fun h' hn' hss=>?_)));obtain⟨oD,esD,epD,hoD,hdD,hcD⟩:=hn'.count (Within.cons f u Within.nil);refine aA (ai3 hoD (by rw[hdD];exact ai4 (bQ hcD (by rw[bh,acq,Ng];lia))) ?_);refine aK (k s.heap.objs.size _ (I.hok.fresh (aJ _)) hxs.symm (I.xlaid (t:=t) q (aJ _) (fun b o n r=>(hss.2 b (bR (aR r))).trans ((ajy _ _ _ _ n).trans (cU _ r))) ((hss.2 e hxs).trans (qu _ he1 rfl)) hn' fun g=>?_));by_cases z:g=f
 ·subst z;simp only[xJ,beq_self_eq_true,if_true];exact ry
 ·rw[if_neg z,cg z];exact True.intro
end
def sXfld(C:Addr)(ta tv:TE)(f:Str):TS:=fun D σ H=>tv σ H fun y H1=>ta σ H1 fun x H2=>∃e,x=.ref e/\H2 e=some (vN e C none)/\∀d,H2 d=none->d≠e->D.nx σ (upd (upd H2 d (.xd [(f,y)])) e (vN e C (some d)))
theorem aoP{X:Cx}{o value:Expr}{f:Str}{pos pos':Pos}{ta tv:TE}{C fI:Addr}{bmB:List Value}{newId:String}(hx:XI X.K C fI bmB newId)(hs:XS X.K C f)(hp:∀self,Wl self "__setattr__" bmB=pure ())(ha:PE X o ta)(hv:PE X value tv)
  (hw:xU value (some (.Attribute o f pos')) pos.line X.env=pure false:=by rfl):PS X (.Assign [.Attribute o f pos'] value pos) (sXfld C ta tv f):=by
 walk_at "H"
 refine aiT (thn (hv pins s σ H _ I h) fun u s1 ⟨y,H1,I1,ry,q⟩=>thn (ha pins s1 σ H1 _ I1 q) fun ov s2 zq=>?_) hw;obtain⟨x,H2,I2,rx,e,ex,ea,k⟩:=zq;subst ex;obtain rfl:ov=Value.ref e:=rx;exact xset I2 ea hx hs hp ry fun d s3 n1 n2 I3=>#[σ,_,I3,k d n1 n2]
def JW(H:Hp)(e:Addr):Hp:=fun b=>if b=e then none else H b
theorem Eb{H:Hp}{e b:Addr}(n:b≠e):JW H e b=H b:=if_neg n
theorem zR{H:Hp}{e:Addr}:JW H e e=none:=if_pos rfl
theorem Ec{H:Hp}{e b:Addr}{φ:Heap->Prop}{o:HO}(q:H e=some (.ext φ))(r:H b=some o)(n:∀φ,o≠.ext φ):JW H e b=some o:=by
 rwa[Eb fun z=>?_];rw[z,q]at r;cases r;exact n _ rfl
theorem HOk.JW{P:aH}{w:World}{H:Hp}{h:Heap}{e:Addr}{φ:Heap->Prop}(x:HOk P w H h)(q:H e=some (.ext φ)):HOk P w (JW H e) h:=fun b o r=>by
 by_cases z:b=e
 ·rw[z,zR]at r;cases r
 ·rw[Eb z]at r;exact(x b o r).stay (fun _ _ _ p=>p) (fun c p=>Ec q p fun _ z=>nomatch z) fun c xs p=>Ec q p fun _ z=>nomatch z
theorem Un.JW{fs:List Addr}{H0 H:Hp}{g h:Heap}{e:Addr}{φ:Heap->Prop}(u:Un fs [] H0 H g h)(q:H e=some (.ext φ)):Un fs [] H0 (JW H e) g h where
 keep:=u.keep
 slot:=u.slot
 free:=fun b o r n x=>by
  by_cases z:b=e
  ·rw[z,zR]
  ·rw[Eb z];exact u.free b o r n x
 there:=u.there
 tups:=fun b xs r=>Ec q (u.tups b xs r) fun _ z=>nomatch z
 rR:=fun b o v r=>Ec q (u.rR b o v r) fun _ z=>nomatch z
 wZ:=fun b ps r=>by
  obtain⟨m,p⟩:=u.wZ b ps r;show#[m,Ec q p fun _ z=>nomatch z]
theorem asG{M:Model}{A:aP}{E:Value->Shared->Prop}{s:Shared}{env:Env}{nm q:Str}{C N:Addr}{bs bm:List Value}{hd:Bool}{sn:List Str}{sub:List Value}{ab:Bool}{col:Option Bool}{dd:Option Addr}{k0 k1 k2 k3 k5:Option Value}{newId:String}
  {x:Sem Value} {Q:Flow->Shared->Prop} (hb:bm.contains (.type "BaseException")=true) (hh:A.handled=none)
  (h:wpAny M A x (fun v s1=>∃e t d,v=.ref e/\s1.heap.get? C=some (Wh nm q C N bs bm hd sn sub ab col dd k0 k1 k2 k3 k5 newId)/\s1.heap.get? e=some (Yj C t d)/\E (.ref e) s1) E s):
  wpAny M A (raiseStmt env (some x) none) Q E s:=by
 have hcB:(Value.ref C::bm).contains (.type "BaseException")=true:=by rw[List.contains_cons,hb,ajO]
 unfold raiseStmt;refine aA (dH h (fun v s1 zq=>?_) fun _ _ z=>z);obtain⟨e,t,d,ev,hC,he,hE⟩:=zq;subst ev;obtain⟨hp,g,dr,tk,os⟩:=s1
 repeat (first|with_reducible refine M6 he ?_|with_reducible refine M6 hC ?_|(with_reducible refine aiZ hC ?_;rw[hcB])|wp_step)
 exact wpAny_raiseNew_none hh hE
theorem aoQ{K:aG}{h:Heap}{N:Addr}{m:Str->Option Value}{n:Str}{v:Value}(X:K.In h)(G:h.Ns N m)(e:dR K N n=some (some v)):m n=some v:=by
 obtain⟨o,es,ep,ho,hd,_,hf⟩:=G;unfold dR at e;split at e
 ·rename_i q;have z:=(X _ _ q).symm.trans ho;cases z;cases hd;split at e
  ·rename_i en he;cases e;rw[<-hf,nsFind,findBy,<-akA,he];rfl
  ·split at e <;> cases e
 ·cases e
def af6(C:Addr)(sp:Sp)(E:XK)(ta:TA):TS:=fun _ σ H=>ta σ H fun vs H1=>vs.length<=sizeLine/\∀e,H1 e=none->sp (.ref e::vs) (upd H1 e (vN e C none)) (fun v H2=>v=.non/\∃dd,H2 e=some (vN e C dd)/\E (.ref C) dd (JW H2 e)) E0
section
variable{P:aH}{w:World}{K:aG}{mg:Str->Option Value}{base:Heap}{N:List Str}{qual:Str}{scope:Scope}{f:Addr}{cd:Value}{A:aP}{outer:List Env}{s:Shared}{H:Hp}{E:XK}
theorem ahv{e₀:Expr}{rest:List Expr}{x:Str}{np cpos pos:Pos}{ta:TA}{C fI:Addr}{bmB:List Value}{B newId initId:String}{k:Nat}{fd:FuncData}{ps:List Str}{sp:Sp}(FB:Nf B newId initId bmB)(hx:XI K C fI bmB newId)
  (hf:Bh K (.ref fI)=some (.type "function")) (hk:nP K (.ref C)=true) (F:nA P w K mg base CX0 k fI fd ps sp) (hb:Binds K fd ps []) (hr:fV (k+1) (kj (CXE P w) P w K mg base N qual scope f cd A outer s H E).A)
  (hg:Gl (kj (CXE P w) P w K mg base N qual scope f cd A outer s H E) x) (hm:mg x=some (.ref C)) (ha:PA (kj (CXE P w) P w K mg base N qual scope f cd A outer s H E) (e₀::rest) ta)
  (he:aZ (e₀::rest) (kj (CXE P w) P w K mg base N qual scope f cd A outer s H E).env=(false,eval e₀ (kj (CXE P w) P w K mg base N qual scope f cd A outer s H E).env)::aZ rest (kj (CXE P w) P w K mg base N qual scope f cd A outer s H E).env:=by rfl)
  (hpl:(cY cpos (aZ rest (kj (CXE P w) P w K mg base N qual scope f cd A outer s H E).env)).any (·.1)=false:=by rfl) (hd:(x == ("__debug__" : Str))=false:=by decide):
  PS (kj (CXE P w) P w K mg base N qual scope f cd A outer s H E) (.Raise (some (.Call (.Name x np) (e₀::rest) [] cpos)) none pos) (af6 C sp E ta):=by
 intro pins s1 σ H1 D I h;obtain⟨nm,qn,N',bs,bm,hdc,sn,sub,ab,col,dd,k0,k1,k2,k3,k5,lk,tl,ok,ni⟩:=hx.ob;have hbm:bm.contains (.type "BaseException")=true:=(VJ I.kIn tl).hasType FB.hasBase;rw[arm_exec_Raise];refine aA (M9 (asG (C:=C) (nm:=nm) (q:=qn) (N:=N') (bs:=bs) (bm:=bm) (hd:=hdc) (sn:=sn) (sub:=sub) (ab:=ab) (col:=col) (dd:=dd) (k0:=k0) (k1:=k1) (k2:=k2) (k3:=k3) (k5:=k5) (newId:=newId) hbm (I.ok.hd rfl) (aA (dH (wpAny_Call_ofName (qM I hg hm ?_ hd)) (fun v s3 h3=>aA (M9 (aK h3))) fun _ _ z=>z))));refine MJ (h₀:=base) I.ok.mod.kin hk (thn (ha cpos pins s1 σ H1 _ I h) fun us s2 ⟨vs,H2,I2,r,few,q⟩=>#[I2.kIn,?_]) he hpl;have hN:s2.heap.Ns N' (s2.heap.nsMap N'):=.of_isNs (PySem.W.isNs_of_in I2.kIn ok);obtain⟨oI,ho,hoc⟩:∃o,s2.heap.get? fI=some o/\o.cls=.type "function" := by
  obtain⟨o,h1,h2⟩:=j6.mp hf;show#[o,I2.kIn _ _ h1,h2]
 have ge:s.heap.get? (s2.heap.objs.size+1)=none:=WK (Ny I2.sz);have I3:Inv (kj (CXE P w) P w K mg base N qual scope f cd A outer s H E) pins σ (upd H2 (s2.heap.objs.size+1) (vN (s2.heap.objs.size+1) C none)) { s2 with heap:=abd s2.heap C us }:=
  (I2.kept (t':=s2.toks) (h':=s2.heap.push (ahu us)) fun b u z=>cU _ z).laid (a:=s2.heap.objs.size+1) (o:=vN (s2.heap.objs.size+1) C none) (t':=s2.toks) (fun b u z=>cU _ z) (GF (tR _ _)) (Yk (t:=s2.heap.objs.size) (by heap_get))
 have hq:=q (s2.heap.objs.size+1) (I2.hok.fresh (rB _));have r2:Vals (V.ref (s2.heap.objs.size+1)::vs) (Value.ref (s2.heap.objs.size+1)::us):=.cons rfl r;have hl:(Value.ref (s2.heap.objs.size+1)::us++[]).length=ps.length:=by rw[iH,<-r2.length];exact F.len _ _ _ _ hq
 have hbb:=hb _ (Value.ref (s2.heap.objs.size+1)::us) I3.kIn hl;rw[iH]at hbb;refine xcall FB (VJ I2.kIn tl) (I2.kIn _ _ lk) hN (aoQ I2.kIn hN ni) ho hoc (show us.length<=sizeLine by rw[<-r.length];exact few) ?_;refine nR (Gk (F.run _ _ _ _ #[Value.ref (s2.heap.objs.size+1)::us,[]] _ _ _ E0 (hr.make C us []) (I3.env0.make C us []) hbb r2 hq) fun r s' hq'=>?_);generalize s2.heap.objs.size+1=e at *;cases r with
 |error ev=>exact aaA pins σ _ _ ev s' I3 hq'
 |ok fl =>
  cases fl with
  |next=>exact gH hq'
  |brk=>exact gH hq'
  |cont=>exact gH hq'
  |ret u =>
   obtain ⟨v,H4,I4,rv,ev,d4,q4,hE⟩:=I3.after hq';subst ev;obtain ⟨⟨t4,he4⟩,_,_⟩:=(show cA P w H4 s'.heap e (vN e C d4) from I4.hok e _ q4);show#[rv,e,t4,d4,rfl,I4.kIn _ _ lk,he4,?_];refine dH (yH (Pg _ _) (wpAny_leaving_firstW (base:=Bare s'.heap (fQ qual scope s.heap.objs.size f cd::outer) [e]) (a0:=.ref t4) (Q:=fun _ s5=>∃ h',s5={ s' with heap:=h' }/\Heap.LeftW (Bare s'.heap (fQ qual scope s.heap.objs.size f cd::outer) [e]) (fQ qual scope s.heap.objs.size f cd::outer) e (.ref C) (.ref t4) s'.heap h')
    I4.ok.frames (iJ I4.stack) rfl he4 (fun b o k=>Bf _ k) (xK _ (by simp)) rfl rfl rfl fun h' x=>#[h',rfl,x])) (fun _ s5 z=>?_) fun _ _ z=>z
   obtain⟨⟨h',rfl,x1,x2,x3,x4⟩,dk⟩:=z;have sub:∀b∈frs (fQ qual scope s.heap.objs.size f cd::outer),b∈frs outer\/s.heap.get? b=none:=fun b hb=>by
    rcases aO.mp (I4.Hu b hb)with z|z
    ·refine .inr ?_;rw[z];exact WK I.ok.above
    ·exact .inl z
   have fre:∀b∈frs (fQ qual scope s.heap.objs.size f cd::outer),JW H4 e b=none:=fun b hb=>by
    unfold JW;split
    ·rfl
    ·exact I4.zJ b hb
   obtain⟨r1,r2,T',r3⟩:=HD (g:=s.heap) (H0:=H) (fs:=frs outer) (hid:=[e]) (l:=fQ qual scope s.heap.objs.size f cd::outer) (I4.base.JW q4) (I4.hok.JW q4) I4.stack fre sub (fun b hb=>by obtain rfl:b=e:=(by simpa using hb);show#[zR,ge]) zR ge x1 x4 x3.at he4 rfl dk;show#[e,C,T',d4,_,_,rfl,I4.os,I4.bare,r1,r2,r3,hE]
theorem ahw{n q:Str}{st:Stmt}{e₀:Expr}{rest:List Expr}{x:Str}{np cpos pos:Pos}{ta:TA}{C fI:Addr}{bmB:List Value}{B newId initId:String}{k:Nat}{fd:FuncData}{ps:List Str}{sp:Sp}(FB:Nf B newId initId bmB)(hx:XI K C fI bmB newId)
  (hk:nP K (.ref C)=true) (hm:mg x=some (.ref C)) (F:Mg K C n q st fI fd ps/\nA P w K mg base CX0 k fI fd ps sp) (ha:PA (kj (CXE P w) P w K mg base N qual scope f cd A outer s H E) (e₀::rest) ta)
  (hr:fV (k+1) (kj (CXE P w) P w K mg base N qual scope f cd A outer s H E).A:=by exact fV.mono (by assumption) tb_g%) (hg:Gl (kj (CXE P w) P w K mg base N qual scope f cd A outer s H E) x:=by rfl)
  (he:aZ (e₀::rest) (kj (CXE P w) P w K mg base N qual scope f cd A outer s H E).env=(false,eval e₀ (kj (CXE P w) P w K mg base N qual scope f cd A outer s H E).env)::aZ rest (kj (CXE P w) P w K mg base N qual scope f cd A outer s H E).env:=by rfl)
  (hpl:(cY cpos (aZ rest (kj (CXE P w) P w K mg base N qual scope f cd A outer s H E).env)).any (·.1)=false:=by rfl) (hd:(x == ("__debug__" : Str))=false:=by decide):
  PS (kj (CXE P w) P w K mg base N qual scope f cd A outer s H E) (.Raise (some (.Call (.Name x np) (e₀::rest) [] cpos)) none pos) (af6 C sp E ta):=
 ahv FB hx (beq_iff_eq.mp F.1.m.fn) hk F.2 F.1.b hr hg hm ha he hpl hd
end
end L2
namespace L2
open PySem PySem.Spec PyProof.Rows PySem.Builtin PySem.Builtin.ObjectAttr
def ap3(K:aG)(ta:TE)(f:Str):TE:=fun σ H Q=>ta σ H fun x H1=>∃e C d fs v,x=.ref e/\H1 e=some (Cm e C (some d))/\H1 d=some (.xd fs)/\JV K C/\bM K C f/\xM K C=true/\fs.lookup f=some v/\Q v H1
section
variable{K:aG}{e C:Addr}{o:Obj}{prog:aH}{w:World}{A:aP}{E:Value->Shared->Prop}{s:Shared}{f:Str}{v:Value}
theorem aeV{tk:Tok}{Q:ajx->Shared->Prop}(he:s.heap.get? e=some o)(hc:o.cls=.ref C)(L1:uM (model prog w) s.heap (find (.ref e) (.ref C) f) (.value v))(hq:Q (.done (.ret v)) s):
  wpAny (model prog w) A (dM.«object.__getattribute__» #[[.ref e,.str f tk],[]]) Q E s:=by
 obtain⟨hh,g,dr,t,os⟩:=s;have L0:=jH (M:=model prog w) he hc;unfold dM.«object.__getattribute__»;refine aA (aK (a:=(Value.ref e,[Value.str f tk])) ?_);dsimp only;refine aA (aK (a:=f) ?_);exact aA (L0.at (aA (L1.at (aK hq))))
theorem xget{expr:Bool}{Q:Value->Shared->Prop}(kin:K.In s.heap)(X:JV K C)(he:s.heap.get? e=some o)(hc:o.cls=.ref C)(L:uM (model prog w) s.heap (find (.ref e) (.ref C) f) (.value v))(hv:VN v=true)(hq:Q v { s with toks:=s.toks+1 }):
  wpAny (model prog w) A (Nq (.ref e) f expr) Q E s:=by
 obtain⟨hh,g,dr,t,os⟩:=s;have L0:=jH (M:=model prog w) he hc;have L1:=Bc (M:=model prog w) kin X.ga;have L2:=Bc (M:=model prog w) kin X.gt;have hx2:(Value.builtin "BaseException.__getattribute__" == Value.builtin "object.__getattribute__")=false:=by decide +kernel
 have hb:=F.attr_ValueError.ga.bind (.ref e);unfold Nq;refine aA (ajw ?_);unfold Wr;refine iU (aA (L0.at (aA (L1.at ?_))));dsimp only;rw[hx2,GP,if_neg d9];unfold ai8 hookBefore;rw[if_pos (show ac1 (Value.ref C)=true from rfl)];refine aA (L2.at (aA (Wg (iU ?_))));unfold ai6;rw[show(expr && ac1 (Value.builtin "BaseException.__getattribute__"))=false from GP _,if_neg d9];unfold ajg;rw[hb];refine aA (aK ?_);refine nR (Bj F.attr_ValueError.ga.plain F.entry_bexc_ga (U0 (s:=#[hh,g,dr,t+1,os]) kin X he hc (aeV (s:=#[hh,g,dr,t+1,os]) he hc L ?_)));show wpAny _ _ (handedOut v) _ _ _;rw[PySem.W.handedOut_of hv];exact aK hq
theorem aoR{X:Cx}{ex:Expr}{pos:Pos}{ta:TE}(he:PE X ex ta)(hb:nQ ex f X.env (eval ex X.env)=eval ex X.env):PE X (.Attribute ex f pos) (ap3 X.K ta f):=by
 walk_at "l"
 refine afL hb (thn (he pins s σ H _ I h) fun u s1 zq=>?_);obtain⟨x,H1,I1,rx,e,C,d,fs,v,ev,ee,ed,xc,na,hd,l,q⟩:=zq;subst ev;obtain rfl:u=Value.ref e:=rx;obtain⟨⟨o,o1,o2,o3,vs,o4⟩,_,_⟩:=(show cA X.prog X.w H1 s1.heap e (Cm e C (some d))from I1.hok e _ ee);obtain⟨mA,hn,r⟩:=(show cA X.prog X.w H1 s1.heap d (.xd fs)from I1.hok d _ ed);obtain⟨od,hod,hl⟩:=Ud hn;obtain⟨u,hu,ru⟩:=tZ.some_of (v:=v) (o:=mA f) (by rw[<-l];exact r f);have J:acG s1.heap e o C (some od):=#[o1,o2,by unfold PySem.W.notCls;rw[o4],by rwa[o3]];exact xget I1.kIn xc o1 o2 (PySem.W.looks_find I1.kIn J (aiG hd na rfl (by rw[hl,hu]))) (Ue ru) #[v,H1,I1.tok _,ru,q]
theorem amU{X:Cx}{k:Addr}{ex:Expr}{pos:Pos}{ta:TE}(he:PE (X.marked k) ex ta)(hb:nQ ex f X.env (eval ex X.env)=eval ex X.env):PE (X.marked k) (.Attribute ex f pos) (ap3 X.K ta f):=aoR he hb
end
end L2
namespace L2
open PySem PySem.Spec PyProof.Rows
theorem aeW{X:Cx}:OpR X (jx .Mult) (fun x y H Q=>∃(z:Str)(n:Int)(r:Str),x=.str z/\y=.int n/\(2<=n/\n<=1000)/\(1<=z.length/\z.length<=1000)/\r=#[(gY n.toNat z.cps).foldl (· ++ ·) #[]]/\r.length<=sizeLine/\Q (.str r) H):=by
 walk_at "k"
 obtain⟨z,n,r,rfl,rfl,hn,hz,er,hr,q⟩:=h
 k_dat (t,rx) "F"
 k_dat (t',ry) "F"
 have hm:z.length*n.toNat<=1000*1000:=ac8 hz.2 tb_g%;have tl:aqy (z.length*n.toNat)=false:=decide_eq_false (ajH.mpr (bQ hm tb_g%));refine PySem.P.mul_str (by rw[decide_eq_false tb_g%,decide_eq_false tb_g%];rfl) (fun _ _=>?_) (fun _ _=>tl) ?_
 ·have:(1000:Int)<=(2 ^ 63-1) / n:=(Int.le_ediv_iff_mul_le tb_g%).mpr tb_g%;lia
 ·rw[if_neg tb_g%,if_neg (by simp;constructor <;> lia),<-er];show#[hr,.str r,H,I.tok _,#[_,rfl],q]
end L2
set_option Elab.async false
set_option maxRecDepth 100000
set_option maxHeartbeats 4000000
namespace My
open PySem L2 MG
set_option genInjectivity false in
set_option genSizeOf false in
structure Ad where
 C'0:Addr
 C'1:Addr
 C'2:Addr
 C'3:Addr
 C'4:Addr
 C'5:Addr
 C'6:Addr
 C'7:Addr
 C'8:Addr
 C'9:Addr
 Xj:Addr
 Xk:Addr
 Yl:Addr
 Ym:FuncData
 R9:Addr
 Sg:FuncData
 aoS:Addr
 aoT:FuncData
 Yn:Addr
 Yo:FuncData
 Qc:Addr
 Qd:FuncData
 ahx:Addr
 ahy:FuncData
 amV:Addr
 amW:FuncData
 Ed:Addr
 Yp:FuncData
 abf:Addr
 abg:FuncData
 amX:Addr
 amY:FuncData
 Ah:Addr
 Sq:FuncData
 JX:Addr
 JZ:FuncData
 Yq:Addr
 Yr:FuncData
 Ss:Addr
 Sv:FuncData
 amZ:Addr
 am0:FuncData
 asH:Addr
 asI:FuncData
 wH:Addr
 J0:FuncData
 aeX:Addr
 aeY:FuncData
 Ef:Addr
 Eh:FuncData
 Qe:Addr
 Qf:FuncData
 wI:Addr
 J5:FuncData
 am1:Addr
 am2:FuncData
 ahz:Addr
 ahA:FuncData
 Qg:Addr
 Qh:FuncData
 Qi:Addr
 Qj:FuncData
 aeZ:Addr
 ae0:FuncData
 yR:Addr
 Qk:FuncData
 Sw:Addr
 Sy:FuncData
 Ql:Addr
 Qm:FuncData
 Qn:Addr
 Qo:FuncData
 J6:Addr
 J7:FuncData
 J8:Addr
 J9:FuncData
 wK:Addr
 Ka:FuncData
 aoU:Addr
 aoV:FuncData
 Ys:Addr
 Yt:FuncData
 Yu:Addr
 Yv:FuncData
 SJ:Addr
 SM:FuncData
 ae1:Addr
 ae2:FuncData
 Yw:Addr
 Yx:FuncData
 am3:Addr
 am4:FuncData
 ahB:Addr
 ahC:FuncData
 f_row:Addr
 d_row:FuncData
 Qp:Addr
 Qq:FuncData
 SN:Addr
 SQ:FuncData
 Ia:Addr
 Ib:FuncData
 ahD:Addr
 ahE:FuncData
 yS:Addr
 Qs:FuncData
 asJ:Addr
 asK:FuncData
 abh:Addr
 abj:FuncData
 Yy:Addr
 Yz:FuncData
 Qt:Addr
 Qu:FuncData
 abk:Addr
 abl:FuncData
 ae3:Addr
 ae4:FuncData
 abm:Addr
 abn:FuncData
 am5:Addr
 am6:FuncData
 Kc:Addr
 Kd:FuncData
 Ie:Addr
 Ig:FuncData
 Ei:Addr
 Ej:FuncData
 YB:Addr
 YC:FuncData
 SX:Addr
 S5:FuncData
 Qv:Addr
 Qw:FuncData
 YD:Addr
 YF:FuncData
 Qx:Addr
 Qy:FuncData
 Ih:Addr
 Ii:FuncData
 abo:Addr
 abp:FuncData
 Ke:Addr
 Kf:FuncData
 YG:Addr
 YH:FuncData
 S6:Addr
 S7:FuncData
 Kg:Addr
 Kl:FuncData
 abq:Addr
 abr:FuncData
 Ko:Addr
 Kq:FuncData
 abt:Addr
 abu:FuncData
 YJ:Addr
 YK:FuncData
 Kr:Addr
 Ks:FuncData
 ae5:Addr
 ae6:FuncData
 ap4:Addr
 d_law:FuncData
structure Tx(K:aG)(mg:Str->Option Value)(A:Ad):Prop where
 gO:Cls K A.C'0
 aoW:mg "Rungs" = some (.ref A.C'0)
 agR:Mk K A.C'0 A.Ed
 af7:bM K A.C'0 "room"
 U4:bM K A.C'0 "total"
 U5:bM K A.C'0 "over"
 U6:bM K A.C'0 "under"
 Qz:bM K A.C'0 "turns"
 U7:bM K A.C'0 "least"
 U8:bM K A.C'0 "most"
 U9:bM K A.C'0 "rungs"
 xq:Cls K A.C'1
 am7:mg "Window" = some (.ref A.C'1)
 agS:Mk K A.C'1 A.Ah
 af8:bM K A.C'1 "room"
 af9:bM K A.C'1 "reach"
 QB:bM K A.C'1 "clock"
 Va:bM K A.C'1 "boxes"
 zZ:Cls K A.C'2
 ae7:mg "Distinct" = some (.ref A.C'2)
 agT:Mk K A.C'2 A.wH
 aga:bM K A.C'2 "room"
 Vb:bM K A.C'2 "arrivals"
 Vc:bM K A.C'2 "level"
 Vd:bM K A.C'2 "kept"
 yU:Cls K A.C'3
 ae8:mg "Frequent" = some (.ref A.C'3)
 agU:Mk K A.C'3 A.wI
 agb:bM K A.C'3 "room"
 Ve:bM K A.C'3 "total"
 Vf:bM K A.C'3 "lost"
 Vg:bM K A.C'3 "counts"
 abv:Cls K A.C'4
 ahF:mg "Balance" = some (.ref A.C'4)
 agV:Mk K A.C'4 A.yR
 am8:bM K A.C'4 "span"
 QC:bM K A.C'4 "sums"
 pF:Cls K A.C'5
 QD:mg "Keepsake" = some (.ref A.C'5)
 adY:Mk K A.C'5 A.wK
 agc:bM K A.C'5 "room"
 agd:bM K A.C'5 "reach"
 agf:bM K A.C'5 "span"
 agg:bM K A.C'5 "came"
 agh:bM K A.C'5 "went"
 agi:bM K A.C'5 "up"
 agj:bM K A.C'5 "down"
 agk:bM K A.C'5 "window"
 agl:bM K A.C'5 "seen"
 agm:bM K A.C'5 "balance"
 Vh:mg "BadText" = some (.ref A.C'6)
 Js:mg "KeepError" = some (.ref A.C'7)
 YL:mg "OutOfReach" = some (.ref A.C'8)
 ahG:mg "TooFine" = some (.ref A.C'9)
 YM:mg "TooManyOff" = some (.ref A.Xj)
 am9:mg "Unlike" = some (.ref A.Xk)
 gM:XI K A.C'6 A.yS [.type "ValueError",.type "Exception",.type "BaseException",.type "object"] "ValueError.__new__"
 jD:nP K (.ref A.C'6)=true
 Cz:XS K A.C'6 "line"
 YQ:XB K A.C'7 "ValueError.__init__"
 CG:Catch K A.C'6 A.C'6
 vO:JV K A.C'6
 cT:qp K (.ref A.C'6) (.ref A.C'7)=some true
 cN:qp K (.ref A.C'6) (.type "ValueError")=some true
 jE:acF K (.ref A.C'6) [(.ref A.C'8),(.ref A.C'9),(.ref A.Xj),(.ref A.Xk)]=some false
 vP:Fg K mg "with_thing" uW A.Yl A.Ym ["lists","thing","weight"]
 sH:Fg K mg "left_behind" rG A.R9 A.Sg ["things"]
 YS:Fg K mg "risen" Xh A.aoS A.aoT ["things","turns"]
 vQ:Mg K A.C'0 "turn" "Rungs.turn" uX A.Yn A.Yo Q17
 pG:Mg K A.C'0 "settle" "Rungs.settle" oF A.Qc A.Qd ["self","lists"]
 zT:Fg K mg "greater" Hq A.ahx A.ahy Q11
 Ek:Fg K mg "lesser" Oi A.amV A.amW Q11
 vR:Mg K A.C'0 "__init__" "Rungs.__init__" uY A.Ed A.Yp Q2
 yV:Mg K A.C'0 "add" "Rungs.add" yj A.abf A.abg Q1
 QF:Fg K mg "joined" Oj A.amX A.amY ["boxes","room"]
 sO:Mg K A.C'1 "__init__" "Window.__init__" rH A.Ah A.Sq Q18
 lW:Mg K A.C'1 "settle" "Window.settle" lG A.JX A.JZ ["self","boxes"]
 vU:Mg K A.C'1 "add" "Window.add" uZ A.Yq A.Yr ["self","weight"]
 sS:Mg K A.C'1 "idle" "Window.idle" rJ A.Ss A.Sv Q15
 QG:Fg K mg "spread" Ol A.amZ A.am0 Q10
 ae9:Fg K mg "mark" adW A.asH A.asI Q10
 lY:Mg K A.C'2 "__init__" "Distinct.__init__" lH A.wH A.J0 Q2
 CJ:Fg K mg "of_marks" BX A.aeX A.aeY ["things","level"]
 jj:Mg K A.C'2 "settle" "Distinct.settle" iY A.Ef A.Eh ["self","things"]
 pH:Mg K A.C'2 "add" "Distinct.add" oG A.Qe A.Qf ["self","thing"]
 lZ:Mg K A.C'3 "__init__" "Frequent.__init__" lJ A.wI A.J5 Q2
 QH:Fg K mg "cut_of" Om A.am1 A.am2 ["counts","room"]
 Ij:Fg K mg "lowered" Hr A.ahz A.ahA ["counts","cut"]
 pI:Mg K A.C'3 "fit" "Frequent.fit" oH A.Qg A.Qh ["self","grown"]
 pJ:Mg K A.C'3 "add" "Frequent.add" oK A.Qi A.Qj Q1
 CN:Fg K mg "with_row" BZ A.aeZ A.ae0 ["sums","thing","weight"]
 pK:Mg K A.C'4 "__init__" "Balance.__init__" oM A.yR A.Qk ["self","span"]
 sW:Mg K A.C'4 "put" "Balance.put" rK A.Sw A.Sy Q1
 pL:Mg K A.C'4 "take" "Balance.take" oN A.Ql A.Qm Q1
 pO:Mg K A.C'5 "put" "Keepsake.put" oO A.Qn A.Qo Q1
 mj:Mg K A.C'5 "take" "Keepsake.take" lK A.J6 A.J7 Q1
 mq:Mg K A.C'5 "idle" "Keepsake.idle" lM A.J8 A.J9 Q15
 mD:Mg K A.C'5 "__init__" "Keepsake.__init__" lN A.wK A.Ka Q19
 YT:Fg K mg "_law_mix" Xi A.aoU A.aoV Q20
 gR:Fg K mg "_law_far_back" u9 A.Ys A.Yt []
 vV:Fg K mg "_law_thing_by" vd A.Yu A.Yv Q3
 sX:Fg K mg "_law_weight_by" rM A.SJ A.SM Q3
 CP:Fg K mg "_law_row_by" Ca A.ae1 A.ae2 Q3
 vX:Fg K mg "_law_shape_by" vf A.Yw A.Yx Q3
 QJ:Fg K mg "_law_done" Oo A.am3 A.am4 Q21
 Ik:Fg K mg "figures" Hs A.ahB A.ahC ["number"]
 ana:Fg K mg "row" s_row A.f_row A.d_row ["numbers"]
 pP:Fg K mg "window_words" oR A.Qp A.Qq ["part"]
 sY:Fg K mg "rungs_words" rO A.SN A.SQ ["part"]
 jJ:Fg K mg "frequent_words" jA A.Ia A.Ib ["part"]
 Il:Fg K mg "written" Ht A.ahD A.ahE ["keepsake"]
 pQ:Mg K A.C'6 "__init__" "BadText.__init__" oU A.yS A.Qs ["self","line"]
 afa:Fg K mg "need" adX A.asJ A.asK ["holds","line"]
 yW:Fg K mg "number_of" yp A.abh A.abj Q12
 vY:Fg K mg "numbers_of" vg A.Yy A.Yz Q13
 pR:Fg K mg "sound_bounds" oW A.Qt A.Qu Q22
 yX:Fg K mg "bounds_of" yq A.abk A.abl Q13
 CQ:Fg K mg "words_of" Cd A.ae3 A.ae4 ["lines","line","name"]
 yZ:Fg K mg "signed_of" yr A.abm A.abn Q12
 QK:Fg K mg "parted" Oq A.am5 A.am6 ["words"]
 mF:Fg K mg "rising_things" lO A.Kc A.Kd ["things"]
 jK:Fg K mg "sound_frequent" jB A.Ie A.Ig ["frequent","things"]
 jk:Fg K mg "stand_for_total" iZ A.Ei A.Ej ["rungs"]
 vZ:Fg K mg "sound_list" vh A.YB A.YC Q16
 sZ:Fg K mg "sound_rungs" rP A.SX A.S5 ["rungs"]
 pU:Fg K mg "sound_places" oX A.Qv A.Qw Q14
 v7:Fg K mg "sound_sums" vm A.YD A.YF Q14
 pW:Fg K mg "sound_window" oY A.Qx A.Qy Q14
 jL:Fg K mg "sound_distinct" jC A.Ih A.Ii ["distinct"]
 za:Fg K mg "read_keep" yt A.abo A.abp Q13
 mG:Fg K mg "read_frequent" lQ A.Ke A.Kf ["frequent","words","line"]
 v8:Fg K mg "read_rungs" vo A.YG A.YH ["rungs","words","line"]
 tu:Fg K mg "read_window" rQ A.S6 A.S7 ["window","words","line"]
 mH:Fg K mg "read_distinct" lR A.Kg A.Kl ["distinct","words","line"]
 zc:Fg K mg "read_sums" yu A.abq A.abr Q23
 fC:Fg K mg "read_keepsake" lU A.Ko A.Kq ["text"]
 zf:Fg K mg "_law_refused" yw A.abt A.abu ["_law_text","_law_line"]
 v9:Fg K mg "_law_bad_word" vp A.YJ A.YK ["_law_cell","_law_at"]
 mJ:Fg K mg "_law_line_spoilt" lV A.Kr A.Ks ["_law_line","_law_at","_law_cell"]
 CT:Fg K mg "_law_spoilt" Ce A.ae5 A.ae6 ["_law_lines","_law_cell"]
 anb:Fg K mg "law" ald A.ap4 A.d_law ["_law_script"]
 YW:mg "ValueError" = none
 n_abs:mg "abs" = none
 agn:mg "all" = none
 asL:mg "bool" = none
 anc:mg "dict" = none
 ap5:mg "int" = none
 jm:mg "isinstance" = none
 ap6:mg "len" = none
 YX:mg "list" = none
 ane:mg "max" = none
 anf:mg "min" = none
 aoX:mg "range" = none
 pY:mg "reversed" = none
 uq:mg "sorted" = none
 n_str:mg "str" = none
 ap7:mg "sum" = none
 ang:mg "zip" = none
 ahH:∃u,mg "FIGURES" = some u/\RelV (.str "0123456789") u
 YZ:∃u,mg "LEAST_ROOM" = some u/\RelV (.int 2) u
 aoY:∃u,mg "LINES" = some u/\RelV (.int 8) u
 afb:∃u,mg "MOST" = some u/\RelV (.int 1152921504606846976) u
 QL:∃u,mg "MOST_FIGURES" = some u/\RelV (.int 60) u
 Ku:∃u,mg "MOST_HALVINGS" = some u/\RelV (.int 60) u
 Y0:∃u,mg "MOST_LEVEL" = some u/\RelV (.int 60) u
 Y4:∃u,mg "MOST_REACH" = some u/\RelV (.int 1000000000) u
 abw:∃u,mg "MOST_ROOM" = some u/\RelV (.int 64) u
 abx:∃u,mg "MOST_SPAN" = some u/\RelV (.int 1000000000) u
 aoZ:∃u,mg "PIECE" = some u/\RelV (.int 1000000000000000000000000000000) u
 Kv:∃u,mg "PIECE_FIGURES" = some u/\RelV (.int 30) u
 anh:∃u,mg "SPREAD" = some u/\RelV (.int 770093176312745717) u
 ahI:qp K (.type "int") (.type "int")=some true
 afc:qp K (.type "int") (.type "bool")=some false
variable{P:aH}{w:World}{K:aG}{mg:Str->Option Value}{base:Heap}{A:Ad}
local macro_rules | `(tactic| walk_at "sc") => `(tactic| exact ⟨rfl, rfl, rfl, by decide +kernel, rfl, by decide +kernel, by decide +kernel⟩)
theorem Ai:aF ["lists","thing","weight","grown","place","bits"] ["lists","thing","weight"] (aq uW):=by walk_at "sc"
theorem QM:aF ["things"] ["things"] (aq rG):=by walk_at "sc"
theorem ani:aF ["things","turns"] ["things","turns"] (aq Xh):=by walk_at "sc"
theorem S8:aF Q17 Q17 (aq uX):=by walk_at "sc"
theorem wL:aF ["self","lists","settled","place","stands_for","things"] ["self","lists"] (aq oF):=by walk_at "sc"
theorem CV:aF ["one","other","known"] Q11 (aq Hq):=by walk_at "sc"
theorem Im:aF ["one","other","known"] Q11 (aq Oi):=by walk_at "sc"
theorem S9:aF Q2 Q2 (aq uY):=by walk_at "sc"
theorem Y5:aF Q1 Q1 (aq yj):=by walk_at "sc"
theorem Vi:aF ["boxes","room","done","newer","at_hand","box"] ["boxes","room"] (aq Oj):=by walk_at "sc"
theorem QS:aF Q18 Q18 (aq rH):=by walk_at "sc"
theorem gU:aF ["self","boxes","edge","within"] ["self","boxes"] (aq lG):=by walk_at "sc"
theorem Tc:aF ["self","weight"] ["self","weight"] (aq uZ):=by walk_at "sc"
theorem QT:aF Q15 Q15 (aq rJ):=by walk_at "sc"
theorem ahJ:aF Q10 Q10 (aq Ol):=by walk_at "sc"
theorem ago:aF ["thing","rest","halvings"] Q10 (aq adW):=by walk_at "sc"
theorem Io:aF Q2 Q2 (aq lH):=by walk_at "sc"
theorem aby:aF ["things","level"] ["things","level"] (aq BX):=by walk_at "sc"
theorem pZ:aF ["self","things","left"] ["self","things"] (aq iY):=by walk_at "sc"
theorem Kw:aF ["self","thing"] ["self","thing"] (aq oG):=by walk_at "sc"
theorem Ip:aF Q2 Q2 (aq lJ):=by walk_at "sc"
theorem Vj:aF ["counts","room","falling"] ["counts","room"] (aq Om):=by walk_at "sc"
theorem QV:aF ["counts","cut","left","thing","count"] ["counts","cut"] (aq Hr):=by walk_at "sc"
theorem wM:aF ["self","grown","cut"] ["self","grown"] (aq oH):=by walk_at "sc"
theorem wO:aF ["self","thing","weight","grown"] Q1 (aq oK):=by walk_at "sc"
theorem Jt:aF ["sums","thing","weight","grown","share","held"] ["sums","thing","weight"] (aq BZ):=by walk_at "sc"
theorem Ky:aF ["self","span"] ["self","span"] (aq oM):=by walk_at "sc"
theorem QW:aF Q1 Q1 (aq rK):=by walk_at "sc"
theorem KC:aF Q1 Q1 (aq oN):=by walk_at "sc"
theorem KD:aF Q1 Q1 (aq oO):=by walk_at "sc"
theorem Ir:aF Q1 Q1 (aq lK):=by walk_at "sc"
theorem Iu:aF Q15 Q15 (aq lM):=by walk_at "sc"
theorem Iv:aF Q19 Q19 (aq lN):=by walk_at "sc"
theorem anj:aF Q20 Q20 (aq Xi):=by walk_at "sc"
theorem Aj:aF ["_law_way","_law_turn"] [] (aq u9):=by walk_at "sc"
theorem Ak:aF ["_law_cell","_law_how","_law_high"] Q3 (aq vd):=by walk_at "sc"
theorem QX:aF Q3 Q3 (aq rM):=by walk_at "sc"
theorem Ju:aF ["_law_cell","_law_kind","_law_thing","_law_weight"] Q3 (aq Ca):=by walk_at "sc"
theorem Am:aF ["_law_cell","_law_room","_law_reach","_law_span"] Q3 (aq vf):=by walk_at "sc"
theorem ahK:aF Q21 Q21 (aq Oo):=by walk_at "sc"
theorem QZ:aF ["number","pieces","rest"] ["number"] (aq Hs):=by walk_at "sc"
theorem asM:aF ["numbers"] ["numbers"] (aq s_row):=by walk_at "sc"
theorem wQ:aF ["part","numbers","box"] ["part"] (aq oR):=by walk_at "sc"
theorem zj:aF ["part","numbers","words","things"] ["part"] (aq rO):=by walk_at "sc"
theorem qP:aF ["part","numbers","thing"] ["part"] (aq jA):=by walk_at "sc"
theorem Q0:aF ["keepsake","lines"] ["keepsake"] (aq Ht):=by walk_at "sc"
theorem KH:aF ["self","line"] ["self","line"] (aq oU):=by walk_at "sc"
theorem ao0:aF ["holds","line"] ["holds","line"] (aq adX):=by walk_at "sc"
theorem Y6:aF Q12 Q12 (aq yp):=by walk_at "sc"
theorem Td:aF Q13 Q13 (aq vg):=by walk_at "sc"
theorem KJ:aF Q22 Q22 (aq oW):=by walk_at "sc"
theorem El:aF ["words","line","numbers"] Q13 (aq yq):=by walk_at "sc"
theorem Jv:aF ["lines","line","name","words"] ["lines","line","name"] (aq Cd):=by walk_at "sc"
theorem En:aF ["word","line","number"] Q12 (aq yr):=by walk_at "sc"
theorem Vk:aF ["words","groups","word"] ["words"] (aq Oq):=by walk_at "sc"
theorem uw:aF ["things","rising"] ["things"] (aq lO):=by walk_at "sc"
theorem jo:aF ["frequent","things","counts"] ["frequent","things"] (aq jB):=by walk_at "sc"
theorem p8:aF ["rungs","weight","things"] ["rungs"] (aq iZ):=by walk_at "sc"
theorem Te:aF Q16 Q16 (aq vh):=by walk_at "sc"
theorem Q5:aF ["rungs"] ["rungs"] (aq rP):=by walk_at "sc"
theorem wR:aF ["window","ahead","first","last","weight"] Q14 (aq oX):=by walk_at "sc"
theorem Ao:aF ["window","newer","neighbour","first","last","weight"] Q14 (aq vm):=by walk_at "sc"
theorem KN:aF Q14 Q14 (aq oY):=by walk_at "sc"
theorem qQ:aF ["distinct","fewest"] ["distinct"] (aq jC):=by walk_at "sc"
theorem Eo:aF ["words","line","numbers"] Q13 (aq yt):=by walk_at "sc"
theorem ux:aF ["frequent","words","line","numbers","things"] ["frequent","words","line"] (aq lQ):=by walk_at "sc"
theorem Aq:aF ["rungs","words","line","groups","numbers"] ["rungs","words","line"] (aq vo):=by walk_at "sc"
theorem zm:aF ["window","words","line","numbers"] ["window","words","line"] (aq rQ):=by walk_at "sc"
theorem uy:aF ["distinct","words","line","numbers"] ["distinct","words","line"] (aq lR):=by walk_at "sc"
theorem Y7:aF Q23 Q23 (aq yu):=by walk_at "sc"
theorem uz:aF ["text","lines","keepsake"] ["text"] (aq lU):=by walk_at "sc"
theorem nH:aF ["_law_text","_law_line","_law_told","e"] ["_law_text","_law_line"] (aq yw):=by walk_at "sc"
theorem Ar:aF ["_law_cell","_law_at","_law_bad"] ["_law_cell","_law_at"] (aq vp):=by walk_at "sc"
theorem uD:aF ["_law_line","_law_at","_law_cell","_law_words","_law_how","_law_rest","_law_place","_law_heads","_law_head"] ["_law_line","_law_at","_law_cell"] (aq lV):=by walk_at "sc"
theorem Jw:aF ["_law_lines","_law_cell","_law_at","_law_how","_law_rest","_law_spoilt_here"] ["_law_lines","_law_cell"] (aq Ce):=by walk_at "sc"
theorem ank:aF ["_law_script","_law_room","_law_reach","_law_span","_law_keepsake","_law_cell","_law_note","_law_text","_law_line"] ["_law_script"] (aq ald):=by walk_at "sc"
seal PSs PS PE PA PT PW PG PGs PI PO PTs OpR IxR
set_option hygiene false in
local macro_rules | `(tactic| k_dat ([$xs,*], [$ys,*], [$zs,*]) "p") => `(tactic| (
 repeat' first $[| ((first | apply cpE | apply cpS | apply cpN);refine' $zs)]* $[| apply $xs]* | apply aM | apply cR | apply pv | apply Hv | apply pf | apply Dt | apply uc | apply afG | apply pe_op | apply psS | apply ad3 | apply Xo | apply apK | apply ar3 | apply zL | apply Du | apply alH | apply aat | apply alh | apply Xr | apply pgN | apply OJ | apply afH | apply alk | apply aak | apply ad0 | apply arT | apply pw_or | apply pw_or1 | apply pw_and | apply pw_and1 | apply pwB | apply ali | apply ad2 | apply arR | apply arQ | apply pe_un | apply aoh | apply aoi | apply alD | apply je | apply arU | apply arV | apply aob | apply arW | apply apM | apply op_le | apply apO | apply alv | apply aao | apply apL | apply aol | apply arY | apply ixG | apply alB | exact gi 0 | exact gi 1 | exact gi 2 | exact gi 3 | exact gi 4 | exact gi 5 | exact gi 6 | exact gi 7 | exact gi 8 | exact rfl | exact vB _ | exact fun _=>rfl | exact fun _ _=>rfl | exact .inl rfl | exact .inr rfl | exact .inr (.inl rfl) | exact .inr (.inr rfl) | exact hr.mono tb_g% | exact alN hr | exact hr.units | decide +kernel | with_unfolding_all rfl $[| refine' $ys]* | refine' alr adQ rfl ?_ ?_ ?_ | refine' alo adQ ?_ ?_ | refine' arS ?_ ?_ (setG tb_g%) | refine' cV Uo (by rfl) T.ap6 ajh ?_ | refine' mR N8 akr aks Hy ?_ ?_))
local macro_rules | `(tactic| k_dat $a "h") => `(tactic| (
 first | show#[$a] | (rotate_left;k_dat $a "h")))
inductive Ex2 {a0 a1:Type} (P:a0->a1->Prop):Prop
 |k x0 x1:P x0 x1->Ex2 P
inductive Ex3 {a0 a1 a2:Type} (P:a0->a1->a2->Prop):Prop
 |k x0 x1 x2:P x0 x1 x2->Ex3 P
inductive Ex4 {a0 a1 a2 a3:Type} (P:a0->a1->a2->a3->Prop):Prop
 |k x0 x1 x2 x3:P x0 x1 x2 x3->Ex4 P
inductive Ex5 {a0 a1 a2 a3 a4:Type} (P:a0->a1->a2->a3->a4->Prop):Prop
 |k x0 x1 x2 x3 x4:P x0 x1 x2 x3 x4->Ex5 P
inductive Ex6 {a0 a1 a2 a3 a4 a5:Type} (P:a0->a1->a2->a3->a4->a5->Prop):Prop
 |k x0 x1 x2 x3 x4 x5:P x0 x1 x2 x3 x4 x5->Ex6 P
inductive Ex7 {a0 a1 a2 a3 a4 a5 a6:Type} (P:a0->a1->a2->a3->a4->a5->a6->Prop):Prop
 |k x0 x1 x2 x3 x4 x5 x6:P x0 x1 x2 x3 x4 x5 x6->Ex7 P
inductive Ex8 {a0 a1 a2 a3 a4 a5 a6 a7:Type} (P:a0->a1->a2->a3->a4->a5->a6->a7->Prop):Prop
 |k x0 x1 x2 x3 x4 x5 x6 x7:P x0 x1 x2 x3 x4 x5 x6 x7->Ex8 P
inductive tD (A0 A1 A2:Prop):Prop
 |k:A0->A1->A2->tD A0 A1 A2
inductive z7 (A0 A1 A2 A3:Prop):Prop
 |k:A0->A1->A2->A3->z7 A0 A1 A2 A3
inductive abz (A0 A1 A2 A3 A4:Prop):Prop
 |k:A0->A1->A2->A3->A4->abz A0 A1 A2 A3 A4
inductive KQ (A0 A1 A2 A3 A4 A5:Prop):Prop
 |k:A0->A1->A2->A3->A4->A5->KQ A0 A1 A2 A3 A4 A5
inductive abA (A0 A1 A2 A3 A4 A5 A6:Prop):Prop
 |k:A0->A1->A2->A3->A4->A5->A6->abA A0 A1 A2 A3 A4 A5 A6
inductive Ep (A0 A1 A2 A3 A4 A5 A6 A7:Prop):Prop
 |k:A0->A1->A2->A3->A4->A5->A6->A7->Ep A0 A1 A2 A3 A4 A5 A6 A7
set_option genSizeOf false
set_option genInjectivity false
theorem lX{Y:Cx}{b:List Stmt}{D:Ends}{σ:St}{H:Hp}(h:let X:=Y.nox;∃t,PSs X b t/\t D σ H):∃t,PSs Y.nox b t/\t D σ H:=h
theorem lq{t u:TS}{D:Ends}{σ:St}{H:Hp}(h:let u':=u;let D':=D;let σ':=σ;Ds t u' D' σ' H):Ds t u D σ H:=h
theorem lqn{t u:TS}{D:Ends}{r:VK}{b c:St->Hp->Prop}{σ:St}{H:Hp}(h:let u':=u;let D':=D;let σ':=σ;Ds t u' D' σ' H):Ends.nx #[Ds t u D,r,b,c] σ H:=h
theorem lqg{t u:TS}{i:Nat}{x:V}{D:Ends}{r:VK}{b c:St->Hp->Prop}{σ:St}{H:Hp}(h:let u':=u;let D':=D;let σ':=σ.set i (some x);Ds t u' D' σ' H):o8 i x σ H (Ends.nx #[Ds t u D,r,b,c]):=h
theorem lrr{t u:TS}{D:Ends}{σ:St}{H:Hp}(h:let u':=u;let D':=D;Ds t u' D' σ H):Ds t u D σ H:=h
theorem lrg{t u:TS}{i:Nat}{x:V}{D:Ends}{r:VK}{b c:St->Hp->Prop}{σ:St}{H:Hp}(h:let u':=u;let D':=D;Ds t u' D' (σ.set i (some x)) H):o8 i x σ H (Ends.nx #[Ds t u D,r,b,c]):=h
theorem ld{t:TS}{D:Ends}{σ:St}{H:Hp}(h:let D':=D;let σ':=σ;t D' σ' H):t D σ H:=h
local macro_rules|`(tactic|k_dat $l "c")=>`(tactic|(refine $l ?_;intros))
structure Fd(K:aG)(C:Addr)(f:Str)(fs:List (Str × V))(v:V):Prop where
 c:Cls K C
 n:bM K C f
 l:fs.lookup f=some v
theorem rdG{K:aG}{Q:VK}{H:Hp}{a C dx:Addr}{fs:List (Str × V)}{f:Str}{v:V}(h:H a=some (.ins C dx fs))(d:Fd K C f fs v)(q:Q v H):rFld K f (.ref a) H Q:=rdF h d.c d.n d.l q
theorem nwA{G:Hp}{c:Addr}{o:HO}{P:Hp->Prop}(n:G c=none)(h:∀G',Same G G'->G' c=some o->P G'):∀G',upd G c o=G'->P G':=fun _ e=>e ▸ h _ (Same.new n) aj
theorem nbA{G:Hp}{c:Addr}{o:HO}{P:Hp->Prop}(h:∀G',But c G G'->G' c=some o->P G'):∀G',upd G c o=G'->P G':=fun _ e=>e ▸ h _ But.upd aj
theorem nsA{H G:Hp}{c:Addr}{o:HO}{P:Hp->Prop}(s:Same H G)(n:H c=none)(h:∀G',Same H G'->G' c=some o->P G'):∀G',upd G c o=G'->P G':=fun _ e=>e ▸ h _ (fun b o e=>by rw[ao (ak e n)];exact s b o e) aj
set_option hygiene false in
local macro_rules|`(tactic|k_dat ($a,$b,$c) "f")=>`(tactic|(refine ⟨$a,$b $c (fun vs H Q E h=>?_) (fun cdv B outer s H vs Q E hr h=>lX ?_)⟩;(repeat (cases h;rename_i h));subst_vars;rfl;intro X))
local macro_rules|`(tactic|k_dat ($l,$g:ident,$s:ident,$f:ident) "n")=>`(tactic|(generalize e:upd _ _ _=$g:ident;revert $g:ident e;refine $l ?_;intro $g:ident $s:ident $f:ident))
def anl(K:aG):Sp:=fun vs H Q _=>Ex2 fun(a:Addr) (ns:List Int)=>z7 (vs=[.ref a]) (SqL K H a (ns.map V.int)) (ns.length<=63) (∀H',Q (.bl true) H')
theorem sq{t u:TS}{D:Ends}{σ:St}{H:Hp}(h:∀R:St->Hp->Prop,(∀σ H,u D σ H->R σ H)->t { D with nx:=R } σ H):Ds t u D σ H:=h (u D) fun _ _ z=>z
local macro_rules | `(tactic| walk_at "rec") => `(tactic| repeat first | rw [amy] | rw [aoJ] | (rw [aoK ?h]; (case h => decide +kernel)))
def rg(au aU bJ aV aW aX bK aY:V):List (Str × V):=[("room",au),("total",aU),("over",bJ),("under",aV),("turns",aW),("least",aX),("most",bK),("rungs",aY)]
theorem Y8{K:aG}{mg:Str->Option Value}{A:Ad}{au aU bJ aV aW aX bK aY:V}(T:Tx K mg A):Fd K A.C'0 ("room" : Str) (rg au aU bJ aV aW aX bK aY) au:=#[T.gO,T.af7,rfl]
theorem gh{K:aG}{mg:Str->Option Value}{A:Ad}{au aU bJ aV aW aX bK aY:V}(T:Tx K mg A):Fd K A.C'0 ("total" : Str) (rg au aU bJ aV aW aX bK aY) aU:=#[T.gO,T.U4,rfl]
theorem Mh{K:aG}{mg:Str->Option Value}{A:Ad}{au aU bJ aV aW aX bK aY:V}(T:Tx K mg A):Fd K A.C'0 ("over" : Str) (rg au aU bJ aV aW aX bK aY) bJ:=#[T.gO,T.U5,rfl]
theorem Er{K:aG}{mg:Str->Option Value}{A:Ad}{au aU bJ aV aW aX bK aY:V}(T:Tx K mg A):Fd K A.C'0 ("under" : Str) (rg au aU bJ aV aW aX bK aY) aV:=#[T.gO,T.U6,rfl]
theorem qg{K:aG}{mg:Str->Option Value}{A:Ad}{au aU bJ aV aW aX bK aY:V}(T:Tx K mg A):Fd K A.C'0 ("turns" : Str) (rg au aU bJ aV aW aX bK aY) aW:=#[T.gO,T.Qz,rfl]
theorem zp{K:aG}{mg:Str->Option Value}{A:Ad}{au aU bJ aV aW aX bK aY:V}(T:Tx K mg A):Fd K A.C'0 ("least" : Str) (rg au aU bJ aV aW aX bK aY) aX:=#[T.gO,T.U7,rfl]
theorem zU{K:aG}{mg:Str->Option Value}{A:Ad}{au aU bJ aV aW aX bK aY:V}(T:Tx K mg A):Fd K A.C'0 ("most" : Str) (rg au aU bJ aV aW aX bK aY) bK:=#[T.gO,T.U8,rfl]
theorem kW{K:aG}{mg:Str->Option Value}{A:Ad}{au aU bJ aV aW aX bK aY:V}(T:Tx K mg A):Fd K A.C'0 ("rungs" : Str) (rg au aU bJ aV aW aX bK aY) aY:=#[T.gO,T.U9,rfl]
theorem asN(au aU bJ aV aW aX bK aY:V):bU "rungs" aY (bU "most" bK (bU "least" aX (bU "turns" aW (bU "under" aV (bU "over" bJ (bU "total" aU (bU "room" au [])))))))=rg au aU bJ aV aW aX bK aY:=by
 unfold rg
 walk_at "rec"
theorem Es(au aU bJ aV aW aX bK aY y:V):bU "total" y (rg au aU bJ aV aW aX bK aY)=rg au y bJ aV aW aX bK aY:=by
 unfold rg
 walk_at "rec"
theorem Jx(au aU bJ aV aW aX bK aY y:V):bU "over" y (rg au aU bJ aV aW aX bK aY)=rg au aU y aV aW aX bK aY:=by
 unfold rg
 walk_at "rec"
theorem Et(au aU bJ aV aW aX bK aY y:V):bU "under" y (rg au aU bJ aV aW aX bK aY)=rg au aU bJ y aW aX bK aY:=by
 unfold rg
 walk_at "rec"
theorem wg(au aU bJ aV aW aX bK aY y:V):bU "turns" y (rg au aU bJ aV aW aX bK aY)=rg au aU bJ aV y aX bK aY:=by
 unfold rg
 walk_at "rec"
theorem Eu(au aU bJ aV aW aX bK aY y:V):bU "least" y (rg au aU bJ aV aW aX bK aY)=rg au aU bJ aV aW y bK aY:=by
 unfold rg
 walk_at "rec"
theorem Jy(au aU bJ aV aW aX bK aY y:V):bU "most" y (rg au aU bJ aV aW aX bK aY)=rg au aU bJ aV aW aX y aY:=by
 unfold rg
 walk_at "rec"
theorem Ew(au aU bJ aV aW aX bK aY y:V):bU "rungs" y (rg au aU bJ aV aW aX bK aY)=rg au aU bJ aV aW aX bK y:=by
 unfold rg
 walk_at "rec"
theorem rgN{au aU bJ aV aW aX bK aY:V}{m:Str}(h:m∉[("room" : Str),("total" : Str),("over" : Str),("under" : Str),("turns" : Str),("least" : Str),("most" : Str),("rungs" : Str)]):(rg au aU bJ aV aW aX bK aY).lookup m=none:=by
 simp only[aO,gB,or_false,not_or]at h;obtain⟨CW,ao1,asO,ao2,ao3,ao4,asQ,ao5⟩:=h;unfold rg;rw[cg CW,cg ao1,cg asO,cg ao2,cg ao3,cg ao4,cg asQ,cg ao5];rfl
def oV:Option Int->V
 |none=>.non
 |some i=>.int i
structure LL(H:Hp)(a:Addr)(bs:List Addr)(ls:RG.Ls):Prop where
 o:H a=some (.lst (bs.map V.ref))
 n:bs.length=ls.length
 e:∀(i:Nat)(b:Addr)(l:List Int),bs[i]? = some b->ls[i]? = some l->H b=some (.lst (l.map V.int))
 x:a∉bs
section
variable{H H':Hp}{a c:Addr}{bs:List Addr}{ls:RG.Ls}{m:List Int}{i:Nat}
theorem LL.same(h:LL H a bs ls)(s:Same H H'):LL H' a bs ls:=#[s _ _ h.o,h.n,fun i b l e1 e2=>s _ _ (h.e i b l e1 e2),h.x]
theorem LL.at(h:LL H a bs ls)(hi:i<ls.length):∃b l,bs[i]? = some b/\ls[i]? = some l/\H b=some (.lst (l.map V.int)):=by
 have hb:i<bs.length:=by rwa[h.n]
 show#[bs[i],ls[i],eU hb,eU hi,h.e i _ _ (eU hb) (eU hi)]
theorem LL.ix{b:Addr}(h:bs[i]? = some b):atI (bs.map V.ref) (i:Int)=some (.ref b):=cZ (by rw[dF,h];rfl)
theorem zV{n j:Nat}(h:j<n):ixN n (j:Int)=some j:=by
 unfold ixN;rw[if_pos tb_g%,if_pos tb_g%];simp
theorem LL.set(h:LL H a bs ls)(hc:H c=some (.lst (m.map V.int)))(nc:c≠a):LL (upd H a (.lst ((bs.map V.ref).set i (.ref c)))) a (bs.set i c) (ls.set i m):=by
 show#[by rw[aj,acu],by rw[iI,iI,h.n],fun j b l e1 e2=>?_,fun z=>?_]
 ·by_cases ij:i=j
  ·subst ij;rw[List.getElem?_set]at e1 e2;rw[if_pos rfl]at e1 e2;split at e1
   ·split at e2
    ·obtain rfl:=bN e1;obtain rfl:=bN e2;rwa[ao nc]
    ·cases e2
   ·cases e1
  ·rw[Dh ij]at e1 e2;have nb:b≠a:=fun z=>h.x (by rw[<-z];exact xj e1);rw[ao nb];exact h.e j b l e1 e2
 ·rcases z9 z with y|y
  ·exact h.x y
  ·exact nc y.symm
theorem LL.app(h:LL H a bs ls)(hc:H c=some (.lst (m.map V.int)))(nc:c≠a):LL (upd H a (.lst (bs.map V.ref++[.ref c]))) a (bs++[c]) (ls++[m]):=by
 show#[by rw[aj,bG];rfl,by rw[bB,bB,h.n];rfl,fun j b l e1 e2=>?_,fun z=>?_]
 ·rcases iz j bs.length with lt|ge
  ·rw[tK lt]at e1;rw[tK (by rw[<-h.n];exact lt)]at e2;have nb:b≠a:=fun z=>h.x (by rw[<-z];exact xj e1);rw[ao nb];exact h.e j b l e1 e2
  ·rw[xr ge]at e1;rw[xr (by rwa[<-h.n]),<-h.n]at e2;obtain e:j-bs.length=0:=by
    have:=(fu.mp e1).1;have:j-bs.length<1:=this;lia
   rw[e]at e1 e2;obtain rfl:=bN e1;obtain rfl:=bN e2;rwa[ao nc]
 ·rcases cF.mp z with y|y
  ·exact h.x y
  ·exact nc (cI.mp y).symm
theorem LL.copy{g:Addr}(h:LL H a bs ls)(hg:H g=none):LL (upd H g (.lst (bs.map V.ref))) g bs ls:=by
 have s:Same H (upd H g (.lst (bs.map V.ref))):=Same.new hg;show#[aj,h.n,(h.same s).e,fun z=>?_];obtain⟨i,hi,e⟩:=List.mem_iff_getElem.mp z;obtain⟨b,l,e1,_,e3⟩:=h.at (i:=i) (by rwa[<-h.n]);rw[eU hi,e]at e1;obtain rfl:=bN e1
 k_dat (hg,e3) "I"
end
def asR(σ:St)(_:Hp):Nat:=match σ with
 |[_,_,_,_,_,some (.int n)]=>n.toNat
 |_=>0
def ao6:Sp:=fun vs H Q _=>Ex5 fun(a:Addr) (bs:List Addr) (ls:RG.Ls) (t w:Int)=>abA (vs=[.ref a,.int t,.int w]) (LL H a bs ls) (0<=w) (w<2 ^ 64) (ls.length<=800) ((∀l∈ls,l.length<=62)) (∀(g:Addr)(bs':List Addr)(H':Hp),H g=none->LL H' g bs' (RG.fH t ls w.toNat)->Same H H'->(∀c∈bs',c∈bs\/H c=none)->Q (.ref g) H')
theorem Tf(T:Tx K mg A):FnK P w base T.vP CX0 1 ao6:=by
 k_dat (T.vP,T.vP.ok,Ai) "f"
 ·obtain⟨a,bs0,ls,t,w,rfl,hL,w0,w64,hn,h9,q⟩:=h;have w64':w.toNat<2 ^ 64:=by lia
  show#[_,by (k_dat ([hdA],[Ai.nd,ud (O5 rfl) (by rfl) T.YX akc ?_,cV (jg rfl) (by rfl) T.uq N5 ?_],[]) "p"; k_dat pq "h"; k_dat je "h"),?_];show#[_,rfl,.inl #[a,_,rfl,.inl (.inl (.inl hL.o)),fun g hg=>?_]];have L0:=hL.copy hg;have s0:Same H (upd H g (.lst (bs0.map V.ref))):=Same.new hg;generalize upd H g (.lst (bs0.map V.ref))=H1 at L0 s0 ⊢
  k_dat lqg "c"
  show#[_,rfl,?_]
  k_dat lqg "c"
  refine yD (fun σ G=>Ex4 fun(bs:List Addr) (ms:RG.Ls) (p k:Nat)=>Ep (σ=[some (.ref a),some (.int t),some (.int w),some (.ref g),some (.int (p:Int)),some (.int (k:Int))]) (LL G g bs ms) (Same H G) (p<=ms.length) (ms.length<=800) (k*2 ^ p<=w.toNat) (ms.take p++RG.fH t (ms.drop p) k=RG.fH t ls w.toNat) ((∀l∈ms.drop p,l.length<=62)/\∀c∈bs,c∈bs0\/H c=none)) asR
   #[bs0,ls,0,w.toNat,by rw[GQ w0];rfl,L0,s0,cJ _,hn,by rw[WR];lia,rfl,h9,fun c hc=>.inl hc] ?_ ?_
  ·rintro σ G ⟨bs,ms,p,k,rfl,L,sG,hp,h8,kp,eq,b9,fr⟩;show#[_,rfl,_,_,rfl,rfl,_,rfl,cD (fun hc=>?_) (fun hc=>?_)]
   ·k_dat lq "c"
    have k0:0<k:=by have:=of_decide_eq_true hc;lia
    have p64:p<=63:=by
     rcases iz p (63+1)with z|z
     ·lia
     ·have h1:=Nu (show 0<2 by decide) z;have h2:=Dj (2 ^ p) k0;lia
    show#[_,rfl,_,rfl,cj (.inl (.inl L.o)) #[rfl,_,rfl,cD (fun he=>?_) (fun he=>?_)]]
    ·have he:p=ms.length:=by
      have:=V.int.inj (of_decide_eq_true he);rw[aC,L.n]at this;lia
     show#[_,rfl,.inl #[rfl,_,.inl (.inl L.o)],tb_g%,fun c hc=>?_]
     k_dat (nwA hc,G1,s1,f1) "n"
     have f1:G1 c=some (.lst (([]:List Int).map V.int)):=f1;have nc:c≠g:=aL (ak L.o hc);show#[g,_,_,rfl,rfl,s1 _ _ L.o,aQ (by rw[aC,L.n];lia),?_];have L2:=(L.same s1).app f1 nc;have s2:Same H (upd G1 g (.lst (bs.map V.ref++[.ref c]))):=fun b o e=>by rw[ao (ak e hg)];exact s1 _ _ (sG b o e)
     generalize upd G1 g (.lst (bs.map V.ref++[.ref c]))=GX at L2 s2 ⊢
     k_dat lqn "c"
     have lp:p<(ms++[[]]).length:=by rw[bB];show p<ms.length+1;lia
     have lp8:(ms++[[]]).length<=800:=by rw[bB];show ms.length+1<=800;lia
     have b92:∀l∈(ms++[[]]).drop p,l.length<=62:=fun l hl=>by
      rw[he,aix]at hl;rw[cI.mp hl];exact cJ _
     have fr2:∀x∈bs++[c],x∈bs0\/H x=none:=fun x hx=>by
      rcases cF.mp hx with z|z
      ·exact fr x z
      ·rw[cI.mp z];exact .inr (sG.free hc)
     have eq2:=(RG.aeD (t:=t) he (show k≠0 by lia)).trans eq;obtain⟨b,l,eb,el,hb⟩:=L2.at lp;have hl9:l.length<=62:=b92 l (by rw[RG.fO el];exact bV);have e9:∀m,∀l∈((ms++[[]]).set p m).drop (p+1),l.length<=62:=fun m l hl=>b92 l (by rw[RG.set_drop]at hl;rw[RG.fO el];exact cB _ hl);have st:=RG.Pk (t:=t) el (show k≠0 by lia);have kh:k / 2*2 ^ (p+1)<=w.toNat:=by
      rw[mQ,WQ (2 ^ p) 2,<-uR];exact bQ (Dj _ tb_g%) kp
     have ek:((k:Int) / 2)=((k / 2:Nat):Int):=by lia
     have ep:((p:Int)+1)=((p+1:Nat):Int):=by lia
     show#[_,rfl,_,_,rfl,rfl,(by show(0:Int)<2;decide),rfl,_,rfl,cD (fun hb2=>?_) (fun hb2=>?_)]
     ·have o2:k % 2=1:=by have:=V.int.inj (of_decide_eq_true hb2);lia
      rw[if_pos o2]at st;show#[_,rfl,_,rfl,cH (.inl (.inl L2.o)) (v:=.ref b) (LL.ix eb) #[_,rfl,tb_g%,fun c1 hc1=>?_]]
      k_dat (nwA hc1,J1,y1,z1) "n"
      show#[b,c1,_,_,rfl,rfl,y1 _ _ hb,z1,iV (aQ (by rw[aC];show l.length+1<=1000;lia)),fun c2 hc2=>?_];rw[show l.map V.int++[V.int t]=(l++[t]).map V.int by rw[bG];rfl]
      k_dat (nwA hc2,J2,y2,z2) "n"
      refine .inr #[c2,l++[t],rfl,.inl (.inl z2),by rw[bB];show l.length+1<64;lia,fun c3 ns hc3 pm so=>?_];obtain rfl:=RG.Cp pm so
      k_dat (nwA hc3,J3,y3,z3) "n"
      have y03:=y1.trans (y2.trans y3);have M3:=L2.same y03;have nc3:c3≠g:=aL (ak ((y1.trans y2) _ _ L2.o) hc3);show#[_,rfl,_,rfl,.inl #[g,_,_,p,rfl,rfl,M3.o,zV (by rwa[aC,L2.n]),?_]];have M4:=M3.set (i:=p) z3 nc3;have y4:Same H (upd J3 g (.lst (((bs++[c]).map V.ref).set p (.ref c3)))):=fun b o e=>by rw[ao (ak e hg)];exact y03 _ _ (s2 b o e)
      generalize upd J3 g (.lst (((bs++[c]).map V.ref).set p (.ref c3)))=J4 at M4 y4 ⊢;show#[_,rfl,_,_,rfl,rfl,_,rfl,_,_,rfl,rfl,#[by decide,by decide],?_,?_]
      ·show#[_,_,p+1,k / 2,by rw [<- ek,<- ep];rfl,M4,y4,by rw [iI];lia,by rw [iI];lia,kh,st.trans eq2,e9 _,fun c hc=>by
        rcases z9 hc with z|z
        ·exact fr2 c z
        ·rw [z];exact .inr ((s2.trans (y1.trans y2)).free hc3)]
      ·show((k:Int) / 2).toNat<(k:Int).toNat;lia
     ·have o2:¬ k % 2=1:=fun z=>hb2 (decide_eq_true (congrArg V.int tb_g%));rw[if_neg o2,RG.DQ el]at st;have e9':=e9 l;rw[RG.DQ el]at e9';show#[_,rfl,_,_,rfl,rfl,_,rfl,_,_,rfl,rfl,#[by decide,by decide],?_,?_]
      ·show#[(bs++[c]),(ms++[[]]),p+1,k / 2,by rw[<-ek,<-ep];rfl,L2,s2,by lia,by lia,kh,st.trans eq2,e9',fr2]
      ·show((k:Int) / 2).toNat<(k:Int).toNat;lia
    ·have he:¬ p=ms.length:=fun z=>he (decide_eq_true (congrArg V.int (by rw[aC,L.n];lia)));have lp:p<ms.length:=by lia
     obtain⟨b,l,eb,el,hb⟩:=L.at lp;have hl9:l.length<=62:=b9 l (by rw[RG.fO el];exact bV);have e9:∀m,∀l∈(ms.set p m).drop (p+1),l.length<=62:=fun m l hl=>b9 l (by rw[RG.set_drop]at hl;rw[RG.fO el];exact cB _ hl);have st:=RG.Pk (t:=t) el (show k≠0 by lia);have kh:k / 2*2 ^ (p+1)<=w.toNat:=by
      rw[mQ,WQ (2 ^ p) 2,<-uR];exact bQ (Dj _ tb_g%) kp
     have ek:((k:Int) / 2)=((k / 2:Nat):Int):=by lia
     have ep:((p:Int)+1)=((p+1:Nat):Int):=by lia
     show#[_,rfl,_,_,rfl,rfl,(by show(0:Int)<2;decide),rfl,_,rfl,cD (fun hb2=>?_) (fun hb2=>?_)]
     ·have o2:k % 2=1:=by have:=V.int.inj (of_decide_eq_true hb2);lia
      rw[if_pos o2]at st;show#[_,rfl,_,rfl,cH (.inl (.inl L.o)) (v:=.ref b) (LL.ix eb) #[_,rfl,tb_g%,fun c1 hc1=>?_]]
      k_dat (nwA hc1,J1,y1,z1) "n"
      show#[b,c1,_,_,rfl,rfl,y1 _ _ hb,z1,iV (aQ (by rw[aC];show l.length+1<=1000;lia)),fun c2 hc2=>?_];rw[show l.map V.int++[V.int t]=(l++[t]).map V.int by rw[bG];rfl]
      k_dat (nwA hc2,J2,y2,z2) "n"
      refine .inr #[c2,l++[t],rfl,.inl (.inl z2),by rw[bB];show l.length+1<64;lia,fun c3 ns hc3 pm so=>?_];obtain rfl:=RG.Cp pm so
      k_dat (nwA hc3,J3,y3,z3) "n"
      have y03:=y1.trans (y2.trans y3);have M3:=L.same y03;have nc3:c3≠g:=aL (ak ((y1.trans y2) _ _ L.o) hc3);show#[_,rfl,_,rfl,.inl #[g,_,_,p,rfl,rfl,M3.o,zV (by rwa[aC,L.n]),?_]];have M4:=M3.set (i:=p) z3 nc3;have y4:Same H (upd J3 g (.lst ((bs.map V.ref).set p (.ref c3)))):=fun b o e=>by rw[ao (ak e hg)];exact y03 _ _ (sG b o e)
      generalize upd J3 g (.lst ((bs.map V.ref).set p (.ref c3)))=J4 at M4 y4 ⊢;show#[_,rfl,_,_,rfl,rfl,_,rfl,_,_,rfl,rfl,#[by decide,by decide],?_,?_]
      ·show#[_,_,p+1,k / 2,by rw [<- ek,<- ep];rfl,M4,y4,by rw [iI];lia,by rw [iI];lia,kh,st.trans eq,e9 _,fun c hc=>by
        rcases z9 hc with z|z
        ·exact fr c z
        ·rw [z];exact .inr ((sG.trans (y1.trans y2)).free hc3)]
      ·show((k:Int) / 2).toNat<(k:Int).toNat;lia
     ·have o2:¬ k % 2=1:=fun z=>hb2 (decide_eq_true (congrArg V.int tb_g%));rw[if_neg o2,RG.DQ el]at st;have e9':=e9 l;rw[RG.DQ el]at e9';show#[_,rfl,_,_,rfl,rfl,_,rfl,_,_,rfl,rfl,#[by decide,by decide],?_,?_]
      ·show#[bs,ms,p+1,k / 2,by rw[<-ek,<-ep];rfl,L,sG,by lia,by lia,kh,st.trans eq,e9',fr]
      ·show((k:Int) / 2).toNat<(k:Int).toNat;lia
   ·have k0:k=0:=by have:¬ (0:Int)<k:=fun z=>hc (decide_eq_true z);lia
    subst k0;rw[RG.f9,aic]at eq;rw[eq]at L;show#[_,rfl,q g bs G hg L sG fr]
  ·exact fun σ H Q Q' hq h=>pD (zP (eE 5) (aeK _)) σ H Q Q' hq h
def asS:Sp:=fun vs H Q _=>Ex2 fun(b:Addr) (l:List Int)=>tD (vs=[.ref b]) (H b=some (.lst (l.map V.int))) (∀(c:Addr)(H':Hp),H c=none->H' c=some (.lst ((RG.lft l).map V.int))->Same H H'->Q (.ref c) H')
theorem Q6(T:Tx K mg A):FnK P w base T.sH CX0 1 asS:=by
 k_dat (T.sH,T.sH.ok,QM) "f"
 ·obtain⟨b,l,rfl,hb,q⟩:=h;have h2:(l.length:Int)-(l.length:Int) % 2=((l.length-l.length % 2:Nat):Int):=by lia
  walk_at "B"
  show#[_,rfl,_,rfl,cj (.inl (.inl hb)) #[_,rfl,cj (.inl (.inl hb)) #[_,_,rfl,rfl,(by show(0:Int)<2;decide),_,_,rfl,rfl,_,rfl,b,_,rfl,.inl (.inl hb),fun c hc=>?_]]];rw[aC,h2];have e:rY (l.map V.int) (some ((l.length-l.length % 2:Nat):Int)) none=(RG.lft l).map V.int:=by
   rw[RG.aaJ,xH];unfold rY HT.sIx;simp only[aC];rw[if_neg tb_g%];rw[Jj]
   ·congr 1;simp
   ·rw[uL,aC];simp
  rw[e];exact q c _ hc aj (Same.new hc)
def ao7:Sp:=fun vs H Q _=>Ex3 fun(b:Addr) (l:List Int) (tn:Int)=>tD (vs=[.ref b,.int tn]) (H b=some (.lst (l.map V.int))) (∀(c:Addr)(H':Hp),H c=none->H' c=some (.lst ((RG.pick (decide (tn % 2=1)) l).map V.int))->Same H H'->Q (.ref c) H')
theorem anm(T:Tx K mg A):FnK P w base T.YS CX0 1 ao7:=by
 k_dat (T.YS,T.YS.ok,ani) "f"
 ·obtain⟨b,l,tn,rfl,hb,q⟩:=h;show#[_,by k_dat ([HW],[],[]) "p",?_];show#[_,rfl,_,rfl,_,_,rfl,rfl,(by show(0:Int)<2;decide),_,rfl,?_];show#[_,rfl,cj (.inl (.inl hb)) #[_,rfl,cj (.inl (.inl hb)) #[_,_,rfl,rfl,(by show(0:Int)<2;decide),_,_,rfl,rfl,_,rfl,?_]]];show#[_,rfl,_,rfl,by decide,b,_,rfl,.inl (.inl hb),fun c hc=>?_];rw[aC,ahn tb_g%];exact q c _ hc aj (Same.new hc)
def asT(A:Ad):Sp:=fun vs H Q _=>Ex8 fun(p dx:Addr) (r T ov un tn st:Int)=>Ex3 fun(mi ma rf:V)=>tD (vs=[.ref p,.int st]) (H p=some (.ins A.C'0 dx (rg (.int r) (.int T) (.int ov) (.int un) (.int tn) mi ma rf))) (Q .non (upd H p (.ins A.C'0 dx (rg (.int r) (.int T) (.int (if tn % 2=0 then ov+st else ov)) (.int (if tn % 2=0 then un else un+st)) (.int (tn+1)) mi ma rf))))
theorem Tg(T:Tx K mg A):FnM P w mg base T.vQ CX0 1 (asT A):=by
 k_dat (T.vQ,T.vQ.ok,S8) "f"
 ·obtain⟨p,dx,r,T',ov,un,tn,st,mi,ma,rf,rfl,hp,q⟩:=h
  walk_at "B"
  k_dat lq "c"
  show#[_,rfl,rdG hp (qg T) #[_,_,rfl,rfl,(by show(0:Int)<2;decide),rfl,_,rfl,cD (fun h=>?_) (fun h=>?_)]]
  ·have h0:tn % 2=0:=V.int.inj (of_decide_eq_true h);rw[if_pos h0,if_pos h0]at q
   k_dat (hp,Mh,T.gO,T.U5) "r"
   rw[Jx];show#[_,rfl,rdG aj (qg T) #[_,_,rfl,rfl,_,rfl,p,_,dx,_,rfl,aj,T.gO,T.Qz,tb_g%,?_]];rwa[wg,cC]
  ·have h0:¬ tn % 2=0:=fun z=>h (decide_eq_true (congrArg V.int z));rw[if_neg h0,if_neg h0]at q
   k_dat (hp,Er,T.gO,T.U6) "r"
   rw[Et];show#[_,rfl,rdG aj (qg T) #[_,_,rfl,rfl,_,rfl,p,_,dx,_,rfl,aj,T.gO,T.Qz,tb_g%,?_]];rwa[wg,cC]
theorem LL.but{H H':Hp}{a p C e:Addr}{bs:List Addr}{ls:RG.Ls}{fs:List (Str × V)}(h:LL H a bs ls)(b:But p H H')(hp:H p=some (.ins C e fs)):LL H' a bs ls:=
 #[b _ _ h.o (jd h.o hp (by intro z;cases z)),h.n,fun i c l e1 e2=>b _ _ (h.e i c l e1 e2) (jd (h.e i c l e1 e2) hp (by intro z;cases z)),h.x]
def placeOf(σ:St)(_:Hp):Nat:=match σ with
 |[_,_,_,some (.int n),_,_]=>(1000-n).toNat
 |_=>0
def ano(A:Ad):Sp:=fun vs H Q _=>Ex8 fun(p dx a:Addr) (bs:List Addr) (ls:RG.Ls) (r tt ov:Int)=>Ex5 fun(un tn:Int) (mi ma:Option Int) (rf:V)=>Ep (vs=[.ref p,.ref a]) (H p=some (.ins A.C'0 dx (rg (.int r) (.int tt) (.int ov) (.int un) (.int tn) (oV mi) (oV ma) rf))) (LL H a bs ls) (2<=r) (r<=64) (((∀l∈ls,l.length<=31)\/∀l∈ls,(l.length:Int)<=r)) (ls.length<=400) (RG.val ls<2 ^ 500/\∀(g:Addr)(bs':List Addr)(out:RG.Ls)(tn' ov' un':Int)(H':Hp),RG.Stl r 0 tn ov un ls out tn' ov' un'->H g=none->LL H' g bs' out->H' p=some (.ins A.C'0 dx (rg (.int r) (.int tt) (.int ov') (.int un') (.int tn') (oV mi) (oV ma) (.ref g)))->But p H H'->out.length<=501->(∀c∈bs',c∈bs\/H c=none)->Q .non H')
theorem KR(T:Tx K mg A):FnM P w mg base T.pG CX0 2 (ano A):=by
 k_dat (T.pG,T.pG.ok,wL) "f"
 ·obtain⟨p,dx,a,bs0,ls,r,tt,ov,un,tn,mi,ma,rf,rfl,hp,hL,r2,r64,h2,h4,h5,q⟩:=h;show#[_,by (k_dat ([hdA],[wL.nd,ud (O5 rfl) (by rfl) T.YX akc ?_,aB (Q6 T) ?_,aB (anm T) ?_,cV (jg rfl) (by rfl) T.uq N5 ?_,cW ?_ T.gO (Tg T) ?_],[]) "p"; k_dat je "h"; k_dat pq "h"; k_dat je "h"; k_dat je "h"; k_dat je "h"),?_];show#[_,rfl,.inl #[a,_,rfl,.inl (.inl (.inl hL.o)),fun g hg=>?_]];have L0:=hL.copy hg;have s0:Same H (upd H g (.lst (bs0.map V.ref))):=Same.new hg;generalize upd H g (.lst (bs0.map V.ref))=H1 at L0 s0 ⊢
  k_dat lqg "c"
  refine yD (fun σ G=>Ex7 fun(bs:List Addr) (ms:RG.Ls) (j:Nat) (tn2 ov2 un2:Int) (x:Option V)=>abA (σ=[some (.ref p),some (.ref a),some (.ref g),some (.int (j:Int)),some (.int (2 ^ j)),x]) (LL G g bs ms) (G p=some (.ins A.C'0 dx (rg (.int r) (.int tt) (.int ov2) (.int un2) (.int tn2) (oV mi) (oV ma) rf))) (But p H G) (RG.Run r tn ov un ls j tn2 ov2 un2 ms) (ms.length<=501) (∀c∈bs,c∈bs0\/H c=none)) placeOf
   #[bs0,ls,0,tn,ov,un,none,rfl,L0,s0 _ _ hp,s0.but p,RG.Run.start,by lia,fun c hc=>.inl hc] ?_ ?_
  ·rintro σ G ⟨bs,ms,j,tn2,ov2,un2,x,rfl,L,gp,bt,R,ln,fr⟩;have jl:=R.le;have ep:((j:Int)+1)=((j+1:Nat):Int):=by lia
   show#[_,rfl,_,rfl,cj (.inl (.inl L.o)) #[_,_,rfl,rfl,_,rfl,cD (fun hc=>?_) (fun hc=>?_)]]
   ·k_dat lq "c"
    have hj:j<ms.length:=by
     have:=of_decide_eq_true hc;rw[aC,L.n]at this;lia
    obtain⟨b,l,eb,el,hb⟩:=L.at hj;have nbg:b≠g:=fun z=>L.x (by rw[<-z];exact xj eb);show#[_,rfl,_,rfl,cH (.inl (.inl L.o)) (v:=.ref b) (LL.ix eb) ?_]
    k_dat lqg "c"
    show#[_,rfl,cj (.inl (.inl hb)) #[_,rfl,rdG gp (Y8 T) #[_,_,rfl,rfl,_,rfl,cD (fun hg2=>?_) (fun hg2=>?_)]]]
    ·k_dat lq "c"
     have hgt:r<(l.length:Int):=by have:=of_decide_eq_true hg2;rwa[aC]at this
     have hs:∀l∈ls,l.length<=31:=h2.resolve_right fun z=>by
      have e:=R.b0 z;have:=z l (by rw[<-e];exact xj el);lia
     have ll4:=R.b1 hs l (xj el);have hl2:2<=l.length:=by lia
     have hbig:=R.big el (fun z=>by rw[z]at hl2;exact absurd hl2 tb_g%);have j5:j<500:=by
      rcases iz j 500 with z|z
      ·exact z
      ·have:=Nu (show 0<2 by decide) z;lia
     show#[_,rfl,_,_,rfl,rfl,_,rfl,cj (.inl (.inl L.o)) #[rfl,_,rfl,cD (fun he=>?_) (fun he=>?_)]]
     ·have he:j+1=ms.length:=by
       have:=V.int.inj (of_decide_eq_true he);rw[aC,L.n]at this;lia
      show#[_,rfl,.inl #[rfl,_,.inl (.inl L.o)],tb_g%,fun c hc0=>?_]
      k_dat (nwA hc0,G1,s1,f1) "n"
      have f1:G1 c=some (.lst (([]:List Int).map V.int)):=f1;have nc:c≠g:=aL (ak L.o hc0);show#[g,_,_,rfl,rfl,s1 _ _ L.o,aQ (by rw[aC,L.n];lia),?_]
      k_dat lqn "c"
      have LX:=(L.same s1).app f1 nc;have gx:∀x o,G x=some o->x≠g->(upd G1 g (.lst (bs.map V.ref++[.ref c]))) x=some o:=fun x o e n=>by rw[ao n];exact s1 _ _ e
      have pX:=gx _ _ gp (jd gp L.o (by intro z;cases z));have bX:=gx _ _ hb nbg;have btX:But p H (upd G1 g (.lst (bs.map V.ref++[.ref c]))):=fun b o e n=>gx _ _ (bt b o e n) (ak e hg);generalize upd G1 g (.lst (bs.map V.ref++[.ref c]))=GX at LX pX bX btX ⊢;obtain⟨nx,MR⟩:∃nx:List Int,RG.More j ms (ms++[[]]) nx:=#[[],.inr #[he,rfl,rfl]];have hb:=bX;have SG:Same GX GX:=Same.refl _;have fr2:∀x∈bs++[c],x∈bs0\/H x=none:=fun x hx=>by
       rcases cF.mp hx with z|z
       ·exact fr x z
       ·rw[cI.mp z];exact .inr (eF bt hc0 fun y=>by rw[y,gp]at hc0;cases hc0)
      have LN:(ms++[[]]).length<=501:=by rw[bB];show ms.length+1<=501;lia
      obtain⟨h1,h2,_,_,_⟩:=MR.at el;obtain⟨hp1,_⟩:=fu.mp h1;obtain⟨hp2,_⟩:=fu.mp h2;have hb':GX b=some (.lst (l.map V.int)):=SG _ _ hb;show#[_,rfl,b,l,rfl,hb',fun c1 G1 nc1 f1 s1=>?_];have L1:=LX.same s1;have n1:c1≠g:=aL (ak LX.o nc1);show#[_,rfl,_,rfl,.inl #[g,_,_,j,rfl,rfl,L1.o,zV (by rwa[aC,LX.n]),?_]];have L2:=L1.set (i:=j) f1 n1;have pg:p≠g:=jd (s1 _ _ pX) L1.o (by intro z;cases z);have u2:∀x o,G1 x=some o->x≠g->(upd G1 g (.lst (((bs++[c]).map V.ref).set j (.ref c1)))) x=some o:=fun x o e n=>by rwa[ao n]
      have po2:=u2 _ _ (s1 _ _ pX) pg;have hb2:=u2 _ _ (s1 _ _ hb') nbg;have s02:But p H (upd G1 g (.lst (((bs++[c]).map V.ref).set j (.ref c1)))):=fun x o e n=>u2 _ _ (s1 _ _ (btX x o e n)) (ak e hg);generalize upd G1 g (.lst (((bs++[c]).map V.ref).set j (.ref c1)))=G2 at L2 po2 hb2 s02 ⊢;have e2:((ms++[[]]).set j (RG.lft l))[j+1]? = some nx:=by rwa[Dh tb_g%]
      obtain⟨b3,l3,eb3,el3,hb3⟩:=L2.at (i:=j+1) (by rwa[iI]);obtain rfl:l3=nx:=by rw[e2]at el3;exact(bN el3).symm
      have nx2:l3.length<=31:=by
       rcases MR with⟨_,e⟩|⟨_,_,e⟩
       ·exact R.b2 hs l3 (by rw[RG.fO e];exact bV)
       ·rw[e];exact cJ _
      show#[_,rfl,_,rfl,_,_,rfl,rfl,cH (.inl (.inl L2.o)) (v:=.ref b3) (by rw[ep];exact LL.ix eb3) ?_];show#[_,rfl,_,rfl,rdG po2 (qg T) #[b,l,tn2,rfl,hb2,fun c4 G4 nc4 f4 s4=>?_]];have lp:=RG.kO (decide (tn2 % 2=1)) l;show#[b3,c4,_,_,rfl,rfl,s4 _ _ hb3,f4,iV (aQ (by rw[aC,aC];lia)),fun c5 nc5=>?_];rw[<-bG]
      k_dat (nwA nc5,G5,s5,f5) "n"
      refine .inr #[c5,_,rfl,.inl (.inl f5),by rw[bB];lia,fun c6 ns nc6 pm so=>?_];obtain rfl:=RG.Cp pm so
      k_dat (nwA nc6,G6,s6,f6) "n"
      have s26:=s4.trans (s5.trans s6);have L6:=L2.same s26;have n6:c6≠g:=aL (ak ((s4.trans s5) _ _ L2.o) nc6);show#[_,rfl,_,rfl,_,_,rfl,rfl,.inl #[g,_,_,j+1,rfl,rfl,L6.o,by rw[ep];exact zV (by rwa[aC,iI,LX.n]),?_]];have L7:=L6.set (i:=j+1) f6 n6;have po7:(upd G6 g (.lst ((((bs++[c]).set j c1).map V.ref).set (j+1) (.ref c6)))) p=_:=(ao pg).trans (s26 _ _ po2);have s07:But p H (upd G6 g (.lst ((((bs++[c]).set j c1).map V.ref).set (j+1) (.ref c6)))):=fun x o e n=>by rw[ao (ak e hg)];exact s26 _ _ (s02 x o e n)
      generalize upd G6 g (.lst ((((bs++[c]).set j c1).map V.ref).set (j+1) (.ref c6)))=G7 at L7 po7 s07 ⊢;show#[_,rfl,p,dx,_,rfl,po7,rgN tb_g%,_,rfl,p,dx,r,tt,ov2,un2,tn2,2 ^ j,oV mi,oV ma,rf,rfl,po7,?_];have R8:=R.turn MR el hgt
      k_dat (nbA,G8,zG8,po8) "n"
      have L8:LL G8 g _ _:=L7.but zG8 po7;have s08:But p H G8:=s07.trans zG8;show#[_,rfl,_,_,rfl,rfl,_,rfl,_,_,rfl,rfl,eY tb_g% tb_g%,?_,?_]
      ·show#[_,_,j+1,_,_,_,_,by rw [<- ep,yd];rfl,L8,po8,s08,R8,by rw [iI,iI];exact LN,fun c hc=>by
        rcases z9 hc with z|z
        ·rcases z9 z with z|z
         ·exact fr2 c z
         ·rw[z];exact .inr (eF btX nc1 fun y=>by rw[y,pX]at nc1;cases nc1)
        ·rw [z];exact .inr (eF (s02.trans ((s4.trans s5).but p)) nc6 fun y=>by rw [y,(s4.trans s5) _ _ po2] at nc6;cases nc6)]
      ·show(1000-((j:Int)+1)).toNat<(1000-(j:Int)).toNat;lia
     ·have he:¬ j+1=ms.length:=fun z=>he (decide_eq_true (congrArg V.int (by rw[aC,L.n];lia)));obtain⟨b',nx,eb',el',_⟩:=L.at (i:=j+1) tb_g%;have MR:RG.More j ms ms nx:=.inl #[rfl,el'];have SG:Same G G:=Same.refl _;have LN:=ln;obtain⟨h1,h2,_,_,_⟩:=MR.at el;obtain⟨hp1,_⟩:=fu.mp h1;obtain⟨hp2,_⟩:=fu.mp h2;have hb':G b=some (.lst (l.map V.int)):=SG _ _ hb;show#[_,rfl,b,l,rfl,hb',fun c1 G1 nc1 f1 s1=>?_];have L1:=L.same s1;have n1:c1≠g:=aL (ak L.o nc1);show#[_,rfl,_,rfl,.inl #[g,_,_,j,rfl,rfl,L1.o,zV (by rwa[aC,L.n]),?_]];have L2:=L1.set (i:=j) f1 n1;have pg:p≠g:=jd (s1 _ _ gp) L1.o (by intro z;cases z);have u2:∀x o,G1 x=some o->x≠g->(upd G1 g (.lst ((bs.map V.ref).set j (.ref c1)))) x=some o:=fun x o e n=>by rwa[ao n]
      have po2:=u2 _ _ (s1 _ _ gp) pg;have hb2:=u2 _ _ (s1 _ _ hb') nbg;have s02:But p H (upd G1 g (.lst ((bs.map V.ref).set j (.ref c1)))):=fun x o e n=>u2 _ _ (s1 _ _ (bt x o e n)) (ak e hg);generalize upd G1 g (.lst ((bs.map V.ref).set j (.ref c1)))=G2 at L2 po2 hb2 s02 ⊢;have e2:(ms.set j (RG.lft l))[j+1]? = some nx:=by rwa[Dh tb_g%]
      obtain⟨b3,l3,eb3,el3,hb3⟩:=L2.at (i:=j+1) (by rwa[iI]);obtain rfl:l3=nx:=by rw[e2]at el3;exact(bN el3).symm
      have nx2:l3.length<=31:=by
       rcases MR with⟨_,e⟩|⟨_,_,e⟩
       ·exact R.b2 hs l3 (by rw[RG.fO e];exact bV)
       ·rw[e];exact cJ _
      show#[_,rfl,_,rfl,_,_,rfl,rfl,cH (.inl (.inl L2.o)) (v:=.ref b3) (by rw[ep];exact LL.ix eb3) ?_];show#[_,rfl,_,rfl,rdG po2 (qg T) #[b,l,tn2,rfl,hb2,fun c4 G4 nc4 f4 s4=>?_]];have lp:=RG.kO (decide (tn2 % 2=1)) l;show#[b3,c4,_,_,rfl,rfl,s4 _ _ hb3,f4,iV (aQ (by rw[aC,aC];lia)),fun c5 nc5=>?_];rw[<-bG]
      k_dat (nwA nc5,G5,s5,f5) "n"
      refine .inr #[c5,_,rfl,.inl (.inl f5),by rw[bB];lia,fun c6 ns nc6 pm so=>?_];obtain rfl:=RG.Cp pm so
      k_dat (nwA nc6,G6,s6,f6) "n"
      have s26:=s4.trans (s5.trans s6);have L6:=L2.same s26;have n6:c6≠g:=aL (ak ((s4.trans s5) _ _ L2.o) nc6);show#[_,rfl,_,rfl,_,_,rfl,rfl,.inl #[g,_,_,j+1,rfl,rfl,L6.o,by rw[ep];exact zV (by rwa[aC,iI,L.n]),?_]];have L7:=L6.set (i:=j+1) f6 n6;have po7:(upd G6 g (.lst (((bs.set j c1).map V.ref).set (j+1) (.ref c6)))) p=_:=(ao pg).trans (s26 _ _ po2);have s07:But p H (upd G6 g (.lst (((bs.set j c1).map V.ref).set (j+1) (.ref c6)))):=fun x o e n=>by rw[ao (ak e hg)];exact s26 _ _ (s02 x o e n)
      generalize upd G6 g (.lst (((bs.set j c1).map V.ref).set (j+1) (.ref c6)))=G7 at L7 po7 s07 ⊢;show#[_,rfl,p,dx,_,rfl,po7,rgN tb_g%,_,rfl,p,dx,r,tt,ov2,un2,tn2,2 ^ j,oV mi,oV ma,rf,rfl,po7,?_];have R8:=R.turn MR el hgt
      k_dat (nbA,G8,zG8,po8) "n"
      have L8:LL G8 g _ _:=L7.but zG8 po7;have s08:But p H G8:=s07.trans zG8;show#[_,rfl,_,_,rfl,rfl,_,rfl,_,_,rfl,rfl,eY tb_g% tb_g%,?_,?_]
      ·show#[_,_,j+1,_,_,_,_,by rw [<- ep,yd];rfl,L8,po8,s08,R8,by rw [iI,iI];exact LN,fun c hc=>by
        rcases z9 hc with z|z
        ·rcases z9 z with z|z
         ·exact fr c z
         ·rw[z];exact .inr (eF bt nc1 fun y=>by rw[y,gp]at nc1;cases nc1)
        ·rw [z];exact .inr (eF (s02.trans ((s4.trans s5).but p)) nc6 fun y=>by rw [y,(s4.trans s5) _ _ po2] at nc6;cases nc6)]
      ·show(1000-((j:Int)+1)).toNat<(1000-(j:Int)).toNat;lia
    ·have hle:(l.length:Int)<=r:=by
      have:¬ r<((l.map V.int).length:Int):=fun z=>hg2 (decide_eq_true z);rw[aC]at this;lia
     show#[_,rfl,_,_,rfl,rfl,_,rfl,_,_,rfl,rfl,eY tb_g% tb_g%,?_,?_]
     ·show#[bs,ms,j+1,_,_,_,_,by rw[<-ep,yd];rfl,L,gp,bt,R.keep el hle,ln,fr]
     ·show(1000-((j:Int)+1)).toNat<(1000-(j:Int)).toNat;lia
   ·have hj:ms.length<=j:=by
     have:¬ (j:Int)<((bs.map V.ref).length:Int):=fun z=>hc (decide_eq_true z);rw[aC,L.n]at this;lia
    show#[_,rfl,_,rfl,p,_,dx,_,rfl,gp,T.gO,T.U9,tb_g%,?_];rw[Ew];exact q g bs ms tn2 ov2 un2 _ (R.done hj) hg (L.but But.upd gp) aj (bt.trans But.upd) ln fr
  ·exact fun σ H Q Q' hq h=>pD (zP (eE 3) (aaU (Ux (eE 2) aaT))) σ H Q Q' hq h
def lo2:Option Int->Option Int->Option Int
 |none,b=>b
 |a,none=>a
 |some a,some b=>some (min a b)
def hi2:Option Int->Option Int->Option Int
 |none,b=>b
 |a,none=>a
 |some a,some b=>some (max a b)
def agp(a b:Option Int):List Int:=a.toList++b.toList
theorem ao8{a b:Option Int}{v:V}(h:Best true .non (agp a b) v):v=oV (lo2 a b):=by
 rcases h with⟨e,rfl⟩|⟨m,rfl,hm,hb⟩
 ·cases a <;> cases b <;> first|rfl|cases e
 ·cases a with
  |none=>cases b with
   |none=>cases hm
   |some b=>rw[cI.mp hm];rfl
  |some a=>cases b with
   |none=>rw[cI.mp hm];rfl
   |some b =>
    have h1:=hb a bV;have h2:=hb b (cB _ bV);rw[if_pos rfl]at h1 h2;have:m=min a b:=by
     rcases aO.mp hm with z|z
     ·lia
     ·have:=cI.mp z;lia
    rw[this];rfl
theorem ao9{a b:Option Int}{v:V}(h:Best false .non (agp a b) v):v=oV (hi2 a b):=by
 rcases h with⟨e,rfl⟩|⟨m,rfl,hm,hb⟩
 ·cases a <;> cases b <;> first|rfl|cases e
 ·cases a with
  |none=>cases b with
   |none=>cases hm
   |some b=>rw[cI.mp hm];rfl
  |some a=>cases b with
   |none=>rw[cI.mp hm];rfl
   |some b =>
    have h1:=hb a bV;have h2:=hb b (cB _ bV);rw[if_neg tb_g%]at h1 h2;have:m=max a b:=by
     rcases aO.mp hm with z|z
     ·lia
     ·have:=cI.mp z;lia
    rw[this];rfl
def known(a b:Option Int)(i:Nat):List V:=(([a,b].take i).flatMap Option.toList).map V.int
def Ey(f:Option Int->Option Int->Option Int):Sp:=fun vs H Q _=>Ex2 fun(a b:Option Int)=>vs=[oV a,oV b]/\∀H',Same H H'->Q (oV (f a b)) H'
theorem ap8(T:Tx K mg A):FnK P w base T.Ek CX0 1 (Ey lo2)/\FnK P w base T.zT CX0 1 (Ey hi2):=by
 show#[#[T.Ek,T.Ek.ok Im (fun vs H Q E h=>?_) (fun cdv B outer s H vs Q E hr h=>?_)],#[T.zT,T.zT.ok CV (fun vs H Q E h=>?_) (fun cdv B outer s H vs Q E hr h=>?_)]]
 ·obtain⟨a,b,rfl,_⟩:=h;rfl
 rotate_left
 ·obtain⟨a,b,rfl,_⟩:=h;rfl
 obtain⟨a,b,rfl,q⟩:=h;show#[_,by k_dat ([alp],[CV.nd,um false T.ane ?_ ?_ rfl],[qN 2 CV.nd [] Q10 [] ?_ (fun _ _ _ _=>(Mf (zL Xp (pv 0) ad0 (vB _)))) (fun _ _ _ _=>(pv 0))]) "p",?_];rotate_left
 obtain⟨a,b,rfl,q⟩:=h;show#[_,by k_dat ([alp],[Im.nd,um true T.anf ?_ ?_ rfl],[qN 2 Im.nd [] Q10 [] ?_ (fun _ _ _ _=>(Mf (zL Xp (pv 0) ad0 (vB _)))) (fun _ _ _ _=>(pv 0))]) "p",?_];all_goals
  show#[_,rfl,_,rfl,tb_g%,fun t ht=>?_]
  k_dat (nwA ht,H1,s1,f1) "n"
  show#[t,rfl,#[_,.inl (.inl f1)],fun D hD=>?_];refine aeF (K:=K) (a:=t) (xs:=[oV a,oV b]) (fun i ys G=>ys=known a b i/\G=upd H1 D (.lst ys)) #[rfl,rfl] ?_ ?_ ?_ ?_ ?_
  ·rintro i ys G hi ⟨rfl,rfl⟩;refine⟨.inl (.inl ((Same.new hD) _ _ f1)),aj,aQ ?_⟩;unfold known;cases a <;> cases b <;> match i,hi with
    |0,_=>simp
    |1,_=>simp
    |2,_=>simp
  ·rintro i ys G x hx ⟨rfl,rfl⟩
   match i,hx with
   |0,hx =>
    obtain rfl:oV a=x:=bN hx;cases a with
    |none=>show#[_,rfl,rfl,_,rfl,cD (fun h=>absurd h tb_g%) (fun _=>#[aj,rfl,rfl])]
    |some z=>show#[_,rfl,rfl,_,rfl,cD (fun _=>#[_,rfl,aj,rfl,by rw[cC]]) (fun h=>absurd (show(!decide (V.int z=V.non))=true by rw[decide_eq_false (by intro y;cases y)];rfl) h)]
   |1,hx =>
    obtain rfl:oV b=x:=bN hx;cases b with
    |none=>show#[_,rfl,rfl,_,rfl,cD (fun h=>absurd h tb_g%) (fun _=>#[aj,by cases a <;> rfl,by cases a <;> rfl])]
    |some z=>show#[_,rfl,rfl,_,rfl,cD (fun _=>#[_,rfl,aj,by cases a <;> rfl,by rw[cC]]) (fun h=>absurd (show(!decide (V.int z=V.non))=true by rw[decide_eq_false (by intro y;cases y)];rfl) h)]
  ·rintro ys G ⟨rfl,rfl⟩;have ek:known a b [oV a,oV b].length=(agp a b).map V.int:=by cases a <;> cases b <;> rfl
   rw[ek];show#[_,rfl,D,agp a b,rfl,.inl (.inl aj),fun v hv=>?_]
   first|rw[ao8 hv]|rw[ao9 hv]
   exact q _ (s1.trans (Same.new hD))
  ·exact fun σ H R R' hr h=>pD (X8 (r:=fun x y H Q=>y=.non/\Q (.bl (!decide (x=.non))) H) (fun x y H Q Q' hq h=>#[h.1,hq _ _ h.2]) (eE 0) (aeK _)) σ H R R' hr h
  ·exact eE 0
theorem ahL(T:Tx K mg A):FnK P w base T.Ek CX0 1 (Ey lo2):=(ap8 T).1
theorem afd(T:Tx K mg A):FnK P w base T.zT CX0 1 (Ey hi2):=(ap8 T).2
def apa(A:Ad):Sp:=fun vs H Q _=>Ex3 fun(p dx:Addr) (r:Int)=>tD (vs=[.ref p,.int r]) (H p=some (.ins A.C'0 dx [])) (∀(d:Addr)(H':Hp),H d=none->H' p=some (.ins A.C'0 dx (rg (.int r) (.int 0) (.int 0) (.int 0) (.int 0) .non .non (.ref d)))->H' d=some (.lst [])->But p H H'->Q .non H')
theorem Ti(T:Tx K mg A):FnM P w mg base T.vR CX0 1 (apa A):=by
 k_dat (T.vR,T.vR.ok,S9) "f"
 ·obtain⟨p,dx,r,rfl,hp,q⟩:=h
  walk_at "B"
  k_dat lq "c"
  show#[_,rfl,_,rfl,p,_,dx,[],rfl,hp,T.gO,T.af7,tb_g%,?_]
  k_dat (dx,aj,T.gO,T.U4) "o"
  k_dat (dx,aj,T.gO,T.U5) "o"
  k_dat (dx,aj,T.gO,T.U6) "o"
  k_dat (dx,aj,T.gO,T.Qz) "o"
  k_dat (dx,aj,T.gO,T.U7) "o"
  k_dat (dx,aj,T.gO,T.U8) "o"
  rw[cC,cC,cC,cC,cC,cC];show#[tb_g%,fun d hd=>?_];have npd:p≠d:=fun z=>by rw[<-z,aj]at hd;cases hd
  rw[ao (aL npd)]at hd;show#[_,rfl,p,_,dx,_,rfl,(by rw[ao npd];exact aj),T.gO,T.U9,tb_g%,?_];refine q d _ hd (Oe aj (by rw[asN])) (by rw[ao (aL npd),aj]) fun b o e hb=>?_;rwa[ao hb,ao (ak e hd),ao hb]
structure Rn(A:Ad)(H:Hp)(p dx a:Addr)(bs:List Addr)(r tt ov un tn:Int)(mi ma:Option Int)(ls:RG.Ls):Prop where
 o:H p=some (.ins A.C'0 dx (rg (.int r) (.int tt) (.int ov) (.int un) (.int tn) (oV mi) (oV ma) (.ref a)))
 l:LL H a bs ls
section
variable{A:Ad}{H H':Hp}{p dx a:Addr}{bs:List Addr}{r tt ov un tn:Int}{mi ma:Option Int}{ls:RG.Ls}
theorem Rn.same(h:Rn A H p dx a bs r tt ov un tn mi ma ls)(s:Same H H'):Rn A H' p dx a bs r tt ov un tn mi ma ls:=#[s _ _ h.o,h.l.same s]
theorem Rn.but{q C e:Addr}{fs:List (Str × V)}(h:Rn A H p dx a bs r tt ov un tn mi ma ls)(b:But q H H')(hq:H q=some (.ins C e fs))(n:p≠q):Rn A H' p dx a bs r tt ov un tn mi ma ls:=#[b _ _ h.o n,h.l.but b hq]
theorem Rn.new{d:Addr}(h1:H p=some (.ins A.C'0 dx (rg (.int r) (.int 0) (.int 0) (.int 0) (.int 0) .non .non (.ref d))))(h2:H d=some (.lst [])):Rn A H p dx d [] r 0 0 0 0 none none []:=
 #[h1,#[h2,rfl,fun i b l e=>by (cases i <;> cases e),fun z=>nomatch z]]
end
def asU(A:Ad):Sp:=fun vs H Q _=>Ex8 fun(p dx a:Addr) (bs:List Addr) (r tt ov un:Int)=>Ex6 fun(tn t w:Int) (mi ma:Option Int) (ls:RG.Ls)=>Ep (vs=[.ref p,.int t,.int w]) (Rn A H p dx a bs r tt ov un tn mi ma ls) (2<=r) (r<=64) (0<=w) (w<2 ^ 64) (ls.length<=400) (z7 ((∀l∈ls,l.length<=62)) (((∀l∈ls,l.length<=30)\/∀l∈ls,(l.length:Int)+1<=r)) (RG.val ls<2 ^ 400) (∀(a':Addr)(bs':List Addr)(out:RG.Ls)(tn' ov' un':Int)(H':Hp),RG.Stl r 0 tn ov un (RG.fH t ls w.toNat) out tn' ov' un'->Rn A H' p dx a' bs' r (tt+w) ov' un' tn' (lo2 mi (some t)) (hi2 ma (some t)) out->But p H H'->H a'=none->(∀c∈bs',c∈bs\/H c=none)->Q .non H'))
theorem Ez(T:Tx K mg A):FnM P w mg base T.yV CX0 5 (asU A):=by
 k_dat (T.yV,T.yV.ok,Y5) "f"
 ·obtain⟨p,dx,a,bs,r,tt,ov,un,tn,t,w,mi,ma,ls,rfl,hR,r2,r64,w0,w64,h3,h1,h6,hv,q⟩:=h;show#[_,by k_dat ([],[aB (ahL T) ?_,aB (afd T) ?_,aB (Tf T) ?_,cW ?_ T.gO (KR T) ?_],[]) "p",?_]
  k_dat (hR.o,gh,T.gO,T.U4) "r"
  rw[Es]
  k_dat (nbA,H1,b1,o1) "n"
  have L1:=hR.l.but b1 hR.o;show#[_,rfl,rdG o1 (zp T) #[_,rfl,mi,some t,rfl,fun H2 s2=>#[_,rfl,p,_,dx,_,rfl,s2 _ _ o1,T.gO,T.U7,tb_g%,?_]]];rw[Eu]
  k_dat (nbA,H3,b3,o3) "n"
  have L3:=(L1.same s2).but b3 (s2 _ _ o1);have b03:But p H H3:=(b1.trans (s2.but p)).trans b3;show#[_,rfl,rdG o3 (zU T) #[_,rfl,ma,some t,rfl,fun H4 s4=>#[_,rfl,p,_,dx,_,rfl,s4 _ _ o3,T.gO,T.U8,tb_g%,?_]]];rw[Jy]
  k_dat (nbA,H5,b5,o5) "n"
  have L5:=(L3.same s4).but b5 (s4 _ _ o3);have b05:But p H H5:=(b03.trans (s4.but p)).trans b5;show#[_,rfl,p,dx,_,rfl,o5,rgN tb_g%,?_];show#[_,rfl,rdG o5 (kW T) #[_,rfl,_,rfl,a,bs,ls,t,w,rfl,L5,w0,w64,by lia,fun l hl=>by have:=h1 l hl;lia,fun g bs' H6 ng L6 s6 fr6=>?_]];show#[p,dx,g,bs',_,r,tt+w,ov,un,tn,lo2 mi (some t),hi2 ma (some t),.ref a,rfl,s6 _ _ o5,L6,r2,r64,(h6.imp (fun z=>RG.Pn t _ _ z) fun z l m=>by have:=RG.Pn t (b:=(r-1).toNat) w.toNat ls (fun k hk=>by have:=z k hk;lia) l m;lia),?_,?_,fun g2 bs2 out tn' ov' un' H7 st ng2 L7 o7 b7 _ fr7=>?_]
  ·have:=RG.Uv t 64 w.toNat ls tb_g%;lia
  ·rw[RG.Ut];have:(2:Nat) ^ 400+2 ^ 64<2 ^ 500:=by decide
   lia
  ·have b07:But p H H7:=(b05.trans (s6.but p)).trans b7;have n5:H5 g2=none:=s6.free ng2;refine q g2 bs2 out tn' ov' un' H7 st #[o7,L7] b07 (eF b05 n5 fun z=>by rw[z,o5]at n5;cases n5) fun c hc=>?_;have h5:H5 c=none->c∈bs\/H c=none:=fun n=>.inr (eF b05 n fun z=>by rw[z,o5]at n;cases n);rcases fr7 c hc with z|z
   ·rcases fr6 c z with z|z
    ·exact .inl z
    ·exact h5 z
   ·exact h5 (s6.free z)
def wf(au aN dW dX:V):List (Str × V):=[("room",au),("reach",aN),("clock",dW),("boxes",dX)]
theorem Y9{K:aG}{mg:Str->Option Value}{A:Ad}{au aN dW dX:V}(T:Tx K mg A):Fd K A.C'1 ("room" : Str) (wf au aN dW dX) au:=#[T.xq,T.af8,rfl]
theorem abB{K:aG}{mg:Str->Option Value}{A:Ad}{au aN dW dX:V}(T:Tx K mg A):Fd K A.C'1 ("reach" : Str) (wf au aN dW dX) aN:=#[T.xq,T.af9,rfl]
theorem kY{K:aG}{mg:Str->Option Value}{A:Ad}{au aN dW dX:V}(T:Tx K mg A):Fd K A.C'1 ("clock" : Str) (wf au aN dW dX) dW:=#[T.xq,T.QB,rfl]
theorem zu{K:aG}{mg:Str->Option Value}{A:Ad}{au aN dW dX:V}(T:Tx K mg A):Fd K A.C'1 ("boxes" : Str) (wf au aN dW dX) dX:=#[T.xq,T.Va,rfl]
theorem asV(au aN dW dX:V):bU "boxes" dX (bU "clock" dW (bU "reach" aN (bU "room" au [])))=wf au aN dW dX:=by
 unfold wf
 walk_at "rec"
theorem wj(au aN dW dX y:V):bU "clock" y (wf au aN dW dX)=wf au aN y dX:=by
 unfold wf
 walk_at "rec"
theorem EY(au aN dW dX y:V):bU "boxes" y (wf au aN dW dX)=wf au aN dW y:=by
 unfold wf
 walk_at "rec"
theorem abC(au aN dW dX:V){m:Str}(CW:¬ m = "room")(Za:¬ m = "reach")(apb:¬ m = "clock")(apc:¬ m = "boxes"):(wf au aN dW dX).lookup m=none:=by
 unfold wf;rw[cg CW,cg Za,cg apb,cg apc];rfl
abbrev Bp:=Addr × WN.Box
def bt(b:WN.Box):HO:=.tup [.int b.f,.int b.l,.int b.s]
structure Bxs(H:Hp)(l:Addr)(ps:List Bp):Prop where
 l:H l=some (.lst (ps.map fun p=>V.ref p.1))
 t:∀p∈ps,H p.1=some (bt p.2)
def bx(ps:List Bp):List WN.Box:=ps.map (·.2)
theorem g8(ps:List Bp):(bx ps).length=ps.length:=aC _
theorem Bxs.same{H H':Hp}{l:Addr}{ps:List Bp}(h:Bxs H l ps)(s:Same H H'):Bxs H' l ps:=#[s _ _ h.l,fun p m=>s _ _ (h.t p m)]
theorem Bxs.but{H H':Hp}{l q C e:Addr}{fs:List (Str × V)}{ps:List Bp}(h:Bxs H l ps)(s:But q H H')(hq:H q=some (.ins C e fs)):Bxs H' l ps:=
 #[s _ _ h.l (jd h.l hq (by intro z;cases z)),fun p m=>s _ _ (h.t p m) (jd (h.t p m) hq (by intro z;cases z))]
theorem Zb{ps:List Bp}{i:Nat}{y:V}(h:(ps.map fun p=>V.ref p.1)[i]? = some y):∃p,ps[i]? = some p/\y=V.ref p.1:=by
 rw[dF]at h;cases e:ps[i]? with
 |none=>rw[e]at h;cases h
 |some z=>rw[e]at h;show#[z,rfl,(bN h).symm]
def gP(room edge:Int)(bs:List WN.Box):List WN.Box:=(WN.settled room (bs.filter fun b=>decide (edge<b.l)).reverse).reverse
def anp:Sp:=fun vs H Q _=>Ex3 fun(l:Addr) (room:Int) (ps:List Bp)=>KQ (vs=[.ref l,.int room]) (Bxs H l ps) (ps.length<=500) (0<=room) (room<=64) (∀(l':Addr)(ps':List Bp)(H':Hp),H l'=none->bx ps'=(WN.settled room (bx ps).reverse).reverse->Bxs H' l' ps'->Same H H'->Q (.ref l') H')
def abD:Option Bp->V
 |none=>.non
 |some h=>.ref h.1
theorem asW{ps:List Bp}{i:Nat}{p:Bp}(h:ps.reverse[i]? = some p):(bx ps).reverse.drop i=p.2::(bx ps).reverse.drop (i+1):=by
 unfold bx;rw[<-xG,<-xH,<-xH];have hi:i<ps.reverse.length:=(fu.mp h).1;rw[Mp hi,cP];rw[(fu.mp h).2]
theorem ahM(T:Tx K mg A):FnK P w base T.QF CX0 1 anp:=by
 k_dat (T.QF,T.QF.ok,Vi) "f"
 ·obtain⟨l,room,ps,rfl,hb,h500,r0,r64,q⟩:=h;show#[_,by k_dat ([arZ,Xp],[Vi.nd,aeG rfl T.pY ?_,aeI T.YX T.pY ?_ rfl],[]) "p",?_]
  k_dat lq "c"
  show#[tb_g%,fun D hD=>?_]
  k_dat lqg "c"
  have sD:Same H (upd H D (.lst [])):=Same.new hD;show#[_,rfl,l,_,rfl,.inl (.inl (sD _ _ hb.l)),X6 (K:=K) (a:=l) (xs:=ps.map fun p=>V.ref p.1) (fun i σ H2=>∃ (xb:Option V) (S:Int) (ds:List Bp) (hand:Option Bp),σ=[some (.ref l),some (.int room),some (.ref D),some (.int S),some (abD hand),xb]/\Same H H2/\Bxs H2 D ds/\ds.length<=i /\
    (hand=none->i=0/\ds=[]/\S=0)/\(∀ h,hand=some h->1<=i/\H2 h.1=some (bt h.2)/\bx ds++WN.settle room S h.2 ((bx ps).reverse.drop i)=WN.settled room (bx ps).reverse))
   ⟨none,0,[],none,rfl,sD,⟨aj,(fun p m=>nomatch m)⟩,aJ _,fun _=>⟨rfl,rfl,rfl⟩,(fun h e=>nomatch e)⟩ (fun i σ H2 _ ⟨_,_,_,_,_,s,_⟩=>.inl (.inl (s _ _ hb.l))) ?_ ?_]
  ·rintro i y σ H2 hi ⟨xb,S,ds,hand,rfl,s2,hD2,hlen,hn,hs⟩;rw[<-xG]at hi
   k_dat (p,hp,Zb,hi) "G"
   have hip:i<ps.length:=by
    have:=(fu.mp hp).1
    rwa [xu]at this
   have pm:p∈ps:=qX.mp (xj hp);have ht:=s2 _ _ (hb.t p pm);have hdrop:=asW hp;cases hand with
   |none =>
    obtain⟨rfl,rfl,rfl⟩:=hn rfl;refine⟨_,rfl,rfl,_,rfl,?_⟩;rw[show decide (abD none=V.non)=true from aaX];refine JL ⟨_,rfl,_,0,[],some p,rfl,s2,hD2,cJ _,(fun e=>nomatch e),fun h e=>?_⟩;obtain rfl:=bN e;refine⟨aJ _,ht,?_⟩;rw[MF]at hdrop;rw[hdrop];rfl
   |some h =>
    obtain⟨i1,hht,heq⟩:=hs h rfl;rw[hdrop,WN.fX]at heq;show#[_,rfl,rfl,_,rfl,?_];rw[show decide (abD (some h)=V.non)=false from aaW];refine qm ?_
    k_dat ld "c"
    show#[_,rfl,pA (.inl (.inl hht)) (v:=.int h.2.s) rfl #[_,rfl,pA (.inl (.inl ht)) (v:=.int p.2.s) rfl #[_,_,rfl,rfl,_,rfl,_,_,rfl,rfl,eY tb_g% tb_g%,_,rfl,_,_,rfl,rfl,_,rfl,cD (fun hc=>?_) (fun hc=>?_)]]]
    ·have hc:(h.2.s+p.2.s)*room<=S:=of_decide_eq_true hc;rw[if_pos hc]at heq;refine⟨_,rfl,pA (.inl (.inl ht)) (v:=.int p.2.f) rfl ⟨_,rfl,pA (.inl (.inl hht)) (v:=.int h.2.l) rfl ⟨_,rfl,pA (.inl (.inl ht)) (v:=.int p.2.s) rfl ⟨_,rfl,pA (.inl (.inl hht)) (v:=.int h.2.s) rfl ⟨_,_,rfl,rfl,tb_g%,fun t1 ht1=>?_⟩⟩⟩⟩⟩;have s3:Same H2 (upd H2 t1 (bt ⟨p.2.f,h.2.l,p.2.s+h.2.s⟩)):=Same.new ht1;refine⟨_,S,ds,some (t1,⟨p.2.f,h.2.l,p.2.s+h.2.s⟩),rfl,s2.trans s3,hD2.same s3,by lia,(fun e=>nomatch e),fun h' e=>?_⟩;obtain rfl:=bN e;refine⟨by lia,aj,?_⟩;rwa[show p.2.s+h.2.s=h.2.s+p.2.s by lia]
    ·have hc:¬ (h.2.s+p.2.s)*room<=S:=fun z=>hc (decide_eq_true z);rw[if_neg hc]at heq;show#[_,rfl,.inl #[rfl,_,.inl (.inl hD2.l)],_,rfl,D,_,_,rfl,rfl,hD2.l,aQ (by rw[aC];lia),?_];have nD:∀a b,H2 a=some (bt b)->a≠D:=fun a b e=>jd e hD2.l (by intro z;cases z);have ht3:∀L,(upd H2 D L) h.1=some (bt h.2):=fun L=>by rwa[ao (nD _ _ hht)]
     show#[_,rfl,_,rfl,pA (.inl (.inl (ht3 _))) (v:=.int h.2.s) rfl #[_,_,rfl,rfl,?_]];show#[_,rfl,_,S+h.2.s,ds++[h],some p,rfl,fun b o e=>?_,#[?_,fun z m=>?_],by rw[bB];show ds.length+1<=i+1;lia,(fun e=>nomatch e),fun h' e=>?_]
     ·rw[ao (ak e hD)];exact s2 _ _ e
     ·rw[aj,bG];rfl
     ·walk_at "v"
      ·have:=hD2.t z m;rwa[ao (nD _ _ this)]
      ·rw[cI.mp m];exact ht3 _
     ·obtain rfl:=bN e;show#[by lia,by rwa[ao (nD _ _ ht)],?_];unfold bx at heq ⊢;rwa[bG,dO]
  ·rintro σ H2 ⟨xb,S,ds,hand,rfl,s2,hD2,hlen,hn,hs⟩;rw[aC]at hlen hn hs;cases hand with
   |none =>
    obtain⟨h0,rfl,rfl⟩:=hn rfl;have e0:ps=[]:=Ji.mp h0;subst e0;show#[_,rfl,rfl,_,rfl,?_];rw[show decide (abD none=V.non)=true from aaX];refine qm #[_,rfl,D,_,rfl,.inl (.inl hD2.l),fun l' hl'=>?_];exact q l' [] _ (s2.free hl') rfl #[aj,(fun p m=>nomatch m)] (s2.trans (Same.new hl'))
   |some h =>
    obtain⟨i1,hht,heq⟩:=hs h rfl;show#[_,rfl,rfl,_,rfl,?_];rw[show decide (abD (some h)=V.non)=false from aaW];refine JL #[_,rfl,.inl #[rfl,_,.inl (.inl hD2.l)],_,rfl,D,_,_,rfl,rfl,hD2.l,aQ (by rw[aC];lia),?_];have nD:∀a b,H2 a=some (bt b)->a≠D:=fun a b e=>jd e hD2.l (by intro z;cases z);have eL:((ds.map fun p=>V.ref p.1)++[V.ref h.1])=(ds++[h]).map fun p=>V.ref p.1:=by rw[bG];rfl
    have s3:Same H (upd H2 D (.lst ((ds.map fun p=>V.ref p.1)++[V.ref h.1]))):=fun b o e=>by rw[ao (ak e hD)];exact s2 _ _ e
    have t3:∀p∈ds++[h],(upd H2 D (.lst ((ds.map fun p=>V.ref p.1)++[V.ref h.1]))) p.1=some (bt p.2):=fun z m=>by
     walk_at "v"
     ·have:=hD2.t z m;rwa[ao (nD _ _ this)]
     ·rwa[cI.mp m,ao (nD _ _ hht)]
    show#[_,rfl,D,_,rfl,.inl (.inl aj),fun l' hl'=>?_];refine q l' (ds++[h]).reverse _ (s3.free hl') ?_ #[?_,fun z m=>?_] (s3.trans (Same.new hl'))
    ·rw[acf (by rw[xu,g8];exact aJ _),WN.Cr]at heq;rw[<-heq];unfold bx;rw[xG,bG];rfl
    ·rw[aj,xG,<-eL];rfl
    ·rw[ao (ak (t3 z (qX.mp m)) hl')];exact t3 z (qX.mp m)
def apd(A:Ad):Sp:=fun vs H Q _=>Ex4 fun(p dx:Addr) (r k:Int)=>tD (vs=[.ref p,.int r,.int k]) (H p=some (.ins A.C'1 dx [])) (∀(d:Addr)(H':Hp),H d=none->H' p=some (.ins A.C'1 dx (wf (.int r) (.int k) (.int 0) (.ref d)))->H' d=some (.lst [])->But p H H'->Q .non H')
theorem Q7(T:Tx K mg A):FnM P w mg base T.sO CX0 1 (apd A):=by
 k_dat (T.sO,T.sO.ok,QS) "f"
 ·obtain⟨p,dx,r,k,rfl,hp,q⟩:=h
  walk_at "B"
  show#[_,rfl,_,rfl,p,_,dx,[],rfl,hp,T.xq,T.af8,tb_g%,?_];show#[_,rfl,_,rfl,p,_,dx,_,rfl,aj,T.xq,T.af9,tb_g%,?_]
  k_dat (dx,aj,T.xq,T.QB) "o"
  rw[cC,cC];show#[tb_g%,fun d hd=>?_];have npd:p≠d:=fun z=>by rw[<-z,aj]at hd;cases hd
  rw[ao (aL npd)]at hd;show#[_,rfl,p,_,dx,_,rfl,(by rw[ao npd];exact aj),T.xq,T.Va,tb_g%,?_];refine q d _ hd (Oe aj (by rw[asV])) (by rw[ao (aL npd),aj]) fun b o e hb=>?_;rwa[ao hb,ao (ak e hd),ao hb]
structure Wn(A:Ad)(H:Hp)(p dx l:Addr)(r k c:Int)(ps:List Bp):Prop where
 o:H p=some (.ins A.C'1 dx (wf (.int r) (.int k) (.int c) (.ref l)))
 b:Bxs H l ps
theorem Wn.same{A:Ad}{H H':Hp}{p dx l:Addr}{r k c:Int}{ps:List Bp}(h:Wn A H p dx l r k c ps)(s:Same H H'):Wn A H' p dx l r k c ps:=#[s _ _ h.o,h.b.same s]
theorem Wn.but{A:Ad}{H H':Hp}{p dx l q C e:Addr}{fs:List (Str × V)}{r k c:Int}{ps:List Bp}(h:Wn A H p dx l r k c ps)(s:But q H H')(hq:H q=some (.ins C e fs))(n:p≠q):Wn A H' p dx l r k c ps:=#[s _ _ h.o n,h.b.but s hq]
def ahN(A:Ad):Sp:=fun vs H Q _=>Ex8 fun(p dx l l0:Addr) (r k c:Int) (ps:List Bp)=>abA (vs=[.ref p,.ref l]) (H p=some (.ins A.C'1 dx (wf (.int r) (.int k) (.int c) (.ref l0)))) (Bxs H l ps) (ps.length<=500) (0<=r) (r<=64) (∀(l':Addr)(ps':List Bp)(H':Hp),bx ps'=gP r (c-k) (bx ps)->Wn A H' p dx l' r k c ps'->But p H H'->H l'=none->Q .non H')
theorem uE(T:Tx K mg A):FnM P w mg base T.lW CX0 2 (ahN A):=by
 k_dat (T.lW,T.lW.ok,gU) "f"
 ·obtain⟨p,dx,l,l0,r,k,c,ps,rfl,hp,hb,h500,r0,r64,q⟩:=h;show#[_,by k_dat ([fM],[gU.nd,aln (i:=2) gU.nd rfl (Or.inr rfl) ?_,aB (ahM T) ?_],[qN 3 gU.nd [("edge",s.heap.objs.size+1)] ["box","edge"] [2] (tt:=(alw (tOp _ (tOp (aek K) _ _) _))) ?_ (fun _ _ _ _=>(Mf (zL apO (aat (ixG tb_g%) (pv 0) Hv (fun _ _=>rfl)) (pv 1) (vB _)))) (fun _ _ _ _=>(pv 0))]) "p",?_]
  k_dat lq "c"
  show#[_,rfl,rdG hp (kY T) #[_,rfl,rdG hp (abB T) #[_,_,rfl,rfl,?_]]];show#[_,rfl,l,rfl,#[_,.inl (.inl hb.l)],fun D hD=>?_];refine Jr (K:=K) (a:=l) (xs:=ps.map fun p=>V.ref p.1) (fun i ys H2=>ys=((ps.take i).filter fun p=>decide (c-k<p.2.l)).map (fun p=>V.ref p.1)/\H2=upd H D (.lst ys)) #[by simp,rfl] ?_ ?_ ?_ ?_ ?_
  ·rintro i ys H2 hi ⟨rfl,rfl⟩;show#[.inl (.inl ((Same.new hD) _ _ hb.l)),aj,aQ ?_];rw[aC];have:=Dg (fun p:Bp=>decide (c-k<p.2.l)) (ps.take i);rw[d8]at this;lia
  ·rintro i ys H2 x hx ⟨rfl,rfl⟩
   k_dat (z,hz,Zb,hx) "G"
   have ht:=(Same.new (o:=.lst (((ps.take i).filter fun p=>decide (c-k<p.2.l)).map (fun p=>V.ref p.1))) hD) _ _ (hb.t z (xj hz));show#[_,rfl,pA (.inl (.inl ht)) (v:=.int z.2.l) rfl #[_,rfl,_,_,rfl,rfl,_,rfl,cD (fun hc=>?_) (fun hc=>?_)]]
   ·have hc:c-k<z.2.l:=of_decide_eq_true hc;show#[_,rfl,aj,?_,by rw[cC]];rw[mL,hz,uK,bG];show _=_++(([z]:List Bp).filter fun p=>decide (c-k<p.2.l)).map (fun p=>V.ref p.1);rw[ace (by simpa using hc)];rfl
   ·have hc:¬ c-k<z.2.l:=fun y=>hc (decide_eq_true y);show#[aj,?_,rfl];rw[mL,hz,uK,bG];show _=_++(([z]:List Bp).filter fun p=>decide (c-k<p.2.l)).map (fun p=>V.ref p.1);rw[Vp (by simpa using hc)];simp
  ·rintro ys H2 ⟨rfl,rfl⟩;rw[aC,nJ]
   k_dat (nwA hD,H3,sD,fH3) "n"
   have bD:Bxs H3 D (ps.filter fun p=>decide (c-k<p.2.l)):=#[fH3,fun z m=>sD _ _ (hb.t z (nO.mp m).1)];have hlen:=Dg (fun p:Bp=>decide (c-k<p.2.l)) ps;show#[_,rfl,_,rfl,rdG (sD _ _ hp) (Y9 T) ?_];show#[D,r,_,rfl,bD,by lia,r0,r64,fun l' ps' H4 hl' e' b' s4=>?_];have hp4:=s4 _ _ (sD _ _ hp)
   k_dat (dx,hp4,T.xq,T.Va) "o"
   rw[EY];have npl:∀b o,H4 b=some o->(∀C d fs,o≠.ins C d fs)->b≠p:=fun b o e n z=>by rw[z,hp4]at e;exact n _ _ _ (bN e).symm
   refine q l' ps' _ ?_ #[aj,#[by rw[ao (npl _ _ b'.l (by intro _ _ _ z;cases z))];exact b'.l,fun z m=>by rw[ao (npl _ _ (b'.t z m) (by intro _ _ _ z;cases z))];exact b'.t z m]] (fun b o e n=>by rw[ao n];exact s4 _ _ (sD _ _ e)) (sD.free hl');rw[e'];unfold gP bx;rw[List.filter_map];rfl
  ·exact fun σ H R R' hr h=>pD (zP (afZ (eE 0) (aeK _)) (eE 1)) σ H R R' hr h
  ·exact eE 0
def asY(A:Ad):Sp:=fun vs H Q _=>Ex8 fun(p dx l:Addr) (r k c v:Int) (ps:List Bp)=>KQ (vs=[.ref p,.int v]) (Wn A H p dx l r k c ps) (ps.length<=400) (0<=r) (r<=64) (∀(l':Addr)(ps':List Bp)(H':Hp),bx ps'=gP r (c+1-k) (bx ps++[#[c+1,c+1,v]])->Wn A H' p dx l' r k (c+1) ps'->But p H H'->H l'=none->Q .non H')
theorem Tj(T:Tx K mg A):FnM P w mg base T.vU CX0 5 (asY A):=by
 k_dat (T.vU,T.vU.ok,Tc) "f"
 ·obtain⟨p,dx,l,r,k,c,v,ps,rfl,hw,h400,r0,r64,q⟩:=h;show#[_,by (k_dat ([hdA],[cW ?_ T.xq (uE T) ?_],[]) "p"; k_dat je "h"; k_dat pq "h"),?_];show#[_,rfl,rdG hw.o (kY T) #[_,_,rfl,rfl,_,rfl,p,_,dx,_,rfl,hw.o,T.xq,T.QB,tb_g%,?_]];rw[wj]
  k_dat (nbA,H1,b1,w1) "n"
  have x1:=hw.b.but b1 hw.o;show#[_,rfl,p,dx,_,rfl,w1,abC _ _ _ _ tb_g% tb_g% tb_g% tb_g%,?_];show#[_,rfl,rdG w1 (zu T) ?_];show#[_,rfl,rdG w1 (kY T) #[_,rfl,rdG w1 (kY T) #[_,rfl,tb_g%,fun t ht=>#[tb_g%,fun l1 hl1=>?_]]]];have s2:Same H1 (upd H1 t (bt #[c+1,c+1,v])):=Same.new ht;have t2:(upd H1 t (bt #[c+1,c+1,v])) t=some (bt #[c+1,c+1,v]):=aj;show rCat _ _ (upd (upd H1 t (bt #[c+1,c+1,v])) l1 (.lst [.ref t])) _;have hl1':(upd H1 t (bt #[c+1,c+1,v])) l1=none:=hl1;generalize upd H1 t (bt #[c+1,c+1,v])=H2 at s2 t2 hl1' ⊢
  k_dat (nwA hl1',H3,s3,t3) "n"
  show#[l,l1,_,_,rfl,rfl,s3 _ _ (s2 _ _ x1.l),t3,iV (aQ (by rw[aC];show ps.length+1<=1000;lia)),fun l2 hl2=>?_]
  k_dat (nwA hl2,H4,s4,fH4) "n"
  have s14:Same H1 H4:=s2.trans (s3.trans s4);have x4:Bxs H4 l2 (ps++[(t,#[c+1,c+1,v])]):=by
   show#[by rw[fH4,bG];rfl,fun z m=>?_]
   walk_at "v"
   ·exact s14 _ _ (x1.t z m)
   ·rw[cI.mp m];exact s4 _ _ (s3 _ _ t2)
  show#[p,dx,l2,l,r,k,c+1,_,rfl,s14 _ _ w1,x4,by rw[bB];show ps.length+1<=500;lia,r0,r64,fun l' ps' H5 e' w5 b5 n5=>?_];have bb:But p H H5:=fun b o e n=>b5 b o (s14 _ _ (b1 b o e n)) n;refine q l' ps' H5 (by rw[e'];unfold bx;rw[bG];rfl) w5 bb ?_;exact eF b1 (s14.free n5) (fun z=>by rw[z,s14 _ _ w1]at n5;cases n5)
def ape(A:Ad):Sp:=fun vs H Q _=>Ex8 fun(p dx l:Addr) (r k c v:Int) (ps:List Bp)=>KQ (vs=[.ref p,.int v]) (Wn A H p dx l r k c ps) (ps.length<=400) (0<=r) (r<=64) (∀(l':Addr)(ps':List Bp)(H':Hp),bx ps'=gP r (c+v-k) (bx ps)->Wn A H' p dx l' r k (c+v) ps'->But p H H'->H l'=none->Q .non H')
theorem zx(T:Tx K mg A):FnM P w mg base T.sS CX0 5 (ape A):=by
 k_dat (T.sS,T.sS.ok,QT) "f"
 ·obtain⟨p,dx,l,r,k,c,v,ps,rfl,hw,h400,r0,r64,q⟩:=h;show#[_,by k_dat ([],[cW ?_ T.xq (uE T) ?_],[]) "p",?_]
  k_dat (hw.o,kY,T.xq,T.QB) "r"
  rw[wj]
  k_dat (nbA,H1,b1,w1) "n"
  have x1:=hw.b.but b1 hw.o;show#[_,rfl,p,dx,_,rfl,w1,abC _ _ _ _ tb_g% tb_g% tb_g% tb_g%,?_];show#[_,rfl,rdG w1 (zu T) ?_];show#[p,dx,l,l,r,k,c+v,ps,rfl,w1,x1,by lia,r0,r64,fun l' ps' H5 e' w5 b5 n5=>?_];exact q l' ps' H5 e' w5 (fun b o e n=>b5 b o (b1 b o e n) n) (eF b1 n5 (fun z=>by rw[z,w1]at n5;cases n5))
open MK
def anq:Sp:=fun vs H Q _=>∃n:Int,vs=[.int n]/\Q (.int (n*770093176312745717 % 1152921504606846976)) H
theorem ahO(T:Tx K mg A):FnK P w base T.QG CX0 1 anq:=by
 k_dat (T.QG,T.QG.ok,ahJ) "f"
 ·obtain⟨n,rfl,q⟩:=h;obtain⟨_,Q8,Q9⟩:=T.afb;obtain⟨_,anr,ant⟩:=T.anh;show#[_,by k_dat ([],[],[dU (v:=.int 770093176312745717) rfl anr ant,dU (v:=.int 1152921504606846976) rfl Q8 Q9]) "p",?_];show#[_,rfl,_,_,rfl,rfl,eY tb_g% tb_g%,_,_,rfl,rfl,(by show(0:Int)<1152921504606846976;decide),q]
def tE(r:Int)(h:Nat):Prop:=(r=0/\h=60)\/RW r h
theorem tE.uniq{r:Int}{h k:Nat}(a:tE r h)(b:tE r k):h=k:=by
 rcases a with⟨a,rfl⟩|a
 ·rcases b with⟨_,rfl⟩|b
  ·rfl
  ·exact absurd a b.ne
 ·rcases b with⟨b,rfl⟩|b
  ·exact absurd b a.ne
  ·exact a.uniq b
def asZ:Sp:=fun vs H Q _=>∃n:Int,vs=[.int n]/\∀h:Nat,tE (n*770093176312745717 % 1152921504606846976) h->Q (.int h) H
def restOf(σ:St)(_:Hp):Nat:=match σ with
 |[_,some (.int x),_]=>x.toNat
 |_=>0
theorem Zc(T:Tx K mg A):FnK P w base T.ae9 CX0 2 asZ:=by
 k_dat (T.ae9,T.ae9.ok,ago) "f"
 ·obtain⟨n,rfl,q⟩:=h;obtain⟨_,KY,KZ⟩:=T.Ku;show#[_,by k_dat ([],[ago.nd,aB (ahO T) ?_],[dU (v:=.int 60) rfl KY KZ]) "p",?_];show#[_,rfl,n,rfl,?_];have z0:=yc (n*770093176312745717) (show(1152921504606846976:Int)≠0 by decide);have z1:=xZ (n*770093176312745717) (show(0:Int)<1152921504606846976 by decide);generalize n*770093176312745717 % 1152921504606846976=r at q z0 z1
  k_dat lqg "c"
  show#[_,rfl,rfl,_,rfl,cD (fun h=>?_) (fun h=>?_)]
  ·have e:V.int r=V.int 0:=of_decide_eq_true h;exact q 60 (.inl #[V.int.inj e,rfl])
  ·have ne:r≠0:=fun z=>h (decide_eq_true (congrArg V.int z));refine yD (fun σ H'=>Ex2 fun(x:Int) (i:Nat)=>tD (σ=[some (.int n),some (.int x),some (.int (i:Int))]) (To r x i) (H'=H)) restOf #[r,0,rfl,#[by simp,ne],rfl] ?_
    (by rintro σ H Q Q' hq ⟨v,e,i,j,e1,e2,h,sc,k,e3,q⟩;show#[v,e,i,j,e1,e2,h,sc,k,e3,hq _ _ q])
   rintro σ H' ⟨x,i,rfl,ht,rfl⟩;show#[_,rfl,_,_,rfl,rfl,(by show(0:Int)<2;decide),rfl,_,rfl,cD (fun h=>?_) (fun h=>?_)]
   ·k_dat lq "c"
    have e:x % 2=0:=V.int.inj (of_decide_eq_true h);have hx:=ht.lt tb_g% z1;show#[_,rfl,_,_,rfl,rfl,#[by decide,by decide],_,rfl,_,_,rfl,rfl,#[x / 2,i+1,?_,ht.step e,rfl],?_]
    ·rw[show((i+1:Nat):Int)=(i:Int)+1 by lia];rfl
    ·show(x / 2).toNat<x.toNat;lia
   ·have e:¬ x % 2=0:=fun z=>h (decide_eq_true (congrArg V.int z));show#[_,rfl,q i (.inr (ht.stop e))]
def df(au bA cM dZ:V):List (Str × V):=[("room",au),("arrivals",bA),("level",cM),("kept",dZ)]
theorem Zd{K:aG}{mg:Str->Option Value}{A:Ad}{au bA cM dZ:V}(T:Tx K mg A):Fd K A.C'2 ("room" : Str) (df au bA cM dZ) au:=#[T.zZ,T.aga,rfl]
theorem qR{K:aG}{mg:Str->Option Value}{A:Ad}{au bA cM dZ:V}(T:Tx K mg A):Fd K A.C'2 ("arrivals" : Str) (df au bA cM dZ) bA:=#[T.zZ,T.Vb,rfl]
theorem anu(au bA cM dZ:V):(df au bA cM dZ).lookup ("level" : Str)=some cM:=by rfl
theorem jM{K:aG}{mg:Str->Option Value}{A:Ad}{au bA cM dZ:V}(T:Tx K mg A):Fd K A.C'2 ("level" : Str) (df au bA cM dZ) cM:=#[T.zZ,T.Vc,rfl]
theorem wu{K:aG}{mg:Str->Option Value}{A:Ad}{au bA cM dZ:V}(T:Tx K mg A):Fd K A.C'2 ("kept" : Str) (df au bA cM dZ) dZ:=#[T.zZ,T.Vd,rfl]
theorem as3(au bA cM dZ:V):bU "kept" dZ (bU "level" cM (bU "arrivals" bA (bU "room" au [])))=df au bA cM dZ:=by
 unfold df
 walk_at "rec"
theorem wU(au bA cM dZ y:V):bU "arrivals" y (df au bA cM dZ)=df au y cM dZ:=by
 unfold df
 walk_at "rec"
theorem Fb(au bA cM dZ y:V):bU "level" y (df au bA cM dZ)=df au bA y dZ:=by
 unfold df
 walk_at "rec"
theorem Jz(au bA cM dZ y:V):bU "kept" y (df au bA cM dZ)=df au bA cM y:=by
 unfold df
 walk_at "rec"
theorem ap9(au bA cM dZ:V){m:Str}(CW:¬ m = "room")(afe:¬ m = "arrivals")(apf:¬ m = "level")(as4:¬ m = "kept"):(df au bA cM dZ).lookup m=none:=by
 unfold df;rw[cg CW,cg afe,cg apf,cg as4];rfl
def apg(A:Ad):Sp:=fun vs H Q _=>Ex3 fun(p dx:Addr) (r:Int)=>tD (vs=[.ref p,.int r]) (H p=some (.ins A.C'2 dx [])) (∀(d:Addr)(H':Hp),H d=none->H' p=some (.ins A.C'2 dx (df (.int r) (.int 0) (.int 0) (.ref d)))->H' d=some (.lst [])->But p H H'->Q .non H')
theorem Iw(T:Tx K mg A):FnM P w mg base T.lY CX0 1 (apg A):=by
 k_dat (T.lY,T.lY.ok,Io) "f"
 ·obtain⟨p,dx,r,rfl,hp,q⟩:=h
  walk_at "B"
  show#[_,rfl,_,rfl,p,_,dx,[],rfl,hp,T.zZ,T.aga,tb_g%,?_]
  k_dat (dx,aj,T.zZ,T.Vb) "o"
  k_dat (dx,aj,T.zZ,T.Vc) "o"
  rw[cC,cC];show#[tb_g%,fun d hd=>?_];have npd:p≠d:=fun z=>by rw[<-z,aj]at hd;cases hd
  rw[ao (aL npd)]at hd;show#[_,rfl,p,_,dx,_,rfl,(by rw[ao npd];exact aj),T.zZ,T.Vd,tb_g%,?_];refine q d _ hd (Oe aj (by rw[as3])) (by rw[ao (aL npd),aj]) fun b o e hb=>?_;rwa[ao hb,ao (ak e hd),ao hb]
theorem aph{n:Int}{h:Nat}(m:tE (n*770093176312745717 % 1152921504606846976) h):h<=60:=by
 rcases m with⟨_,rfl⟩|m
 ·exact aJ _
 ·have:=m.lt (yc _ tb_g%) (xZ _ tb_g%);lia
theorem agq:∀(n:Nat)(r:Int),r.natAbs<=n->r≠0->∃h,RW r h
 |0,r,h,h0=>absurd (show r=0 by lia) h0
 |n+1,r,h,h0=>by
  by_cases e:r % 2=1
  ·show#[0,r,by simp,e]
  ·obtain⟨k,m,e1,e2⟩:=agq n (r / 2) tb_g% tb_g%;show#[k+1,m,?_,e2];rw[yd,<-BW,<-e1];lia
theorem Mi(k:Int):∃h,tE (k*770093176312745717 % 1152921504606846976) h:=by
 by_cases e:k*770093176312745717 % 1152921504606846976=0
 ·show#[60,.inl #[e,rfl]]
 ·obtain⟨h,hh⟩:=agq _ _ (aJ _) e;show#[h,.inr hh]
noncomputable def mkOf(k:Int):Int:=(akP (Mi k):Nat)
theorem mk_eq{k:Int}{h:Nat}(m:tE (k*770093176312745717 % 1152921504606846976) h):(h:Int)=mkOf k:=by
 rw[m.uniq (akO (Mi k))];rfl
theorem mk_le(k:Int):mkOf k<=60:=by
 obtain⟨h,m⟩:=Mi k;have:=aph m;rw[<-mk_eq m];lia
noncomputable def up(v:Int)(ks:List Int):List Int:=ks.filter fun z=>decide (v<=mkOf z)
theorem anv{v w:Int}(h:v<=w)(ks:List Int):up w (up v ks)=up w ks:=by
 unfold up;rw[List.filter_filter];apply List.filter_congr;intro x _;by_cases e:w<=mkOf x
 ·rw[decide_eq_true e,decide_eq_true (show v<=mkOf x by lia)];rfl
 ·rw[decide_eq_false e];rfl
theorem as5{v:Int}{ks:List Int}(h:∀z∈ks,v<=mkOf z):up v ks=ks:=by
 unfold up;rw[aik];exact fun z hz=>decide_eq_true (h z hz)
theorem agr{v:Int}(h:60<v)(ks:List Int):up v ks=[]:=by
 unfold up;rw[Mr];intro z _ e;have:=of_decide_eq_true e;have:=mk_le z;lia
theorem afg{v z:Int}{ks:List Int}:z∈up v ks↔z∈ks/\v<=mkOf z:=by
 unfold up;rw[nO,decide_eq_true_iff]
def srt(ns:List Int):List Int:=ns.mergeSort fun a b=>decide (a<=b)
theorem iM:∀{xs ys:List Int},xs.Perm ys->xs.Pairwise (· <= ·)->ys.Pairwise (· <= ·)->xs=ys
 |[],ys,p,_,_=>by rw[aiz.mp p]
 |x::xs,[],p,_,_=>absurd p (by simp)
 |x::xs,y::ys,p,h1,h2=>by
  have a1:=iG.mp h1;have a2:=iG.mp h2;have e:x=y:=by
   have m1:x∈y::ys:=p.mem_iff.mp bV;have m2:y∈x::xs:=p.mem_iff.mpr bV;rcases aO.mp m1 with z|z
   ·exact z
   ·rcases aO.mp m2 with z'|z'
    ·exact z'.symm
    ·exact ajU (a1.1 y z') (a2.1 x z)
  subst e;rw[iM (akU p) a1.2 a2.2]
theorem fU(ns:List Int):(srt ns).Perm ns:=Vv _ _
theorem vH(ns:List Int):(srt ns).Pairwise (· <= ·):=by
 have:=acd (le:=fun a b:Int=>decide (a<=b)) (fun a b c h1 h2=>by simp only[decide_eq_true_eq]at *; lia) (fun a b=>by simp only[ade,decide_eq_true_eq];lia) ns;exact this.imp fun h=>of_decide_eq_true h
theorem Cp{ns ms:List Int}(p:ms.Perm ns)(h:ms.Pairwise (· <= ·)):ms=srt ns:=iM (p.trans (fU ns).symm) h (vH ns)
theorem ahP{ns ms:List Int}(p:ms.Perm ns):srt ms=srt ns:=iM ((fU ms).trans (p.trans (fU ns).symm)) (vH _) (vH _)
theorem anw(v:Int)(ns:List Int):up v (srt ns)=srt (up v ns):=Cp ((fU ns).filter _) ((vH ns).filter _)
theorem fZ(ns:List Int):(srt ns).length=ns.length:=(fU ns).length_eq
theorem zM{z:Int}{ns:List Int}:z∈srt ns↔z∈ns:=(fU ns).mem_iff
def ahQ:Sp:=fun vs H Q _=>Ex3 fun(l:Addr) (v:Int) (ks:List Int)=>z7 (vs=[.ref l,.int v]) (H l=some (.lst (ks.map V.int))) (ks.length<=900) (∀(l':Addr)(H':Hp),H l'=none->H' l'=some (.lst ((up v ks).map V.int))->Same H H'->Q (.ref l') H')
theorem abE(T:Tx K mg A):FnK P w base T.CJ CX0 3 ahQ:=by
 k_dat (T.CJ,T.CJ.ok,aby) "f"
 ·obtain⟨l,v,ks,rfl,hl,h500,q⟩:=h;show#[_,by k_dat ([fM],[],[ug [("level",s.heap.objs.size+1)] ["thing","level"] [1] ?_ (fun _ _ _ _=>(Mf (zL alv (aB (Zc T) (aM (pv 0) cR)) (pv 1) (vB _)))) (fun _ _ _ _=>(pv 0))]) "p",?_];show#[_,rfl,l,rfl,#[_,.inl (.inl hl)],fun D hD=>?_];refine Jr (K:=K) (a:=l) (xs:=ks.map V.int) (fun i ys H2=>ys=(up v (ks.take i)).map V.int/\H2=upd H D (.lst ys)) #[rfl,rfl] ?_ ?_ ?_ ?_ ?_
  ·rintro i ys H2 hi ⟨rfl,rfl⟩;show#[.inl (.inl ((Same.new hD) _ _ hl)),aj,aQ ?_];have:(up v (ks.take i)).length<=(ks.take i).length:=Dg _ _;rw[d8]at this;rw[aC];lia
  ·rintro i ys H2 x hx ⟨rfl,rfl⟩
   k_dat (z,hz,int_at,hx) "G"
   show#[_,rfl,z,rfl,fun h hh=>#[_,rfl,_,_,rfl,rfl,_,rfl,cD (fun hc=>?_) (fun hc=>?_)]]
   ·have hc:v<=(h:Int):=of_decide_eq_true hc;rw[mk_eq hh]at hc;show#[_,rfl,aj,?_,by rw[cC]];have e:up v (ks.take (i+1))=up v (ks.take i)++[z]:=by
     rw[mL,hz];unfold up;rw[uK];simp[hc]
    rw[e,bG];rfl
   ·have hc:¬ v<=(h:Int):=fun y=>hc (decide_eq_true y);rw[mk_eq hh]at hc;show#[aj,?_,rfl];have e:up v (ks.take (i+1))=up v (ks.take i):=by
     rw[mL,hz];unfold up;rw[uK];simp[hc]
    rw[e]
  ·rintro ys H2 ⟨rfl,rfl⟩;rw[aC,nJ];exact q D _ hD aj (Same.new hD)
  ·exact fun σ H R R' hr ⟨v,e,n,en,q⟩=>#[v,e,n,en,fun h m=>by
    obtain ⟨u,eu,i,j,ei,ej,k,ek,r⟩:=q h m;show#[u,eu,i,j,ei,ej,k,ek,hr _ _ r]]
  ·exact eE 0
structure Dn(A:Ad)(H:Hp)(p dx l:Addr)(r n v:Int)(ks:List Int):Prop where
 o:H p=some (.ins A.C'2 dx (df (.int r) (.int n) (.int v) (.ref l)))
 l:H l=some (.lst (ks.map V.int))
theorem Dn.same{A:Ad}{H H':Hp}{p dx l:Addr}{r n v:Int}{ks:List Int}(h:Dn A H p dx l r n v ks)(s:Same H H'):Dn A H' p dx l r n v ks:=#[s _ _ h.o,s _ _ h.l]
theorem Dn.but{A:Ad}{H H':Hp}{p dx l q C e:Addr}{fs:List (Str × V)}{r n v:Int}{ks:List Int}(h:Dn A H p dx l r n v ks)(s:But q H H')(hq:H q=some (.ins C e fs))(m:p≠q):Dn A H' p dx l r n v ks:=#[s _ _ h.o m,s _ _ h.l (jd h.l hq (by intro z;cases z))]
def Lvl(r v v':Int)(ks:List Int):Prop:=v<=v'/\((up v' ks).length:Int)<=r/\∀w,v<=w->w<v'->r<((up w ks).length:Int)
theorem Lvl.le{r v v':Int}{ks:List Int}(h:Lvl r v v' ks)(r0:0<=r)(hv:v<=61):v'<=61:=by
 rcases(show v'<=61\/61<v' by lia)with z|z
 ·exact z
 ·have:=h.2.2 61 hv z;rw[agr tb_g%]at this;have e:(([]:List Int).length:Int)=0:=rfl;lia
def ahR(A:Ad):Sp:=fun vs H Q _=>Ex8 fun(p dx l l0:Addr) (r n v:Int) (ks:List Int)=>Ep (vs=[.ref p,.ref l]) (H p=some (.ins A.C'2 dx (df (.int r) (.int n) (.int v) (.ref l0)))) (H l=some (.lst (ks.map V.int))) (ks.length<=63) (0<=r) (0<=v) (v<=61) ((∀z∈ks,v<=mkOf z)/\∀(l':Addr)(v':Int)(H':Hp),Lvl r v v' ks->Dn A H' p dx l' r n v' (up v' (srt ks))->But p H H'->H l'=none->Q .non H')
def lvV:Option V->Nat
 |some (.int v)=>(100-v).toNat
 |_=>0
def lvO:Option HO->Nat
 |some (.ins _ _ fs)=>lvV (fs.lookup ("level" : Str))
 |_=>0
def lvOf(σ:St)(H:Hp):Nat:=match σ with
 |some (.ref p)::_=>lvO (H p)
 |_=>0
theorem ags{p C dx:Addr}{a b c:V}{v:Int}{σ:St}{H:Hp}(h:H p=some (.ins C dx (df a b (.int v) c))):lvOf (some (.ref p)::σ) H=(100-v).toNat:=by
 show lvO (H p)=_;rw[h];show lvV ((df a b (.int v) c).lookup ("level" : Str))=_;rw[anu];rfl
theorem CZ(T:Tx K mg A):FnM P w mg base T.jj CX0 4 (ahR A):=by
 k_dat (T.jj,T.jj.ok,pZ) "f"
 ·obtain⟨p,dx,l,l0,r,n,v,ks,rfl,hp,hl,h900,r0,v0,v61,hv,q⟩:=h;show#[_,by k_dat ([],[pZ.nd,cV (jg rfl) (by rfl) T.uq N5 ?_,aB (abE T) ?_],[]) "p",?_];show#[_,rfl,.inr #[l,ks,rfl,.inl (.inl hl),by lia,fun l1 ms hl1 pm so=>?_]];have s1:Same H (upd H l1 (.lst (ms.map V.int))):=Same.new hl1;have f1:(upd H l1 (.lst (ms.map V.int))) l1=some (.lst (ms.map V.int)):=aj;obtain rfl:ms=srt ks:=Cp pm so;have lm:=pm.length_eq;show ad4 _ _ _ [some (.ref p),some (.ref l),some (.ref l1)] (upd H l1 (.lst ((srt ks).map V.int)));generalize upd H l1 (.lst ((srt ks).map V.int))=H1 at s1 f1 ⊢;have e0:up v (srt ks)=srt ks:=as5 fun z hz=>hv z (zM.mp hz);have lu:∀w,(up w (srt ks)).length=(up w ks).length:=fun w=>by rw[anw,fZ]
  refine yD (fun σ G=>Ex2 fun(l2:Addr) (w:Int)=>Ep (σ=[some (.ref p),some (.ref l),some (.ref l2)]) (H l2=none) (G p=some (.ins A.C'2 dx (df (.int r) (.int n) (.int w) (.ref l0)))) (G l2=some (.lst ((up w (srt ks)).map V.int))) (But p H G) (v<=w) ((w<=61)) (∀u,v<=u->u<w->r<((up u ks).length:Int))) lvOf
   #[l1,v,rfl,hl1,s1 _ _ hp,by rwa[e0],s1.but p,cQ _,v61,fun u a b=>by lia] ?_ ?_
  ·rintro σ G ⟨l2,w,rfl,nl2,gp,gl,bt,hvw,hw,hd⟩;have lms:(up w (srt ks)).length<=ks.length:=by rw[lu];exact Dg _ _
   show#[_,rfl,cj (.inl (.inl gl)) #[_,rfl,rdG gp (Zd T) #[_,_,rfl,rfl,_,rfl,cD (fun hc=>?_) (fun hc=>?_)]]]
   ·k_dat lq "c"
    have hc:r<(((up w (srt ks)).map V.int).length:Int):=of_decide_eq_true hc;rw[aC]at hc;have hw60:w<=60:=by
     rcases(show w<=60\/60<w by lia)with z|z
     ·exact z
     ·rw[agr z]at hc;have e:(([]:List Int).length:Int)=0:=rfl;lia
    show#[_,rfl,rdG gp (jM T) #[_,_,rfl,rfl,_,rfl,p,_,dx,_,rfl,gp,T.zZ,T.Vc,tb_g%,?_]];rw[Fb];have npl:l2≠p:=jd gl gp (by intro z;cases z);have b2:But p G (upd G p (.ins A.C'2 dx (df (.int r) (.int n) (.int (w+1)) (.ref l0)))):=But.upd;have o2:(upd G p (.ins A.C'2 dx (df (.int r) (.int n) (.int (w+1)) (.ref l0)))) p=some (.ins A.C'2 dx (df (.int r) (.int n) (.int (w+1)) (.ref l0))):=aj;have lw:=ags (σ:=[some (.ref l),some (.ref l2)]) gp;have gl2:=b2 _ _ gl npl;show#[_,rfl,_,rfl,rdG o2 (jM T) #[l2,w+1,_,rfl,gl2,by lia,fun l3 G3 nl3 gl3 s3=>?_]];have nl3':H l3=none:=by
     refine eF (fun b o e m=>b2 b o (bt b o e m) m) nl3 fun z=>?_;rw[z,o2]at nl3;cases nl3
    rw[anv (show w<=w+1 by lia)]at gl3;show#[#[l3,w+1,rfl,nl3',s3 _ _ o2,gl3,fun b o e m=>s3 _ _ (b2 b o (bt b o e m) m),by lia,by lia,fun u a b=>?_],?_]
    ·rcases(show u<w\/u=w by lia)with z|z
     ·exact hd u a z
     ·rwa[z,<-lu]
    ·rw[lw];refine nZ (GF (ags (s3 _ _ o2))) ?_;lia
   ·have hc:¬ r<(((up w (srt ks)).map V.int).length:Int):=fun z=>hc (decide_eq_true z);rw[aC]at hc;show#[_,rfl,_,rfl,p,_,dx,_,rfl,gp,T.zZ,T.Vd,tb_g%,?_];rw[Jz];have npl:l2≠p:=jd gl gp (by intro z;cases z);refine q l2 w _ #[hvw,by rw[<-lu];lia,hd] #[aj,by rwa[ao npl]] (fun b o e m=>by rw[ao m];exact bt b o e m) nl2
  ·exact fun σ H Q Q' hq h=>pD (zP (aaU (Ux (eE 2) aaT)) (Pr (eE 0))) σ H Q Q' hq h
theorem anx(k:Int)(ks:List Int):inV (.int k) (ks.map V.int)=decide (k∈ks):=by
 induction ks with
 |nil=>rfl
 |cons x r ih =>
  show(eqV (.int x) (.int k) || inV (.int k) (r.map V.int))=_;rw[ih];show((x == k) || decide (k∈r))=decide (k∈x::r);by_cases e:k=x
  ·subst e;simp
  ·have:(x == k)=false:=by simp;exact fun z=>e z.symm
   rw[this];simp[e]
theorem anz(ks:List Int):(ks.map V.int).all yE=true:=by
 rw[Ay];intro x m;obtain⟨z,_,rfl⟩:=cX.mp m;rfl
def came(C:List Int)(k:Int):List Int:=if k∈C then C else C++[k]
theorem abF(C:List Int)(k:Int):C.length<=(came C k).length/\(came C k).length<=C.length+1:=by
 unfold came;split
 ·lia
 ·rw[bB];show C.length<=C.length+1/\_;show#[by lia,aJ _]
theorem apj{C:List Int}{k w:Int}:(up w C).length<=(up w (came C k)).length:=by
 unfold came;split
 ·exact aJ _
 ·unfold up;rw[uK,bB];lia
def Fe(r v:Int)(C:List Int):Prop:=0<=v/\((up v C).length:Int)<=r/\∀w,0<=w->w<v->r<((up w C).length:Int)
theorem Fe.lvl{r v v':Int}{C D:List Int}(h:Fe r v C)(g:Lvl r v v' D)(hm:∀w,(up w C).length<=(up w D).length):Fe r v' D:=by
 have:=h.1;have:=g.1;show#[by lia,g.2.1,fun w a b=>?_];rcases(show w<v\/v<=w by lia)with z|z
 ·have:=h.2.2 w a z;have:=hm w;lia
 ·exact g.2.2 w z b
theorem Fe.le{r v:Int}{C:List Int}(h:Fe r v C)(r0:0<=r):v<=61:=Lvl.le (ks:=C) (v:=0) #[h.1,h.2.1,h.2.2] r0 tb_g%
def as6(A:Ad):Sp:=fun vs H Q _=>Ex8 fun(p dx l:Addr) (r n v k:Int) (C:List Int)=>abA (vs=[.ref p,.int k]) (Dn A H p dx l r n v (srt (up v C))) (Fe r v C) (C.length<=62) (0<=r) (r<=800) (∀(l':Addr)(v':Int)(H':Hp),Lvl r v v' (came C k)->Dn A H' p dx l' r (n+1) v' (srt (up v' (came C k)))->But p H H'->(l'=l\/H l'=none)->Q .non H')
theorem K4(T:Tx K mg A):FnM P w mg base T.pH CX0 5 (as6 A):=by
 k_dat (T.pH,T.pH.ok,Kw) "f"
 ·obtain⟨p,dx,l,r,n,v,k,C,rfl,hd,hL,h8,r0,r8,q⟩:=h;have v0:=hL.1;have v61:=hL.le r0;have hlen:(srt (up v C)).length<=62:=by have:(up v C).length<=C.length:=Dg _ _;rw[fZ];lia
  show#[_,by (k_dat ([hdA,ase],[aB (Zc T) ?_,cW ?_ T.zZ (CZ T) ?_],[]) "p"; k_dat je "h"; k_dat pq "h"),?_];show#[_,rfl,rdG hd.o (qR T) #[_,_,rfl,rfl,_,rfl,p,_,dx,_,rfl,hd.o,T.zZ,T.Vb,tb_g%,?_]];rw[wU]
  k_dat (nbA,H1,b1,fH1) "n"
  have d1:Dn A H1 p dx l r (n+1) v (srt (up v C)):=#[fH1,b1 _ _ hd.l (jd hd.l hd.o (by intro z;cases z))];show#[_,rfl,k,rfl,fun h hh=>#[_,rfl,rdG d1.o (jM T) #[_,_,rfl,rfl,_,rfl,cD (fun hc=>?_) (fun hc=>?_)]]]
  ·have hc:v<=(h:Int):=of_decide_eq_true hc;rw[mk_eq hh]at hc;show#[_,rfl,_,rfl,rdG d1.o (wu T) (.inl #[l,_,rfl,.inl (.inl (.inl d1.l)),rfl,anz _,_,rfl,?_])];rw[if_pos rfl,anx];by_cases m:k∈srt (up v C)
   ·rw[decide_eq_true m];have ec:came C k=C:=by unfold came;rw[if_pos (afg.mp (zM.mp m)).1]
    rw[ec]at q;exact qm (q l v _ #[cQ _,hL.2.1,fun w a b=>by lia] d1 b1 (.inl rfl))
   ·rw[decide_eq_false m];have hk:k∉C:=fun z=>m (zM.mpr (afg.mpr #[z,hc]));have ec:came C k=C++[k]:=by unfold came;rw[if_neg hk]
    have eu:∀w,v<=w->up w (srt (up v C)++[k])=up w (srt (up v C))++up w [k]:=fun w _=>by unfold up;rw[uK]
    refine JL #[_,rfl,p,dx,_,rfl,d1.o,ap9 _ _ _ _ tb_g% tb_g% tb_g% tb_g%,?_];show#[_,rfl,rdG d1.o (wu T) #[_,rfl,tb_g%,fun l1 hl1=>?_]];have s2:Same H1 (upd H1 l1 (.lst [.int k])):=Same.new hl1;show#[l,l1,_,_,rfl,rfl,s2 _ _ d1.l,aj,iV (aQ (by rw[aC];show(srt (up v C)).length+1<=1000;lia)),fun l2 hl2=>?_];have s3:Same H1 (upd (upd H1 l1 (.lst [.int k])) l2 (.lst ((srt (up v C)++[k]).map V.int))):=s2.trans (Same.new hl2);have f3:(upd (upd H1 l1 (.lst [.int k])) l2 (.lst ((srt (up v C)++[k]).map V.int))) l2=some (.lst ((srt (up v C)++[k]).map V.int)):=aj;rw[show(srt (up v C)).map V.int++[V.int k]=(srt (up v C)++[k]).map V.int by rw[bG];rfl];generalize upd (upd H1 l1 (.lst [.int k])) l2 (.lst ((srt (up v C)++[k]).map V.int))=H3 at s3 f3 ⊢;have d3:=d1.same s3;have pm:(srt (up v C)++[k]).Perm (up v (C++[k])):=by
     have:up v (C++[k])=up v C++[k]:=by unfold up;rw[uK];simp[hc]
     rw[this];exact(fU _).append_right _
    show#[p,dx,l2,l,r,n+1,v,_,rfl,d3.o,f3,by rw[bB];show(srt (up v C)).length+1<=63;lia,r0,v0,v61,(fun z hz=>(afg.mp (pm.mem_iff.mp hz)).2),fun l' v' H' lv dn bt nl=>?_];have el:∀w,v<=w->(up w (srt (up v C)++[k])).length=(up w (C++[k])).length:=fun w hw=>(pm.filter _).length_eq.trans (congrArg gZ (anv hw _));have nl1:H1 l'=none:=s3.free nl;have nl0:H l'=none:=eF b1 nl1 fun z=>by rw[z,d1.o]at nl1;cases nl1
    refine q l' v' H' ?_ ?_ (fun b o e m'=>bt b o (s3 _ _ (b1 b o e m')) m') (.inr nl0)
    ·rw[ec];show#[lv.1,by rw[<-el _ lv.1];exact lv.2.1,fun w a b=>by rw[<-el _ a];exact lv.2.2 w a b]
    ·rw[ec];have:up v' (srt (srt (up v C)++[k]))=srt (up v' (C++[k])):=by
      rw[ahP pm,anw,anv lv.1]
     rwa[this]at dn
  ·have hc:¬ v<=(h:Int):=fun z=>hc (decide_eq_true z);rw[mk_eq hh]at hc;have ew:∀w,v<=w->up w (came C k)=up w C:=fun w hw=>by
    unfold came;split
    ·rfl
    ·unfold up;rw[uK];simp[show ¬ w<=mkOf k by lia]
   refine qm (q l v _ #[cQ _,by rw[ew v (cQ _)];exact hL.2.1,fun w a b=>by lia] ?_ b1 (.inl rfl));rwa[ew v (cQ _)]
def fl(r t l:Int)(d:Addr):List (Str × V):=[("room",.int r),("total",.int t),("lost",.int l),("counts",.ref d)]
theorem Ze{K:aG}{mg:Str->Option Value}{A:Ad}{r t l:Int}{d:Addr}(T:Tx K mg A):Fd K A.C'3 ("room" : Str) (fl r t l d) (.int r):=#[T.yU,T.agb,rfl]
theorem Ra{K:aG}{mg:Str->Option Value}{A:Ad}{r t l:Int}{d:Addr}(T:Tx K mg A):Fd K A.C'3 ("total" : Str) (fl r t l d) (.int t):=#[T.yU,T.Ve,rfl]
theorem Zf{K:aG}{mg:Str->Option Value}{A:Ad}{r t l:Int}{d:Addr}(T:Tx K mg A):Fd K A.C'3 ("lost" : Str) (fl r t l d) (.int l):=#[T.yU,T.Vf,rfl]
theorem zW{K:aG}{mg:Str->Option Value}{A:Ad}{r t l:Int}{d:Addr}(T:Tx K mg A):Fd K A.C'3 ("counts" : Str) (fl r t l d) (.ref d):=#[T.yU,T.Vg,rfl]
theorem ne1:¬ (("room" : Str) = "total"):=by decide +kernel
theorem ne2:¬ (("room" : Str) = "lost"):=by decide +kernel
theorem ne3:¬ (("room" : Str) = "counts"):=by decide +kernel
theorem ne4:¬ (("total" : Str) = "lost"):=by decide +kernel
theorem ne5:¬ (("total" : Str) = "counts"):=by decide +kernel
theorem ne6:¬ (("lost" : Str) = "counts"):=by decide +kernel
theorem Zg(f:Str)(v:V)(r:List (Str × V))(u:V):bU f v ((f,u)::r)=(f,v)::r:=by unfold bU;rw[if_pos rfl]
theorem iy{f g:Str}(h:¬ g=f)(v:V)(r:List (Str × V))(u:V):bU f v ((g,u)::r)=(g,u)::bU f v r:=by rw[bU,if_neg h]
theorem as7(r t l:Int)(d:Addr):bU "counts" (.ref d) (bU "lost" (.int l) (bU "total" (.int t) (bU "room" (.int r) [])))=fl r t l d:=by
 unfold fl;rw [show bU "room" (.int r) []=[(("room" : Str),V.int r)] from rfl,iy ne1,show bU "total" (.int t) []=[(("total" : Str),V.int t)] from rfl,iy ne2,iy ne4,
  show bU "lost" (.int l) []=[(("lost" : Str),V.int l)] from rfl,iy ne3,iy ne5,iy ne6]
 rfl
theorem agt(r t l y:Int)(d:Addr):bU "total" (.int y) (fl r t l d)=fl r y l d:=by
 unfold fl;rw[iy ne1,Zg]
theorem agu(r t l y:Int)(d:Addr):bU "lost" (.int y) (fl r t l d)=fl r t y d:=by
 unfold fl;rw[iy ne2,iy ne4,Zg]
theorem agv(r t l:Int)(d e:Addr):bU "counts" (.ref e) (fl r t l d)=fl r t l e:=by
 unfold fl;rw[iy ne3,iy ne5,iy ne6,Zg]
theorem Mj{f m:Str}{v:V}{r:List (Str × V)}(h:¬ m=f):((f,v)::r).lookup m=r.lookup m:=by
 rw[aco];rw[beq_eq_false_iff_ne.mpr h]
theorem anA(r t l:Int)(d:Addr){m:Str}(h1:¬ m = "room")(h2:¬ m = "total")(h3:¬ m = "lost")(h4:¬ m = "counts"):(fl r t l d).lookup m=none:=by
 unfold fl;rw[Mj h1,Mj h2,Mj h3,Mj h4];rfl
def as8(A:Ad):Sp:=fun vs H Q _=>Ex3 fun(p dx:Addr) (r:Int)=>tD (vs=[.ref p,.int r]) (H p=some (.ins A.C'3 dx [])) (∀(d:Addr)(H':Hp),H d=none->H' p=some (.ins A.C'3 dx (fl r 0 0 d))->H' d=some (.dK (emb []))->But p H H'->Q .non H')
theorem Iz(T:Tx K mg A):FnM P w mg base T.lZ CX0 1 (as8 A):=by
 k_dat (T.lZ,T.lZ.ok,Ip) "f"
 ·obtain⟨p,dx,r,rfl,hp,k⟩:=h;show#[_,by k_dat ([aay],[],[]) "p",?_];show#[_,rfl,_,rfl,p,_,dx,[],rfl,hp,T.yU,T.agb,tb_g%,?_]
  k_dat (dx,aj,T.yU,T.Ve) "o"
  k_dat (dx,aj,T.yU,T.Vf) "o"
  rw[cC,cC];intro d hd;have npd:p≠d:=fun z=>by rw[<-z,aj]at hd;cases hd
  rw[ao (aL npd)]at hd;show#[_,rfl,p,_,dx,_,rfl,(by rw[ao npd];exact aj),T.yU,T.Vg,tb_g%,?_];refine k d _ hd (Oe aj (by rw[as7])) (by rw[ao (aL npd),aj];rfl) fun b o e hb=>?_;rwa[ao hb,ao (ak e hd),ao hb]
def Vl(room:Nat)(c:Tab)(cut:Int):Prop:=if c.length<=room then cut=0 else IsCut room c cut
theorem Vl.as9{room:Nat}{c:Tab}{cut:Int}(h:Vl room c cut)(hp:∀p∈c,1<=p.2):jG room c (cG c cut) cut:=by
 unfold Vl at h;unfold jG;by_cases e:c.length<=room
 ·rw[if_pos e]at h ⊢; show#[h,by rw[h,alZ hp]]
 ·rw[if_neg e]at h ⊢; show#[h,rfl]
def spCut:Sp:=fun vs H Q _=>Ex3 fun(g:Addr) (c:Tab) (room:Nat)=>z7 (vs=[.ref g,.int room]) (H g=some (.dK (emb c))) (c.length<64) (∀(cut:Int)(H':Hp),Vl room c cut->Same H H'->Q (.int cut) H')
theorem ahS(T:Tx K mg A):FnK P w base T.QH CX0 1 spCut:=by
 k_dat (T.QH,T.QH.ok,Vj) "f"
 ·obtain⟨g,c,room,rfl,hg,h64,q⟩:=h;show#[_,by k_dat ([],[Vj.nd,ahb T.uq ?_ ⟨rfl,rfl⟩ rfl],[]) "p",?_];show#[_,rfl,asl (.inl hg) #[_,rfl,_,_,rfl,rfl,_,rfl,cD (fun h=>?_) (fun h=>?_)]]
  ·have h':((emb c).length:Int)<=room:=of_decide_eq_true h;rw[DP]at h';exact q 0 H (by unfold Vl;rw[if_pos tb_g%]) (Same.refl H)
  ·have h':¬ ((emb c).length:Int)<=room:=fun z=>h (decide_eq_true z);rw[DP]at h';show#[_,rfl,g,emb c,vals c,rfl,.inl hg,al0 c,(by unfold vals;rwa[aC]),fun l d hl hp hs=>?_];have hlen:d.length=c.length:=by rw[hp.length_eq];unfold vals;rw[aC]
   have e:d[room]? = some d[room]:=eU tb_g%;show#[_,rfl,_,rfl,cH (.inl (.inl aj)) (v:=.int d[room]) (cZ (by rw[dF,e];rfl)) (q _ _ ?_ (Same.new hl))];unfold Vl;rw[if_neg tb_g%];show#[d,hp,hs,e]
def ahT:Sp:=fun vs H Q _=>Ex3 fun(g:Addr) (c:Tab) (cut:Int)=>abz (vs=[.ref g,.int cut]) (H g=some (.dK (emb c))) ((keys c).Nodup) (c.length<=1000) (∀(d:Addr)(H':Hp),H d=none->H' d=some (.dK (emb (cG c cut)))->Same H H'->Q (.ref d) H')
theorem abG(c:Tab)(p:Int × Int)(cut:Int):cG (c++[p]) cut=if cut<p.2 then cG c cut++[(p.1,p.2-cut)]else cG c cut:=by
 unfold cG;rw[uK,bG];by_cases h:cut<p.2
 ·rw[if_pos h];simp[h]
 ·rw[if_neg h];simp[h]
theorem take_snoc{c:Tab}{i:Nat}{p:Int × Int}(h:c[i]? = some p):c.take (i+1)=c.take i++[p]:=by
 rw[mL,h];rfl
theorem apk{c:Tab}{i:Nat}{p:Int × Int}{cut:Int}(hn:(keys c).Nodup)(h:c[i]? = some p)(hc:cut<p.2):put (cG (c.take i) cut) p.1 (p.2-cut)=cG (c.take (i+1)) cut:=by
 rw[take_snoc h,abG,if_pos hc];refine Dz fun z=>?_;have z1:=DG z;have e:keys (c.take (i+1))=keys (c.take i)++[p.1]:=by rw[take_snoc h];unfold keys;rw[bG];rfl
 have hn':(keys (c.take (i+1))).Nodup:=akT (akZ _ (aip _ _)) hn;rw[e,FW]at hn';exact hn'.2.2 p.1 z1 p.1 (by simp) rfl
theorem afh(T:Tx K mg A):FnK P w base T.Ij CX0 1 ahT:=by
 k_dat (T.Ij,T.Ij.ok,QV) "f"
 ·obtain⟨g,c,cut,rfl,hg,hn,hl,q⟩:=h;show#[_,by k_dat ([aay],[QV.nd,aor adQ rfl ?_ ⟨rfl,rfl⟩ ?_ ?_],[]) "p",?_]
  k_dat lq "c"
  intro d hd;have ngd:g≠d:=ak hg hd;have hg1:(upd H d (.dK [])) g=some (.dK (emb c)):=by rwa[ao ngd]
  show#[_,rfl,g,emb c,rfl,hg1,fun o wm=>aha (fun i σ H2=>Ex2 fun (x y:Option V)=>z7 (σ=[some (.ref g),some (.int cut),some (.ref d),x,y]) (H2 g=some (.frz o (.dK (emb c)))) (H2 d=some (.dK (emb (cG (c.take i) cut)))) ((∀ b u,H b=some u->b≠g->H2 b=some u)))
   #[none,none,rfl,aj,by rw [ao (aL ngd),aj];rfl,fun b u e hb=>by rw [ao hb,ao (ak e hd)];exact e] (fun i σ H2 ⟨_,_,_,h,_,_⟩=>h) ?_ ?_]
  ·rintro i p t σ H2 hi ⟨x,y,rfl,f1,f2,f3⟩ ht
   k_dat (pr,hpr,asj,hi) "G"
   have ngt:g≠t:=ak f1 ht;have ndt:d≠t:=ak f2 ht;have f1':(upd H2 t (.tup [.int pr.1,.int pr.2])) g=some (.frz o (.dK (emb c))):=by rwa[ao ngt]
   have f2':(upd H2 t (.tup [.int pr.1,.int pr.2])) d=some (.dK (emb (cG (c.take i) cut))):=by rwa[ao ndt]
   have f3':∀b u,H b=some u->b≠g->(upd H2 t (.tup [.int pr.1,.int pr.2])) b=some u:=fun b u e hb=>by
    have:=f3 b u e hb;rwa[ao (ak this ht)]
   show#[t,_,rfl,.inl (.inl aj),rfl,_,_,rfl,_,_,rfl,rfl,?_]
   k_dat ld "c"
   show#[_,rfl,_,rfl,_,_,rfl,rfl,_,rfl,cD (fun h=>?_) (fun h=>?_)]
   ·have hc:cut<pr.2:=of_decide_eq_true h;have hz:(emb (cG (c.take i) cut)).length<sizeLine:=by
     rw[DP];have:=aov (c.take i) cut;rw[d8]at this;exact aQ tb_g%
    show#[_,rfl,_,rfl,_,_,rfl,rfl,_,rfl,_,rfl,al3 f2' hz ?_];rw[Pa,apk hn hpr hc];show#[_,_,rfl,by rwa[ao ngd],aj,fun b u e hb=>?_];have nb:b≠d:=ak e hd;rw[ao nb];exact f3' b u e hb
   ·have hc:¬ cut<pr.2:=fun z=>h (decide_eq_true z);show#[_,_,rfl,f1',?_,f3'];rwa[take_snoc hpr,abG,if_neg hc]
  ·rintro σ H2 ⟨x,y,rfl,f1,f2,f3⟩;rw[DP,nJ]at f2;show#[g,emb c,o,wm,f1,_,rfl,q d _ hd ?_ fun b u e=>?_]
   ·rwa[ao (aL ngd)]
   ·by_cases hb:b=g
    ·subst hb;rw[aj,<-e,hg]
    ·rw[ao hb];exact f3 b u e hb
def spFit(A:Ad):Sp:=fun vs H Q _=>Ex8 fun(p dx g d:Addr) (room:Nat) (t l:Int) (c:Tab)=>abA (vs=[.ref p,.ref g]) (H p=some (.ins A.C'3 dx (fl room t l d))) (H g=some (.dK (emb c))) ((keys c).Nodup) ((∀p∈c,1<=p.2)) (c.length<64) (∀(d':Addr)(c':Tab)(cut:Int)(H':Hp),H d'=none->jG room c c' cut->H' p=some (.ins A.C'3 dx (fl room t (l+cut) d'))->H' d'=some (.dK (emb c'))->But p H H'->Q .non H')
theorem K5(T:Tx K mg A):FnM P w mg base T.pI CX0 2 (spFit A):=by
 k_dat (T.pI,T.pI.ok,wM) "f"
 ·obtain⟨p,dx,g,d,room,t,l,c,rfl,hp,hg,hn,pos,h64,q⟩:=h;show#[_,by k_dat ([],[wM.nd,aB (ahS T) ?_,aB (afh T) ?_],[]) "p",?_]
  k_dat lq "c"
  show#[_,rfl,_,rfl,rdG hp (Ze T) #[g,c,room,rfl,hg,h64,fun cut H1 hc s1=>?_]];show#[_,rfl,_,rfl,g,c,cut,rfl,s1 _ _ hg,hn,by lia,fun d' H2 hd' e2 s2=>?_];have hp2:=s2 _ _ (s1 _ _ hp);have npd:p≠d':=ak (s1 _ _ hp) hd'
  k_dat (dx,hp2,T.yU,T.Vg) "o"
  rw[agv]
  k_dat (aj,Zf,T.yU,T.Vf) "r"
  rw[agu,cC];refine q d' (cG c cut) cut _ (s1.free hd') (hc.as9 pos) aj (by rwa[ao (aL npd)]) fun b o e hb=>?_;rw[ao hb];exact s2 _ _ (s1 _ _ e)
def spAdd(A:Ad):Sp:=fun vs H Q _=>Ex8 fun(p dx d:Addr) (room:Nat) (t l k v:Int)=>∃(c:Tab),Ep (vs=[.ref p,.int k,.int v]) (H p=some (.ins A.C'3 dx (fl room t l d))) (H d=some (.dK (emb c))) ((keys c).Nodup) ((∀p∈c,1<=p.2)) (1<=v) (c.length<63) (∀(d':Addr)(c':Tab)(cut:Int)(H':Hp),H d'=none->jG room (put c k (low c k+v)) c' cut->H' p=some (.ins A.C'3 dx (fl room (t+v) (l+cut) d'))->H' d'=some (.dK (emb c'))->But p H H'->Q .non H')
theorem wV(T:Tx K mg A):FnM P w mg base T.pJ CX0 3 (spAdd A):=by
 k_dat (T.pJ,T.pJ.ok,wO) "f"
 ·obtain⟨p,dx,d,room,t,l,k,v,c,rfl,hp,hd,hn,pos,hv,h63,q⟩:=h;have npd:p≠d:=jd hp hd (by intro z;cases z);show#[_,by k_dat ([],[wO.nd,ud ael (by rfl) T.anc aqr ?_,alK tb_g% ?_ ?_ ?_ ⟨rfl,rfl,rfl,rfl⟩,cW ?_ T.yU (K5 T) ?_],[]) "p",?_]
  k_dat (hp,Ra,T.yU,T.Ve) "r"
  rw[agt]
  k_dat lqn "c"
  have hd1:(upd H p (.ins A.C'3 dx (fl room (t+v) l d))) d=some (.dK (emb c)):=by rwa[ao (aL npd)]
  show#[_,rfl,rdG aj (zW T) #[d,emb c,rfl,.inl hd1,fun g hg=>?_]];have ngp:p≠g:=fun z=>by rw[<-z,aj]at hg;cases hg
  have hg0:H g=none:=by rwa[ao (aL ngp)]at hg
  show#[_,rfl,g,rfl,.inl #[emb c,.inl aj],_,rfl,_,rdGet (.inl aj),?_];rw[aox];show#[_,rfl,_,_,rfl,rfl,_,rfl,_,rfl,al3 aj (by rw[DP];exact aQ tb_g%) ?_];rw[Pa,cC];have hp2:∀o,(upd (upd H p (.ins A.C'3 dx (fl room (t+v) l d))) g o) p=some (.ins A.C'3 dx (fl room (t+v) l d)):=fun o=>by rw[ao ngp];exact aj
  show#[_,rfl,p,dx,_,rfl,hp2 _,anA _ _ _ _ tb_g% tb_g% tb_g% tb_g%,_,rfl,p,dx,g,d,room,t+v,l,_,rfl,hp2 _,aj,alV hn _ _,afW pos (by have:=Cj pos k;lia),?_,fun d' c' cut H' e1 e2 e3 e4 e5=>?_]
  ·have:=afU c k (low c k+v);lia
  ·have ngd:g≠d':=fun z=>by rw[<-z,aj]at e1;cases e1
   have npd':p≠d':=fun z=>by rw[<-z,hp2]at e1;cases e1
   rw[ao (aL ngd),ao (aL npd')]at e1;refine q d' c' cut H' e1 e2 e3 e4 fun b o e hb=>e5 b o ?_ hb;rwa[ao (ak e hg0),ao hb]
def bf(bT qj:V):List (Str × V):=[("span",bT),("sums",qj)]
theorem Zh{K:aG}{mg:Str->Option Value}{A:Ad}{bT qj:V}(T:Tx K mg A):Fd K A.C'4 ("sums" : Str) (bf bT qj) qj:=#[T.abv,T.QC,rfl]
theorem ata(bT qj:V):bU "sums" qj (bU "span" bT [])=bf bT qj:=by
 unfold bf
 walk_at "rec"
theorem zy(bT qj y:V):bU "sums" y (bf bT qj)=bf bT y:=by
 unfold bf
 walk_at "rec"
theorem aqa(bT qj:V){m:Str}(afi:¬ m = "span")(atb:¬ m = "sums"):(bf bT qj).lookup m=none:=by
 unfold bf;rw[cg afi,cg atb];rfl
structure Q4 where
 a:Int
 b:Int
 c:Int
 d:Int
def L4(q:Q4):List Int:=[q.a,q.b,q.c,q.d]
def addQ(q p:Q4):Q4:=#[q.a+p.a,q.b+p.b,q.c+p.c,q.d+p.d]
def pwQ(t w:Int):Q4:=#[w,w*t,w*t*t,w*t*t*t]
def agw:Q4:=#[0,0,0,0]
def anB(t w:Int):Nat->Int
 |0=>w
 |n+1=>anB t w n*t
structure Bn(A:Ad)(H:Hp)(p dx l:Addr)(s:Int)(q:Q4):Prop where
 o:H p=some (.ins A.C'4 dx (bf (.int s) (.ref l)))
 l:H l=some (.lst ((L4 q).map V.int))
theorem Bn.same{A:Ad}{H H':Hp}{p dx l:Addr}{s:Int}{q:Q4}(h:Bn A H p dx l s q)(z:Same H H'):Bn A H' p dx l s q:=#[z _ _ h.o,z _ _ h.l]
theorem Bn.but{A:Ad}{H H':Hp}{p dx l x C e:Addr}{fs:List (Str × V)}{s:Int}{q:Q4}(h:Bn A H p dx l s q)(z:But x H H')(hq:H x=some (.ins C e fs))(m:p≠x):Bn A H' p dx l s q:=#[z _ _ h.o m,z _ _ h.l (jd h.l hq (by intro z;cases z))]
def ahU:Sp:=fun vs H Q _=>Ex4 fun(l:Addr) (t w:Int) (q:Q4)=>abz (vs=[.ref l,.int t,.int w]) (H l=some (.lst ((L4 q).map V.int))) (0<=t) (t<2 ^ 64) (∀(l':Addr)(H':Hp),H l'=none->H' l'=some (.lst ((L4 (addQ q (pwQ t w))).map V.int))->Same H H'->Q (.ref l') H')
theorem afj{q:Q4}{i:Nat}{x:V}(h:((L4 q).map V.int)[i]? = some x):(i=0/\x=.int q.a)\/(i=1/\x=.int q.b)\/(i=2/\x=.int q.c)\/(i=3/\x=.int q.d):=by
 match i,h with
 |0,h=>exact .inl #[rfl,(bN h).symm]
 |1,h=>exact .inr (.inl #[rfl,(bN h).symm])
 |2,h=>exact .inr (.inr (.inl #[rfl,(bN h).symm]))
 |3,h=>exact .inr (.inr (.inr #[rfl,(bN h).symm]))
 |n+4,h=>simp[L4]at h
theorem JB(T:Tx K mg A):FnK P w base T.CN CX0 1 ahU:=by
 k_dat (T.CN,T.CN.ok,Jt) "f"
 ·obtain⟨l,t,w,q,rfl,hl,t0,t1,k⟩:=h;show#[_,by k_dat ([fM],[Jt.nd],[]) "p",?_]
  k_dat lq "c"
  show#[tb_g%,fun D hD=>?_]
  k_dat lqg "c"
  show#[_,rfl,?_];have sD:Same H (upd H D (.lst [])):=Same.new hD;show#[_,rfl,l,rfl,#[_,.inl (.inl (sD _ _ hl))],o9 (K:=K) (a:=l) (xs:=(L4 q).map V.int) (fun i σ H2=>∃x,tD (σ=[some (.ref l),some (.int t),some (.int w),some (.ref D),some (.int (anB t w i)),x]) (H2 D=some (.lst (((L4 (addQ q (pwQ t w))).take i).map V.int))) (Same H H2)) #[none,rfl,aj,sD] (fun i σ H2 _ ⟨_,_,_,s⟩=>.inl (.inl (s _ _ hl))) ?_ ?_]
  ·rintro i y σ H2 hi ⟨x,rfl,f,s2⟩;have hz:∀n:Nat,n<=4->(((L4 (addQ q (pwQ t w))).take n).map V.int).length<sizeLine:=fun n hn=>aQ (by rw[aC,d8];lia);have keep:∀L b o,H b=some o->(upd H2 D L) b=some o:=fun L b o e=>by rw[ao (ak e hD)];exact s2 _ _ e
   rcases afj hi with⟨rfl,rfl⟩|⟨rfl,rfl⟩|⟨rfl,rfl⟩|⟨rfl,rfl⟩
   ·show#[_,rfl,.inl #[rfl,_,.inl (.inl f)],_,rfl,_,rfl,_,_,rfl,rfl,D,_,_,rfl,rfl,f,hz 0 tb_g%,?_];show#[_,rfl,_,rfl,_,_,rfl,rfl,eY tb_g% t1,_,rfl,aj,keep _]
   ·show#[_,rfl,.inl #[rfl,_,.inl (.inl f)],_,rfl,_,rfl,_,_,rfl,rfl,D,_,_,rfl,rfl,f,hz 1 tb_g%,?_];show#[_,rfl,_,rfl,_,_,rfl,rfl,eY tb_g% t1,_,rfl,aj,keep _]
   ·show#[_,rfl,.inl #[rfl,_,.inl (.inl f)],_,rfl,_,rfl,_,_,rfl,rfl,D,_,_,rfl,rfl,f,hz 2 tb_g%,?_];show#[_,rfl,_,rfl,_,_,rfl,rfl,eY tb_g% t1,_,rfl,aj,keep _]
   ·show#[_,rfl,.inl #[rfl,_,.inl (.inl f)],_,rfl,_,rfl,_,_,rfl,rfl,D,_,_,rfl,rfl,f,hz 3 tb_g%,?_];show#[_,rfl,_,rfl,_,_,rfl,rfl,eY tb_g% t1,_,rfl,aj,keep _]
  ·rintro σ H2 ⟨x,rfl,f,s2⟩;show#[_,rfl,k D H2 hD f s2]
def apl(A:Ad):Sp:=fun vs H Q _=>Ex3 fun(p dx:Addr) (s:Int)=>tD (vs=[.ref p,.int s]) (H p=some (.ins A.C'4 dx [])) (∀(d:Addr)(H':Hp),H d=none->Bn A H' p dx d s agw->But p H H'->Q .non H')
theorem K6(T:Tx K mg A):FnM P w mg base T.pK CX0 1 (apl A):=by
 k_dat (T.pK,T.pK.ok,Ky) "f"
 ·obtain⟨p,dx,sp,rfl,hp,q⟩:=h
  walk_at "B"
  show#[_,rfl,_,rfl,p,_,dx,[],rfl,hp,T.abv,T.am8,tb_g%,?_];show#[tb_g%,fun d hd=>?_];have npd:p≠d:=fun z=>by rw[<-z,aj]at hd;cases hd
  rw[ao (aL npd)]at hd;show#[_,rfl,p,_,dx,_,rfl,(by rw[ao npd];exact aj),T.abv,T.QC,tb_g%,?_];refine q d _ hd #[Oe aj (by rw[ata]),by rw[ao (aL npd),aj];rfl] fun b o e hb=>?_;rwa[ao hb,ao (ak e hd),ao hb]
def anC(A:Ad)(sg:Bool):Sp:=fun vs H Q _=>Ex7 fun(p dx l:Addr) (s t w:Int) (q:Q4)=>abz (vs=[.ref p,.int t,.int w]) (Bn A H p dx l s q) (0<=t) (t<2 ^ 64) (∀(l':Addr)(H':Hp),Bn A H' p dx l' s (addQ q (pwQ t (if sg then -w else w)))->But p H H'->H l'=none->Q .non H')
theorem Rb(T:Tx K mg A):FnM P w mg base T.sW CX0 2 (anC A false):=by
 k_dat (T.sW,T.sW.ok,QW) "f"
 ·obtain⟨p,dx,l,sp,t,w,q,rfl,hb,t0,t1,k⟩:=h;show#[_,by k_dat ([],[aB (JB T) ?_],[]) "p",?_];show#[_,rfl,rdG hb.o (Zh T) #[_,rfl,_,rfl,l,t,w,q,rfl,hb.l,t0,t1,fun l' H1 nl' f1 s1=>?_]];show#[_,rfl,p,_,dx,_,rfl,s1 _ _ hb.o,T.abv,T.QC,tb_g%,?_];rw[zy];have npl:l'≠p:=aL (ak hb.o nl');exact k l' _ #[aj,by rwa[ao npl]] (fun b o e m=>by rw[ao m];exact s1 _ _ e) nl'
theorem K7(T:Tx K mg A):FnM P w mg base T.pL CX0 2 (anC A true):=by
 k_dat (T.pL,T.pL.ok,KC) "f"
 ·obtain⟨p,dx,l,sp,t,w,q,rfl,hb,t0,t1,k⟩:=h;show#[_,by k_dat ([],[aB (JB T) ?_],[]) "p",?_];show#[_,rfl,rdG hb.o (Zh T) #[_,rfl,_,rfl,_,rfl,l,t,-w,q,rfl,hb.l,t0,t1,fun l' H1 nl' f1 s1=>?_]];show#[_,rfl,p,_,dx,_,rfl,s1 _ _ hb.o,T.abv,T.QC,tb_g%,?_];rw[zy];have npl:l'≠p:=aL (ak hb.o nl');exact k l' _ #[aj,by rwa[ao npl]] (fun b o e m=>by rw[ao m];exact s1 _ _ e) nl'
def kf(au aN bT dh dj jN dB bO dD bC:V):List (Str × V):=[("room",au),("reach",aN),("span",bT),("came",dh),("went",dj),("up",jN),("down",dB),("window",bO),("seen",dD),("balance",bC)]
theorem apm{K:aG}{mg:Str->Option Value}{A:Ad}{au aN bT dh dj jN dB bO dD bC:V}(T:Tx K mg A):Fd K A.C'5 ("room" : Str) (kf au aN bT dh dj jN dB bO dD bC) au:=#[T.pF,T.agc,rfl]
theorem anD{K:aG}{mg:Str->Option Value}{A:Ad}{au aN bT dh dj jN dB bO dD bC:V}(T:Tx K mg A):Fd K A.C'5 ("reach" : Str) (kf au aN bT dh dj jN dB bO dD bC) aN:=#[T.pF,T.agd,rfl]
theorem Zi{K:aG}{mg:Str->Option Value}{A:Ad}{au aN bT dh dj jN dB bO dD bC:V}(T:Tx K mg A):Fd K A.C'5 ("span" : Str) (kf au aN bT dh dj jN dB bO dD bC) bT:=#[T.pF,T.agf,rfl]
theorem Zj{K:aG}{mg:Str->Option Value}{A:Ad}{au aN bT dh dj jN dB bO dD bC:V}(T:Tx K mg A):Fd K A.C'5 ("came" : Str) (kf au aN bT dh dj jN dB bO dD bC) dh:=#[T.pF,T.agg,rfl]
theorem Zk{K:aG}{mg:Str->Option Value}{A:Ad}{au aN bT dh dj jN dB bO dD bC:V}(T:Tx K mg A):Fd K A.C'5 ("went" : Str) (kf au aN bT dh dj jN dB bO dD bC) dj:=#[T.pF,T.agh,rfl]
theorem anE{K:aG}{mg:Str->Option Value}{A:Ad}{au aN bT dh dj jN dB bO dD bC:V}(T:Tx K mg A):Fd K A.C'5 ("up" : Str) (kf au aN bT dh dj jN dB bO dD bC) jN:=#[T.pF,T.agi,rfl]
theorem Zm{K:aG}{mg:Str->Option Value}{A:Ad}{au aN bT dh dj jN dB bO dD bC:V}(T:Tx K mg A):Fd K A.C'5 ("down" : Str) (kf au aN bT dh dj jN dB bO dD bC) dB:=#[T.pF,T.agj,rfl]
theorem uF{K:aG}{mg:Str->Option Value}{A:Ad}{au aN bT dh dj jN dB bO dD bC:V}(T:Tx K mg A):Fd K A.C'5 ("window" : Str) (kf au aN bT dh dj jN dB bO dD bC) bO:=#[T.pF,T.agk,rfl]
theorem Fi{K:aG}{mg:Str->Option Value}{A:Ad}{au aN bT dh dj jN dB bO dD bC:V}(T:Tx K mg A):Fd K A.C'5 ("seen" : Str) (kf au aN bT dh dj jN dB bO dD bC) dD:=#[T.pF,T.agl,rfl]
theorem wz{K:aG}{mg:Str->Option Value}{A:Ad}{au aN bT dh dj jN dB bO dD bC:V}(T:Tx K mg A):Fd K A.C'5 ("balance" : Str) (kf au aN bT dh dj jN dB bO dD bC) bC:=#[T.pF,T.agm,rfl]
theorem atc(au aN bT dh dj jN dB bO dD bC:V):bU "balance" bC (bU "seen" dD (bU "window" bO (bU "down" dB (bU "up" jN (bU "went" dj (bU "came" dh (bU "span" bT (bU "reach" aN (bU "room" au [])))))))))=kf au aN bT dh dj jN dB bO dD bC:=by
 unfold kf
 walk_at "rec"
theorem kfN{au aN bT dh dj jN dB bO dD bC:V}{m:Str}(h:m∉[("room" : Str),("reach" : Str),("span" : Str),("came" : Str),("went" : Str),("up" : Str),("down" : Str),("window" : Str),("seen" : Str),("balance" : Str)]):(kf au aN bT dh dj jN dB bO dD bC).lookup m=none:=by
 simp only[aO,gB,or_false,not_or]at h;obtain⟨CW,Za,afi,atd,ate,h_up,atf,anF,atg,ahV⟩:=h;unfold kf;rw[cg CW,cg Za,cg afi,cg atd,cg ate,cg h_up,cg atf,cg anF,cg atg,cg ahV];rfl
structure Fq where
 (p dx d:Addr) (t l:Int) (c:Tab)
structure Rs where
 (dx a:Addr) (bs:List Addr) (r tt ov un tn:Int) (mi ma:Option Int) (ls:RG.Ls)
abbrev RnX(A:Ad)(H:Hp)(p:Addr)(x:Rs):Prop:=Rn A H p x.dx x.a x.bs x.r x.tt x.ov x.un x.tn x.mi x.ma x.ls
structure Ru where
 (p:Addr) (x:Rs)
structure Wi where
 (p dx l:Addr) (c:Int) (ps:List Bp)
structure Di where
 (p dx l:Addr) (n v:Int) (C:List Int)
structure Ba where
 (p dx l:Addr) (q:Q4)
structure KS where
 (k dk:Addr) (room:Nat) (reach span:Int) (cm wn:Fq) (up dn:Ru) (wi:Wi) (di:Di) (ba:Ba)
structure tG(A:Ad)(H:Hp)(room:Nat)(f:Fq):Prop where
 o:H f.p=some (.ins A.C'3 f.dx (fl room f.t f.l f.d))
 d:H f.d=some (.dK (emb f.c))
theorem tG.same{A:Ad}{H H':Hp}{room:Nat}{f:Fq}(h:tG A H room f)(s:Same H H'):tG A H' room f:=#[s _ _ h.o,s _ _ h.d]
theorem tG.but{A:Ad}{H H':Hp}{room:Nat}{f:Fq}{q C e:Addr}{fs:List (Str × V)}(h:tG A H room f)(s:L2.But q H H')(hq:H q=some (.ins C e fs))(n:f.p≠q):tG A H' room f:=
 #[s _ _ h.o n,s _ _ h.d (jd h.d hq (by intro z;cases z))]
def KS.all(x:KS):List Addr:=[x.k,x.cm.p,x.wn.p,x.up.p,x.dn.p,x.wi.p,x.di.p,x.ba.p]
structure Kp(A:Ad)(H:Hp)(x:KS):Prop where
 o:H x.k=some (.ins A.C'5 x.dk (kf (.int x.room) (.int x.reach) (.int x.span) (.ref x.cm.p) (.ref x.wn.p) (.ref x.up.p) (.ref x.dn.p) (.ref x.wi.p) (.ref x.di.p) (.ref x.ba.p)))
 cm:tG A H x.room x.cm
 wn:tG A H x.room x.wn
 up:RnX A H x.up.p x.up.x
 dn:RnX A H x.dn.p x.dn.x
 wi:Wn A H x.wi.p x.wi.dx x.wi.l x.room x.reach x.wi.c x.wi.ps
 di:Dn A H x.di.p x.di.dx x.di.l x.room x.di.n x.di.v (srt (My.up x.di.v x.di.C))
 ba:Bn A H x.ba.p x.ba.dx x.ba.l x.span x.ba.q
 nd:x.all.Nodup
theorem Kp.same{A:Ad}{H H':Hp}{x:KS}(h:Kp A H x)(s:Same H H'):Kp A H' x:=#[s _ _ h.o,h.cm.same s,h.wn.same s,h.up.same s,h.dn.same s,h.wi.same s,h.di.same s,h.ba.same s,h.nd]
structure Ap(x:KS):Prop where
 k1:x.k≠x.cm.p
 k2:x.k≠x.wn.p
 k3:x.k≠x.up.p
 k4:x.k≠x.dn.p
 k5:x.k≠x.wi.p
 k6:x.k≠x.di.p
 k7:x.k≠x.ba.p
 c2:x.cm.p≠x.wn.p
 c3:x.cm.p≠x.up.p
 c4:x.cm.p≠x.dn.p
 c5:x.cm.p≠x.wi.p
 c6:x.cm.p≠x.di.p
 c7:x.cm.p≠x.ba.p
 w3:x.wn.p≠x.up.p
 w4:x.wn.p≠x.dn.p
 w5:x.wn.p≠x.wi.p
 w6:x.wn.p≠x.di.p
 w7:x.wn.p≠x.ba.p
 u4:x.up.p≠x.dn.p
 u5:x.up.p≠x.wi.p
 u6:x.up.p≠x.di.p
 u7:x.up.p≠x.ba.p
 d5:x.dn.p≠x.wi.p
 d6:x.dn.p≠x.di.p
 d7:x.dn.p≠x.ba.p
 i6:x.wi.p≠x.di.p
 i7:x.wi.p≠x.ba.p
 s7:x.di.p≠x.ba.p
theorem Kp.ap{A:Ad}{H:Hp}{x:KS}(h:Kp A H x):Ap x:=by
 have n:=h.nd;unfold KS.all at n;simp only[iR,aO,gB,or_false,not_or,FZ,and_true,not_false_eq_true]at n;obtain⟨⟨k1,k2,k3,k4,k5,k6,k7⟩,⟨c2,c3,c4,c5,c6,c7⟩,⟨w3,w4,w5,w6,w7⟩,⟨u4,u5,u6,u7⟩,⟨d5,d6,d7⟩,⟨i6,i7⟩,s7⟩:=n;show#[k1,k2,k3,k4,k5,k6,k7,c2,c3,c4,c5,c6,c7,w3,w4,w5,w6,w7,u4,u5,u6,u7,d5,d6,d7,i6,i7,s7]
open MK
theorem anG(r e:Int)(bs:List WN.Box):(gP r e bs).length<=bs.length:=by
 unfold gP;rw[xu];have h1:=WN.aaO r (bs.filter fun b=>decide (e<b.l)).reverse;rw[xu]at h1;exact bQ h1 (Dg _ _)
theorem ql{r T ov un:Int}{ls:RG.Ls}{n:Nat}(g:RG.Good r T ov un ls)(h:T<=1000000000000*n)(hn:n<=63):ls.length<=60/\RG.val ls<2 ^ 400:=by
 have e:(2:Int) ^ 60=1152921504606846976:=by decide
 show#[g.len (by rw[e];lia),?_];have:=g.vl;have e:(1152921504606846976:Nat)<2 ^ 400:=by decide
 lia
def KS.pts(x:KS):List Addr:=[x.cm.p,x.wn.p,x.up.p,x.dn.p,x.wi.p,x.di.p,x.ba.p]
structure Pp(A:Ad)(H:Hp)(x:KS):Prop where
 cm:tG A H x.room x.cm
 wn:tG A H x.room x.wn
 up:RnX A H x.up.p x.up.x
 dn:RnX A H x.dn.p x.dn.x
 wi:Wn A H x.wi.p x.wi.dx x.wi.l x.room x.reach x.wi.c x.wi.ps
 di:Dn A H x.di.p x.di.dx x.di.l x.room x.di.n x.di.v (srt (My.up x.di.v x.di.C))
 ba:Bn A H x.ba.p x.ba.dx x.ba.l x.span x.ba.q
 nd:x.pts.Nodup
theorem Kp.pp{A:Ad}{H:Hp}{x:KS}(h:Kp A H x):Pp A H x:=#[h.cm,h.wn,h.up,h.dn,h.wi,h.di,h.ba,(iR.mp h.nd).2]
theorem Kp.nk{A:Ad}{H:Hp}{x:KS}(h:Kp A H x):x.k∉x.pts:=(iR.mp h.nd).1
section
variable{A:Ad}{H H':Hp}{x:KS}
theorem Pp.kp(h:Pp A H x)(o:H x.k=some (.ins A.C'5 x.dk (kf (.int x.room) (.int x.reach) (.int x.span) (.ref x.cm.p) (.ref x.wn.p) (.ref x.up.p) (.ref x.dn.p) (.ref x.wi.p) (.ref x.di.p) (.ref x.ba.p))))(n:x.k∉x.pts):Kp A H x:=
 #[o,h.cm,h.wn,h.up,h.dn,h.wi,h.di,h.ba,iR.mpr #[n,h.nd]]
theorem Pp.but{q C e:Addr}{fs:List (Str × V)}(h:Pp A H x)(b:L2.But q H H')(hq:H q=some (.ins C e fs))(n:q∉x.pts):Pp A H' x:=by
 unfold KS.pts at n;simp only[aO,gB,or_false,not_or]at n;obtain⟨n1,n2,n3,n4,n5,n6,n7⟩:=n;show#[h.cm.but b hq (aL n1),h.wn.but b hq (aL n2),h.up.but b hq (aL n3),h.dn.but b hq (aL n4),h.wi.but b hq (aL n5),h.di.but b hq (aL n6),h.ba.but b hq (aL n7),h.nd]
structure Ap7(x:KS):Prop where
 c:x.cm.p≠x.wn.p/\x.cm.p≠x.up.p/\x.cm.p≠x.dn.p/\x.cm.p≠x.wi.p/\x.cm.p≠x.di.p/\x.cm.p≠x.ba.p
 w:x.wn.p≠x.up.p/\x.wn.p≠x.dn.p/\x.wn.p≠x.wi.p/\x.wn.p≠x.di.p/\x.wn.p≠x.ba.p
 u:x.up.p≠x.dn.p/\x.up.p≠x.wi.p/\x.up.p≠x.di.p/\x.up.p≠x.ba.p
 d:x.dn.p≠x.wi.p/\x.dn.p≠x.di.p/\x.dn.p≠x.ba.p
 i:x.wi.p≠x.di.p/\x.wi.p≠x.ba.p
 s:x.di.p≠x.ba.p
theorem Pp.ap(h:Pp A H x):Ap7 x:=by
 have n:=h.nd;unfold KS.pts at n;simp only[iR,aO,gB,or_false,not_or,FZ,and_true,not_false_eq_true]at n;obtain⟨c,w,u,d,i,s⟩:=n;show#[c,w,u,d,i,s]
theorem Pp.setC(h:Pp A H x){f:Fq}(e:f.p=x.cm.p)(b:L2.But x.cm.p H H')(hf:tG A H' x.room f):Pp A H' { x with cm:=f }:=by
 have a:=h.ap;have q:=h.cm.o;obtain ⟨a1,a2,a3,a4,a5,a6⟩:=a.c;show#[hf,h.wn.but b q (aL a1),h.up.but b q (aL a2),h.dn.but b q (aL a3),h.wi.but b q (aL a4),h.di.but b q (aL a5),h.ba.but b q (aL a6),by
  show [f.p,x.wn.p,x.up.p,x.dn.p,x.wi.p,x.di.p,x.ba.p].Nodup;rw [e];exact h.nd]
theorem Pp.setW(h:Pp A H x){f:Fq}(e:f.p=x.wn.p)(b:L2.But x.wn.p H H')(hf:tG A H' x.room f):Pp A H' { x with wn:=f }:=by
 have a:=h.ap;have q:=h.wn.o;obtain ⟨a2,a3,a4,a5,a6⟩:=a.w;show#[h.cm.but b q a.c.1,hf,h.up.but b q (aL a2),h.dn.but b q (aL a3),h.wi.but b q (aL a4),h.di.but b q (aL a5),h.ba.but b q (aL a6),by
  show [x.cm.p,f.p,x.up.p,x.dn.p,x.wi.p,x.di.p,x.ba.p].Nodup;rw [e];exact h.nd]
theorem Pp.setU(h:Pp A H x){f:Ru}(e:f.p=x.up.p)(b:L2.But x.up.p H H')(hf:RnX A H' f.p f.x):Pp A H' { x with up:=f }:=by
 have a:=h.ap;have q:=h.up.o;obtain ⟨a3,a4,a5,a6⟩:=a.u;show#[h.cm.but b q a.c.2.1,h.wn.but b q a.w.1,hf,h.dn.but b q (aL a3),h.wi.but b q (aL a4),h.di.but b q (aL a5),h.ba.but b q (aL a6),by
  show [x.cm.p,x.wn.p,f.p,x.dn.p,x.wi.p,x.di.p,x.ba.p].Nodup;rw [e];exact h.nd]
theorem Pp.setD(h:Pp A H x){f:Ru}(e:f.p=x.dn.p)(b:L2.But x.dn.p H H')(hf:RnX A H' f.p f.x):Pp A H' { x with dn:=f }:=by
 have a:=h.ap;have q:=h.dn.o;obtain ⟨a4,a5,a6⟩:=a.d;show#[h.cm.but b q a.c.2.2.1,h.wn.but b q a.w.2.1,h.up.but b q a.u.1,hf,h.wi.but b q (aL a4),h.di.but b q (aL a5),h.ba.but b q (aL a6),by
  show [x.cm.p,x.wn.p,x.up.p,f.p,x.wi.p,x.di.p,x.ba.p].Nodup;rw [e];exact h.nd]
theorem Pp.setI(h:Pp A H x){f:Wi}(e:f.p=x.wi.p)(b:L2.But x.wi.p H H')(hf:Wn A H' f.p f.dx f.l x.room x.reach f.c f.ps):Pp A H' { x with wi:=f }:=by
 have a:=h.ap;have q:=h.wi.o;show#[h.cm.but b q a.c.2.2.2.1,h.wn.but b q a.w.2.2.1,h.up.but b q a.u.2.1,h.dn.but b q a.d.1,hf,h.di.but b q (aL a.i.1),h.ba.but b q (aL a.i.2),by
  show [x.cm.p,x.wn.p,x.up.p,x.dn.p,f.p,x.di.p,x.ba.p].Nodup;rw [e];exact h.nd]
theorem Pp.setS(h:Pp A H x){f:Di}(e:f.p=x.di.p)(b:L2.But x.di.p H H')(hf:Dn A H' f.p f.dx f.l x.room f.n f.v (srt (My.up f.v f.C))):Pp A H' { x with di:=f }:=by
 have a:=h.ap;have q:=h.di.o;show#[h.cm.but b q a.c.2.2.2.2.1,h.wn.but b q a.w.2.2.2.1,h.up.but b q a.u.2.2.1,h.dn.but b q a.d.2.1,h.wi.but b q a.i.1,hf,h.ba.but b q (aL a.s),by
  show [x.cm.p,x.wn.p,x.up.p,x.dn.p,x.wi.p,f.p,x.ba.p].Nodup;rw [e];exact h.nd]
theorem Pp.setB(h:Pp A H x){f:Ba}(e:f.p=x.ba.p)(b:L2.But x.ba.p H H')(hf:Bn A H' f.p f.dx f.l x.span f.q):Pp A H' { x with ba:=f }:=by
 have a:=h.ap;have q:=h.ba.o;show#[h.cm.but b q a.c.2.2.2.2.2,h.wn.but b q a.w.2.2.2.2,h.up.but b q a.u.2.2.2,h.dn.but b q a.d.2.2,h.wi.but b q a.i.2,h.di.but b q a.s,hf,by
  show [x.cm.p,x.wn.p,x.up.p,x.dn.p,x.wi.p,x.di.p,f.p].Nodup;rw [e];exact h.nd]
structure Far(A:Ad)(ps:List Addr)(H H':Hp):Prop where
 pb:∀b o,H b=some o->b∉ps->H' b=some o
 py:∀y:KS,Pp A H y->(∀b∈y.pts,b∉ps)->Pp A H' y
theorem Far.of{ps:List Addr}{p C e:Addr}{fs:List (Str × V)}(m:p∈ps)(hq:H p=some (.ins C e fs))(b:L2.But p H H'):Far A ps H H':=
 #[fun c o e n=>b c o e fun z=>n (by rwa[z]),fun y h d=>h.but b hq fun z=>d p z m]
theorem Far.trans{ps:List Addr}{H1:Hp}(a:Far A ps H H1)(b:Far A ps H1 H'):Far A ps H H':=#[fun c o e n=>b.pb c o (a.pb c o e n) n,fun y h d=>b.py y (a.py y h d) d]
end
def FS(room:Nat)(th w:Int)(f g:Fq):Prop:=∃cut,jG room (put f.c th (low f.c th+w)) g.c cut/\g.t=f.t+w/\g.l=f.l+cut
structure RS(th w:Int)(f g:Rs):Prop where
 r:g.r=f.r
 tt:g.tt=f.tt+w
 mi:g.mi=lo2 f.mi (some th)
 ma:g.ma=hi2 f.ma (some th)
 st:RG.Stl f.r 0 f.tn f.ov f.un (RG.fH th f.ls w.toNat) g.ls g.tn g.ov g.un
def WS(room:Nat)(reach c:Int)(bs:List WN.Box)(g:Wi):Prop:=g.c=c/\bx g.ps=gP room (c-reach) bs
def DS(room:Nat)(th:Int)(f g:Di):Prop:=g.n=f.n+1/\g.C=came f.C th/\Lvl room f.v g.v (came f.C th)
structure SB(x x':KS):Prop where
 room:x'.room=x.room
 reach:x'.reach=x.reach
 span:x'.span=x.span
 pts:x'.pts=x.pts
 k:x'.k=x.k
 dk:x'.dk=x.dk
structure SP(th w:Int)(x x':KS):Prop where
 sb:SB x x'
 cm:FS x.room th w x.cm x'.cm
 wn:x'.wn=x.wn
 up:RS th w x.up.x x'.up.x
 dn:x'.dn=x.dn
 wi:WS x.room x.reach (x.wi.c+1) (bx x.wi.ps++[#[x.wi.c+1,x.wi.c+1,w]]) x'.wi
 di:DS x.room th x.di x'.di
 ba:x'.ba.q=if th<x.span then addQ x.ba.q (pwQ th w)else x.ba.q
structure ST(th w:Int)(x x':KS):Prop where
 sb:SB x x'
 cm:x'.cm=x.cm
 wn:FS x.room th w x.wn x'.wn
 up:x'.up=x.up
 dn:RS th w x.dn.x x'.dn.x
 wi:WS x.room x.reach (x.wi.c+1) (bx x.wi.ps) x'.wi
 di:x'.di=x.di
 ba:x'.ba.q=if th<x.span then addQ x.ba.q (pwQ th (-w))else x.ba.q
structure SI(w:Int)(x x':KS):Prop where
 sb:SB x x'
 cm:x'.cm=x.cm
 wn:x'.wn=x.wn
 up:x'.up=x.up
 dn:x'.dn=x.dn
 wi:WS x.room x.reach (x.wi.c+w) (bx x.wi.ps) x'.wi
 di:x'.di=x.di
 ba:x'.ba=x.ba
structure EF(f g:Fq):Prop where
 t:f.t=g.t
 l:f.l=g.l
 c:f.c=g.c
structure ER(f g:Rs):Prop where
 r:f.r=g.r
 tt:f.tt=g.tt
 ov:f.ov=g.ov
 un:f.un=g.un
 tn:f.tn=g.tn
 mi:f.mi=g.mi
 ma:f.ma=g.ma
 ls:f.ls=g.ls
structure EW(f g:Wi):Prop where
 c:f.c=g.c
 b:bx f.ps=bx g.ps
structure ED(f g:Di):Prop where
 n:f.n=g.n
 v:f.v=g.v
 C:f.C=g.C
structure Eqp(x y:KS):Prop where
 room:x.room=y.room
 reach:x.reach=y.reach
 span:x.span=y.span
 cm:EF x.cm y.cm
 wn:EF x.wn y.wn
 up:ER x.up.x y.up.x
 dn:ER x.dn.x y.dn.x
 wi:EW x.wi y.wi
 di:ED x.di y.di
 ba:x.ba.q=y.ba.q
theorem Eqp.idle{w:Int}{x y x' y':KS}(e:Eqp x y)(a:SI w x x')(b:SI w y y'):Eqp x' y':=
 #[by rw [a.sb.room,b.sb.room,e.room],by rw [a.sb.reach,b.sb.reach,e.reach],by rw [a.sb.span,b.sb.span,e.span],by rw [a.cm,b.cm];exact e.cm,by rw [a.wn,b.wn];exact e.wn,by rw [a.up,b.up];exact e.up,by rw [a.dn,b.dn];exact e.dn,
  #[by rw [a.wi.1,b.wi.1,e.wi.c],by rw [a.wi.2,b.wi.2,e.wi.c,e.wi.b,e.room,e.reach]],by rw [a.di,b.di];exact e.di,by rw [a.ba,b.ba,e.ba]]
theorem anH{room:Int}:∀{ls:RG.Ls}(h:Nat)(tn ov un:Int),(∀l∈ls,(l.length:Int)<=room)->RG.Stl room h tn ov un ls ls tn ov un
 |[],h,tn,ov,un,_=>.nil h tn ov un
 |l::ls,h,tn,ov,un,hs=>.keep (hs l bV) (anH (h+1) tn ov un fun k m=>hs k (cB _ m))
theorem apn{room:Nat}{c b:Tab}{cut:Int}(h:jG room c b cut):b.length<=c.length:=by
 unfold jG at h;split at h
 ·rw[h.2];exact aJ _
 ·rw[h.2];unfold cG;rw[aC];exact Dg _ _
structure Gf(room:Nat)(f:Fq)(n:Nat):Prop where
 ok:∃W,Ok room f.c f.t f.l W
 t:f.t<=1000000000000*n
 k:f.c.length<=n
structure Gr(room:Nat)(f:Rs)(n:Nat):Prop where
 r:f.r=room
 g:RG.Good f.r f.tt f.ov f.un f.ls
 t:f.tt<=1000000000000*n
 sm:room<=15\/∀l∈f.ls,l.length<=n
structure Kh(x:KS)(n:Nat):Prop where
 r2:2<=x.room
 r64:x.room<=64
 rr:x.room<=15\/x.room=64
 cm:Gf x.room x.cm n
 wn:Gf x.room x.wn n
 up:Gr x.room x.up.x n
 dn:Gr x.room x.dn.x n
 wl:x.wi.ps.length<=n
 dl:Fe x.room x.di.v x.di.C
 dc:x.di.C.length<=n
 few:n<=63
theorem Gf.add{room:Nat}{f g:Fq}{n:Nat}{th w:Int}(h:Gf room f n)(s:FS room th w f g)(w1:1<=w)(w2:w<=1000000000000):Gf room g (n+1):=by
 obtain⟨cut,a,b,c⟩:=s;obtain⟨W,ok⟩:=h.ok;have:=h.t;show#[#[_,by rw[b,c];exact(ok.add (k:=th) w1).fit a],by rw[b];lia,by have:=apn a;have:=afU f.c th (low f.c th+w);have:=h.k;lia]
theorem Gf.next{room:Nat}{f:Fq}{n:Nat}(h:Gf room f n):Gf room f (n+1):=#[h.ok,by have:=h.t;lia,Ny h.k]
theorem Gr.add{room:Nat}{f g:Rs}{n:Nat}{th w:Int}(h:Gr room f n)(s:RS th w f g)(w1:1<=w)(w2:w<=1000000000000)(rr:room<=15\/room=64)(hn:n<63):Gr room g (n+1):=by
 have:=h.t;obtain⟨g',_⟩:=h.g.add w1 s.st;show#[by rw[s.r,h.r],by rwa[s.r,s.tt],by rw[s.tt];lia,rr.imp id fun z=>?_];have sl:=h.sm.resolve_left tb_g%;have wl:=RG.Pn th w.toNat f.ls sl;have hr:=h.r;obtain⟨e,_⟩:=(anH 0 f.tn f.ov f.un fun l m=>by have:=wl l m;lia).uniq s.st;rwa[e]
theorem Gr.next{room:Nat}{f:Rs}{n:Nat}(h:Gr room f n):Gr room f (n+1):=#[h.r,h.g,by have:=h.t;lia,h.sm.imp id fun z l m=>Ny (z l m)]
theorem Gr.le62{room:Nat}{f:Rs}{n:Nat}(h:Gr room f n)(rr:room<=15\/room=64)(hn:n<63):(∀l∈f.ls,l.length<=62)/\((∀l∈f.ls,l.length<=30)\/∀l∈f.ls,(l.length:Int)+1<=f.r):=by
 have e:=h.r;rcases rr with z|z
 ·show#[fun l m=>by have:=h.g.sm l m;lia,.inl fun l m=>by have:=h.g.sm l m;lia]
 ·have sl:=h.sm.resolve_left tb_g%;show#[fun l m=>by have:=sl l m;lia,.inr fun l m=>by have:=sl l m;lia]
theorem WS.len{room:Nat}{reach c:Int}{bs:List WN.Box}{g:Wi}(h:WS room reach c bs g):g.ps.length<=bs.length:=by
 have h1:=anG room (c-reach) bs;rwa[<-h.2,g8]at h1
theorem Kh.put{x x':KS}{n:Nat}{th w:Int}(h:Kh x n)(hn:n<63)(s:SP th w x x')(w1:1<=w)(w2:w<=1000000000000):Kh x' (n+1):=by
 have r:=s.sb.room;show#[by rw[r];exact h.r2,by rw[r];exact h.r64,by rw[r];exact h.rr,by rw[r];exact h.cm.add s.cm w1 w2,by rw[r,s.wn];exact h.wn.next,by rw[r];exact h.up.add s.up w1 w2 h.rr hn,by rw[r,s.dn];exact h.dn.next,?_,?_,?_,hn]
 ·have:=s.wi.len;rw[bB,g8]at this;have l1:=h.wl;exact bQ this (by show x.wi.ps.length+1<=n+1;lia)
 ·rw[r,s.di.2.1];exact h.dl.lvl s.di.2.2 fun w=>apj
 ·rw[s.di.2.1];have:=(abF x.di.C th).2;have:=h.dc;lia
theorem Kh.take{x x':KS}{n:Nat}{th w:Int}(h:Kh x n)(hn:n<63)(s:ST th w x x')(w1:1<=w)(w2:w<=1000000000000):Kh x' (n+1):=by
 have r:=s.sb.room;show#[by rw[r];exact h.r2,by rw[r];exact h.r64,by rw[r];exact h.rr,by rw[r,s.cm];exact h.cm.next,by rw[r];exact h.wn.add s.wn w1 w2,by rw[r,s.up];exact h.up.next,by rw[r];exact h.dn.add s.dn w1 w2 h.rr hn,?_,by rw[r,s.di];exact h.dl,by rw[s.di];have:=h.dc;lia,hn];have:=s.wi.len;rw[g8]at this;have l1:=h.wl;lia
theorem Kh.idle{x x':KS}{n:Nat}{w:Int}(h:Kh x n)(hn:n<63)(s:SI w x x'):Kh x' (n+1):=by
 have r:=s.sb.room;show#[by rw[r];exact h.r2,by rw[r];exact h.r64,by rw[r];exact h.rr,by rw[r,s.cm];exact h.cm.next,by rw[r,s.wn];exact h.wn.next,by rw[r,s.up];exact h.up.next,by rw[r,s.dn];exact h.dn.next,?_,by rw[r,s.di];exact h.dl,by rw[s.di];have:=h.dc;lia,hn];have:=s.wi.len;rw[g8]at this;have l1:=h.wl;lia
def R0(room:Nat):Rs:=#[0,0,[],room,0,0,0,0,none,none,[]]
def K0(room:Nat)(reach span:Int):KS:=#[0,0,room,reach,span,#[0,0,0,0,0,[]],#[0,0,0,0,0,[]],#[0,R0 room],#[0,R0 room],#[0,0,0,0,[]],#[0,0,0,0,0,[]],#[0,0,0,agw]]
theorem Kh.eq{x y:KS}{n:Nat}(h:Kh y n)(e:Eqp x y):Kh x n:=by
 have gf:∀{f g:Fq},EF f g->Gf y.room g n->Gf x.room f n:=fun {f g} e1 g1=>#[by rw[e.room,e1.t,e1.l,e1.c];exact g1.ok,by rw[e1.t];exact g1.t,by rw[e1.c];exact g1.k];have gr:∀{f g:Rs},ER f g->Gr y.room g n->Gr x.room f n:=fun {f g} e1 g1=>#[by rw[e.room,e1.r];exact g1.r,by rw[e1.r,e1.tt,e1.ov,e1.un,e1.ls];exact g1.g,by rw[e1.tt];exact g1.t,by rw[e.room,e1.ls];exact g1.sm];show#[by rw[e.room];exact h.r2,by rw[e.room];exact h.r64,by rw[e.room];exact h.rr,gf e.cm h.cm,gf e.wn h.wn,gr e.up h.up,gr e.dn h.dn,?_,by rw[e.room,e.di.v,e.di.C];exact h.dl,by rw[e.di.C];exact h.dc,h.few];rw[<-g8,e.wi.b,g8];exact h.wl
theorem kh0{room:Nat}(reach span:Int)(r2:2<=room)(r64:room<=64)(ev:room % 2=0)(rr:room<=15\/room=64):Kh (K0 room reach span) 0:=by
 have ok0:Gf room ⟨0,0,0,0,0,[]⟩ 0:=⟨⟨_,Ok.empty room⟩,cQ _,aJ _⟩;have g0:RG.Good (room:Int) 0 0 0 []:=RG.Good.new tb_g% tb_g% tb_g%;exact⟨r2,r64,rr,ok0,ok0,⟨rfl,g0,cQ _,.inr fun l m=>(nomatch m)⟩,⟨rfl,g0,cQ _,.inr fun l m=>(nomatch m)⟩,aJ _,⟨cQ _,by show((0:Nat):Int)<=room;lia,fun w a b=>absurd a (by have b2:w<0:=b;lia)⟩,aJ _,by decide⟩
open MK
def KS.ems(x:KS):List Addr:=x.up.x.a::x.dn.x.a::x.wi.l::x.di.l::(x.up.x.bs++x.dn.x.bs)
def Em(H:Hp)(x x':KS):Prop:=∀c∈x'.ems,c∈x.ems\/H c=none
theorem Pp.live{A:Ad}{H:Hp}{x:KS}(h:Pp A H x):∀b∈x.pts,H b≠none:=fun b m=>by
 unfold KS.pts at m
 k_dat m "D"
 rcases m with rfl|rfl|rfl|rfl|rfl|rfl|rfl
 ·rw[h.cm.o];intro z;cases z
 ·rw[h.wn.o];intro z;cases z
 ·rw[h.up.o];intro z;cases z
 ·rw[h.dn.o];intro z;cases z
 ·rw[h.wi.o];intro z;cases z
 ·rw[h.di.o];intro z;cases z
 ·rw[h.ba.o];intro z;cases z
theorem Far.none{A:Ad}{H H1:Hp}{ps:List Addr}(f:Far A ps H H1)(lv:∀b∈ps,H1 b≠Option.none){c:Addr}(n:H1 c=Option.none):H c=Option.none:=by
 cases e:H c with
 |none=>rfl
 |some o =>
  exfalso;by_cases m:c∈ps
  ·exact lv c m n
  ·rw[f.pb c o e m]at n;cases n
def ath(A:Ad):Sp:=fun vs H Q _=>Ex4 fun(x:KS) (n:Nat) (th w:Int)=>Ep (vs=[.ref x.k,.int th,.int w]) (Kp A H x) (Kh x n) (n<63) (0<=th) (th<1152921504606846976) (1<=w) (w<=1000000000000/\∀(x':KS)(H':Hp),Kp A H' x'->SP th w x x'->Far A x.pts H H'->Em H x x'->Q .non H')
theorem K8(T:Tx K mg A):FnM P w mg base T.pO CX0 6 (ath A):=by
 k_dat (T.pO,T.pO.ok,KD) "f"
 ·obtain⟨x,n,th,w,rfl,hK,hG,hn,th0,th1,w1,w2,q⟩:=h;have e64:(2:Int) ^ 64=18446744073709551616:=by decide
  have r2:=hG.r2;have r64:=hG.r64;have lu:=ql hG.up.g hG.up.t hG.few;have su:=hG.up.g.small;have hrm:=hG.up.r;obtain⟨W,okf⟩:=hG.cm.ok;show#[_,by (k_dat ([hdM],[],[]) "p"; k_dat (cW (pf 0) T.yU (wV T) (aM (pv 1) (aM (pv 2) cR))) "h"; k_dat (cW (pf 0) T.gO (Ez T) (aM (pv 1) (aM (pv 2) cR))) "h"; k_dat (cW (pf 0) T.xq (Tj T) (aM (pv 2) cR)) "h"; k_dat (cW (pf 0) T.zZ (K4 T) (aM (pv 1) cR)) "h"; k_dat (cW (pf 0) T.abv (Rb T) (aM (pv 1) (aM (pv 2) cR))) "h"),?_]
  k_dat lq "c"
  show#[_,rfl,rdG hK.o (Zj T) #[x.cm.p,x.cm.dx,_,rfl,hK.cm.o,anA _ _ _ _ tb_g% tb_g% tb_g% tb_g%,_,rfl,_,rfl,x.cm.p,x.cm.dx,x.cm.d,x.room,x.cm.t,x.cm.l,th,w,x.cm.c,rfl,hK.cm.o,hK.cm.d,okf.nd,okf.pos,w1,by have:=hG.cm.k;lia,fun d1 c1 cut H1 hd1 ft o1 e1 b1=>?_]]
  k_dat lqn "c"
  have P1:=hK.pp.setC (f:=#[x.cm.p,x.cm.dx,d1,x.cm.t+w,x.cm.l+cut,c1]) rfl b1 #[o1,e1];have f1:Far A x.pts H H1:=Far.of (xj (i:=0) rfl) hK.cm.o b1;show#[_,rfl,rdG (f1.pb _ _ hK.o hK.nk) (anE T) #[x.up.p,x.up.x.dx,_,rfl,P1.up.o,rgN tb_g%,_,rfl,_,rfl,x.up.p,x.up.x.dx,x.up.x.a,x.up.x.bs,x.up.x.r,x.up.x.tt,x.up.x.ov,x.up.x.un,x.up.x.tn,th,w,x.up.x.mi,x.up.x.ma,x.up.x.ls,rfl,P1.up,hG.up.g.r2,hG.up.g.r64,by lia,by rw[e64];lia,by lia,(hG.up.le62 hG.rr hn).1,(hG.up.le62 hG.rr hn).2,lu.2,fun a' bs' out tn' ov' un' H2 st rn b2 na2 nb2=>?_]]
  k_dat lqn "c"
  have P2:=P1.setU (f:=#[x.up.p,#[x.up.x.dx,a',bs',x.up.x.r,x.up.x.tt+w,ov',un',tn',_,_,out]]) rfl b2 rn;have f2:=f1.trans (Far.of (A:=A) (ps:=x.pts) (xj (i:=2) rfl) P1.up.o b2);show#[_,rfl,rdG (f2.pb _ _ hK.o hK.nk) (uF T) #[x.wi.p,x.wi.dx,_,rfl,P2.wi.o,abC _ _ _ _ tb_g% tb_g% tb_g% tb_g%,_,rfl,x.wi.p,x.wi.dx,x.wi.l,x.room,x.reach,x.wi.c,w,x.wi.ps,rfl,P2.wi,by have:=hG.wl;lia,by lia,by lia,fun l3 ps3 H3 eb3 wn3 b3 nl3=>?_]];have P3:=P2.setI (f:=#[x.wi.p,x.wi.dx,l3,x.wi.c+1,ps3]) rfl b3 wn3;have f3:=f2.trans (Far.of (A:=A) (ps:=x.pts) (xj (i:=4) rfl) P2.wi.o b3);show#[_,rfl,rdG (f3.pb _ _ hK.o hK.nk) (Fi T) #[x.di.p,x.di.dx,_,rfl,P3.di.o,ap9 _ _ _ _ tb_g% tb_g% tb_g% tb_g%,_,rfl,x.di.p,x.di.dx,x.di.l,x.room,x.di.n,x.di.v,th,x.di.C,rfl,P3.di,hG.dl,by have:=hG.dc;lia,by lia,by lia,fun l4 v4 H4 lv4 dn4 b4 nl4=>?_]];have P4:=P3.setS (f:=#[x.di.p,x.di.dx,l4,x.di.n+1,v4,came x.di.C th]) rfl b4 dn4;have f4:=f3.trans (Far.of (A:=A) (ps:=x.pts) (xj (i:=5) rfl) P3.di.o b4);have em:∀c∈a'::x.dn.x.a::l3::l4::(bs'++x.dn.x.bs),c∈x.ems\/H c=none:=fun c m=>by
   unfold KS.ems;simp only[aO,cF]at m ⊢;rcases m with rfl|rfl|rfl|rfl|m|m
   ·exact .inr (f1.none P1.live na2)
   ·exact .inl (.inr (.inl rfl))
   ·exact .inr (f2.none P2.live nl3)
   ·rcases nl4 with rfl|n
    ·exact .inl (.inr (.inr (.inr (.inl rfl))))
    ·exact .inr (f3.none P3.live n)
   ·rcases nb2 c m with m|n
    ·exact .inl (.inr (.inr (.inr (.inr (.inl m)))))
    ·exact .inr (f1.none P1.live n)
   ·exact .inl (.inr (.inr (.inr (.inr (.inr m)))))
  have o4:=f4.pb _ _ hK.o hK.nk;show#[_,rfl,_,rfl,rdG o4 (Zi T) #[_,_,rfl,rfl,_,rfl,cD (fun hs=>?_) (fun hs=>?_)]]
  ·have hs:th<x.span:=of_decide_eq_true hs;show#[_,rfl,rdG o4 (wz T) #[x.ba.p,x.ba.dx,_,rfl,P4.ba.o,aqa _ _ tb_g% tb_g%,_,rfl,_,rfl,x.ba.p,x.ba.dx,x.ba.l,x.span,th,w,x.ba.q,rfl,P4.ba,th0,by rw[e64];lia,fun l5 H5 bn5 b5 nl5=>?_]];have P5:=P4.setB (f:=#[x.ba.p,x.ba.dx,l5,_]) rfl b5 bn5;have f5:=f4.trans (Far.of (A:=A) (ps:=x.pts) (xj (i:=6) rfl) P4.ba.o b5);exact q _ H5 (P5.kp (f5.pb _ _ hK.o hK.nk) hK.nk) #[#[rfl,rfl,rfl,rfl,rfl,rfl],#[cut,ft,rfl,rfl],rfl,#[rfl,rfl,rfl,rfl,st],rfl,#[rfl,eb3],#[rfl,rfl,lv4],(if_pos hs).symm] f5 em
  ·have hs:¬ th<x.span:=fun z=>hs (decide_eq_true z);exact q _ H4 (P4.kp o4 hK.nk) #[#[rfl,rfl,rfl,rfl,rfl,rfl],#[cut,ft,rfl,rfl],rfl,#[rfl,rfl,rfl,rfl,st],rfl,#[rfl,eb3],#[rfl,rfl,lv4],(if_neg hs).symm] f4 em
def apo(A:Ad):Sp:=fun vs H Q _=>Ex4 fun(x:KS) (n:Nat) (th w:Int)=>Ep (vs=[.ref x.k,.int th,.int w]) (Kp A H x) (Kh x n) (n<63) (0<=th) (th<1152921504606846976) (1<=w) (w<=1000000000000/\∀(x':KS)(H':Hp),Kp A H' x'->ST th w x x'->Far A x.pts H H'->Em H x x'->Q .non H')
theorem IK(T:Tx K mg A):FnM P w mg base T.mj CX0 7 (apo A):=by
 k_dat (T.mj,T.mj.ok,Ir) "f"
 ·obtain⟨x,n,th,w,rfl,hK,hG,hn,th0,th1,w1,w2,q⟩:=h;have e64:(2:Int) ^ 64=18446744073709551616:=by decide
  have r2:=hG.r2;have r64:=hG.r64;have lu:=ql hG.dn.g hG.dn.t hG.few;have su:=hG.dn.g.small;have hrm:=hG.dn.r;obtain⟨W,okf⟩:=hG.wn.ok;show#[_,by (k_dat ([hdM],[],[]) "p"; k_dat (cW (pf 0) T.yU (wV T) (aM (pv 1) (aM (pv 2) cR))) "h"; k_dat (cW (pf 0) T.gO (Ez T) (aM (pv 1) (aM (pv 2) cR))) "h"; k_dat (cW (pf 0) T.xq (zx T) (aM Hv cR)) "h"; k_dat (cW (pf 0) T.abv (K7 T) (aM (pv 1) (aM (pv 2) cR))) "h"),?_]
  k_dat lq "c"
  show#[_,rfl,rdG hK.o (Zk T) #[x.wn.p,x.wn.dx,_,rfl,hK.wn.o,anA _ _ _ _ tb_g% tb_g% tb_g% tb_g%,_,rfl,_,rfl,x.wn.p,x.wn.dx,x.wn.d,x.room,x.wn.t,x.wn.l,th,w,x.wn.c,rfl,hK.wn.o,hK.wn.d,okf.nd,okf.pos,w1,by have:=hG.wn.k;lia,fun d1 c1 cut H1 hd1 ft o1 e1 b1=>?_]]
  k_dat lqn "c"
  have P1:=hK.pp.setW (f:=#[x.wn.p,x.wn.dx,d1,x.wn.t+w,x.wn.l+cut,c1]) rfl b1 #[o1,e1];have f1:Far A x.pts H H1:=Far.of (xj (i:=1) rfl) hK.wn.o b1;show#[_,rfl,rdG (f1.pb _ _ hK.o hK.nk) (Zm T) #[x.dn.p,x.dn.x.dx,_,rfl,P1.dn.o,rgN tb_g%,_,rfl,_,rfl,x.dn.p,x.dn.x.dx,x.dn.x.a,x.dn.x.bs,x.dn.x.r,x.dn.x.tt,x.dn.x.ov,x.dn.x.un,x.dn.x.tn,th,w,x.dn.x.mi,x.dn.x.ma,x.dn.x.ls,rfl,P1.dn,hG.dn.g.r2,hG.dn.g.r64,by lia,by rw[e64];lia,by lia,(hG.dn.le62 hG.rr hn).1,(hG.dn.le62 hG.rr hn).2,lu.2,fun a' bs' out tn' ov' un' H2 st rn b2 na2 nb2=>?_]];have P2:=P1.setD (f:=#[x.dn.p,#[x.dn.x.dx,a',bs',x.dn.x.r,x.dn.x.tt+w,ov',un',tn',_,_,out]]) rfl b2 rn;have f2:=f1.trans (Far.of (A:=A) (ps:=x.pts) (xj (i:=3) rfl) P1.dn.o b2);show#[_,rfl,rdG (f2.pb _ _ hK.o hK.nk) (uF T) #[x.wi.p,x.wi.dx,_,rfl,P2.wi.o,abC _ _ _ _ tb_g% tb_g% tb_g% tb_g%,x.wi.p,x.wi.dx,x.wi.l,x.room,x.reach,x.wi.c,1,x.wi.ps,rfl,P2.wi,by have:=hG.wl;lia,by lia,by lia,fun l3 ps3 H3 eb3 wn3 b3 nl3=>?_]];have P3:=P2.setI (f:=#[x.wi.p,x.wi.dx,l3,x.wi.c+1,ps3]) rfl b3 wn3;have f3:=f2.trans (Far.of (A:=A) (ps:=x.pts) (xj (i:=4) rfl) P2.wi.o b3);have em:∀c∈x.up.x.a::a'::l3::x.di.l::(x.up.x.bs++bs'),c∈x.ems\/H c=none:=fun c m=>by
   unfold KS.ems;simp only[aO,cF]at m ⊢;rcases m with rfl|rfl|rfl|rfl|m|m
   ·exact .inl (.inl rfl)
   ·exact .inr (f1.none P1.live na2)
   ·exact .inr (f2.none P2.live nl3)
   ·exact .inl (.inr (.inr (.inr (.inl rfl))))
   ·exact .inl (.inr (.inr (.inr (.inr (.inl m)))))
   ·rcases nb2 c m with m|n
    ·exact .inl (.inr (.inr (.inr (.inr (.inr m)))))
    ·exact .inr (f1.none P1.live n)
  have o3:=f3.pb _ _ hK.o hK.nk;show#[_,rfl,_,rfl,rdG o3 (Zi T) #[_,_,rfl,rfl,_,rfl,cD (fun hs=>?_) (fun hs=>?_)]]
  ·have hs:th<x.span:=of_decide_eq_true hs;show#[_,rfl,rdG o3 (wz T) #[x.ba.p,x.ba.dx,_,rfl,P3.ba.o,aqa _ _ tb_g% tb_g%,_,rfl,_,rfl,x.ba.p,x.ba.dx,x.ba.l,x.span,th,w,x.ba.q,rfl,P3.ba,th0,by rw[e64];lia,fun l5 H5 bn5 b5 nl5=>?_]];have P5:=P3.setB (f:=#[x.ba.p,x.ba.dx,l5,_]) rfl b5 bn5;have f5:=f3.trans (Far.of (A:=A) (ps:=x.pts) (xj (i:=6) rfl) P3.ba.o b5);exact q _ H5 (P5.kp (f5.pb _ _ hK.o hK.nk) hK.nk) #[#[rfl,rfl,rfl,rfl,rfl,rfl],rfl,#[cut,ft,rfl,rfl],rfl,#[rfl,rfl,rfl,rfl,st],#[rfl,eb3],rfl,(if_pos hs).symm] f5 em
  ·have hs:¬ th<x.span:=fun z=>hs (decide_eq_true z);exact q _ H3 (P3.kp o3 hK.nk) #[#[rfl,rfl,rfl,rfl,rfl,rfl],rfl,#[cut,ft,rfl,rfl],rfl,#[rfl,rfl,rfl,rfl,st],#[rfl,eb3],rfl,(if_neg hs).symm] f3 em
def apq(A:Ad):Sp:=fun vs H Q _=>Ex3 fun(x:KS) (n:Nat) (w:Int)=>z7 (vs=[.ref x.k,.int w]) (Kp A H x) (Kh x n) (∀(x':KS)(H':Hp),Kp A H' x'->SI w x x'->Far A x.pts H H'->Em H x x'->Q .non H')
theorem IV(T:Tx K mg A):FnM P w mg base T.mq CX0 6 (apq A):=by
 k_dat (T.mq,T.mq.ok,Iu) "f"
 ·obtain⟨x,n,w,rfl,hK,hG,q⟩:=h;have r2:=hG.r2;have r64:=hG.r64;have few:=hG.few;show#[_,by k_dat ([],[cW ?_ T.xq (zx T) ?_],[]) "p",?_];show#[_,rfl,rdG hK.o (uF T) #[x.wi.p,x.wi.dx,_,rfl,hK.wi.o,abC _ _ _ _ tb_g% tb_g% tb_g% tb_g%,_,rfl,x.wi.p,x.wi.dx,x.wi.l,x.room,x.reach,x.wi.c,w,x.wi.ps,rfl,hK.wi,by have:=hG.wl;lia,by lia,by lia,fun l3 ps3 H3 eb3 wn3 b3 nl3=>?_]];have P3:=hK.pp.setI (f:=#[x.wi.p,x.wi.dx,l3,x.wi.c+w,ps3]) rfl b3 wn3;have f3:Far A x.pts H H3:=Far.of (xj (i:=4) rfl) hK.wi.o b3;exact q _ H3 (P3.kp (f3.pb _ _ hK.o hK.nk) hK.nk) #[#[rfl,rfl,rfl,rfl,rfl,rfl],rfl,rfl,rfl,rfl,#[rfl,eb3],rfl,rfl] f3 fun c m=>by
   have m:c∈x.up.x.a::x.dn.x.a::l3::x.di.l::(x.up.x.bs++x.dn.x.bs):=m;unfold KS.ems;simp only[aO,cF]at m ⊢;rcases m with rfl|rfl|rfl|rfl|m|m
   ·exact .inl (.inl rfl)
   ·exact .inl (.inr (.inl rfl))
   ·exact .inr nl3
   ·exact .inl (.inr (.inr (.inr (.inl rfl))))
   ·exact .inl (.inr (.inr (.inr (.inr (.inl m)))))
   ·exact .inl (.inr (.inr (.inr (.inr (.inr m)))))
open MK
structure Cs(H G:Hp)(k C dk:Addr)(fs:List (Str × V))(ps:List Addr):Prop where
 o:G k=some (.ins C dk fs)
 b:But k H G
 fr:∀p∈ps,H p=none
 lv:∀p∈ps,G p≠none
 nd:(k::ps).Nodup
structure Sta(k:Addr)(P:Hp->Prop):Prop where
 s:∀{G I:Hp},P G->Same G I->P I
 b:∀{G I:Hp}{C e:Addr} {fs:List (Str × V)},P G->But k G I->G k=some (.ins C e fs)->P I
theorem Sta.and{k:Addr}{P R:Hp->Prop}(a:Sta k P)(b:Sta k R):Sta k fun G=>P G/\R G:=#[fun h s=>#[a.s h.1 s,b.s h.2 s],fun h s o=>#[a.b h.1 s o,b.b h.2 s o]]
section
variable{H G I:Hp}{k C dk p dx X:Addr}{fs fs':List (Str × V)}{ps:List Addr}
theorem Cs.s(n:G p=none)(m:G dx=none)(bt:But p (upd (upd G dx (.own p)) p (.ins X dx [])) I):Same G I:=fun b o e=>bt b o (by rwa[ao (ak e n),ao (ak e m)]) (ak e n)
theorem Cs.free(h:Cs H G k C dk fs ps){d:Addr}(y:(upd (upd G dx (.own p)) p (.ins X dx [])) d=none):H d=none:=by
 have np:d≠p:=fun z=>by rw[z,aj]at y;cases y
 rw[ao np]at y;have nq:d≠dx:=fun z=>by rw[z,aj]at y;cases y
 rw[ao nq]at y;exact eF h.b y (aL (ak h.o y))
theorem Cs.next{α:Type}{R:α->Hp->Prop}{σ:α}(h:Cs H G k C dk fs ps)(n:G p=none)(m:G dx=none)(bt:But p (upd (upd G dx (.own p)) p (.ins X dx [])) I)(lv:I p≠none)
  (q:∀J,Cs H J k C dk fs' (ps++[p])->p≠k->(∀{P:Hp->Prop},Sta k P->P I->P J)->(∀{P:Hp->Prop},Sta k P->P G->P J)->R σ J):R σ (upd I k (.ins C dk fs')):=by
 have s:=Cs.s n m bt;have o:=s _ _ h.o;have nk:p≠k:=aL (ak h.o n);have u:But k I (upd I k (.ins C dk fs')):=But.upd;have np:p∉ps:=fun z=>h.lv p z n;have nd:=iR.mp h.nd;refine q _ #[aj,(h.b.trans (s.but k)).trans u,fun b mb=>?_,fun b mb=>?_,iR.mpr #[fun z=>?_,FW.mpr #[nd.2,iR.mpr #[gB,FZ],fun a ma b mb=>?_]]] nk (fun S z=>S.b z u o) (fun S z=>S.b (S.s z s) u o)
 ·rcases cF.mp mb with z|z
  ·exact h.fr b z
  ·rw[cI.mp z];exact eF h.b n nk
 ·rcases cF.mp mb with z|z
  ·rw[ao fun y=>nd.1 (by rwa[<-y])];intro y;exact h.lv b z (s.free y)
  ·rwa[cI.mp z,ao nk]
 ·rcases cF.mp z with z|z
  ·exact nd.1 z
  ·exact nk (cI.mp z).symm
 ·rw[cI.mp mb];exact fun z=>np (by rwa[<-z])
end
def apr(A:Ad):Sp:=fun vs H Q _=>Ex5 fun(k dk:Addr) (room:Nat) (reach span:Int)=>KQ (vs=[.ref k,.int room,.int reach,.int span]) (H k=some (.ins A.C'5 dk [])) (2<=room) (room<=64) (room % 2=0) (∀(x:KS)(H':Hp),Kp A H' x->Eqp x (K0 room reach span)->x.k=k->(∀b∈x.pts,H b=none)->(∀b∈x.ems,H b=none)->But k H H'->Q .non H')
theorem tG.sta{A:Ad}{room:Nat}{f:Fq}{k:Addr}(n:f.p≠k):Sta k fun G=>tG A G room f:=#[fun h s=>h.same s,fun h b o=>h.but b o n]
theorem RnX.sta{A:Ad}{p:Addr}{x:Rs}{k:Addr}(n:p≠k):Sta k fun G=>RnX A G p x:=#[fun h s=>h.same s,fun h b o=>h.but b o n]
theorem uG(T:Tx K mg A):FnM P w mg base T.mD CX0 3 (apr A):=by
 k_dat (T.mD,T.mD.ok,Iv) "f"
 ·obtain⟨k,dk,room,reach,span,rfl,hk,r2,r64,ev,q⟩:=h;show#[_,by k_dat ([],[pC T.agU T.ae8 (Iz T) ?_,pC T.agR T.aoW (Ti T) ?_,pC T.agS T.am7 (Q7 T) ?_,pC T.agT T.ae7 (Iw T) ?_,pC T.agV T.ahF (K6 T) ?_],[]) "p",?_];refine sq fun R hR=>#[_,rfl,_,rfl,k,_,dk,[],rfl,hk,T.pF,T.agc,tb_g%,hR _ _ ?_];refine sq fun R hR=>#[_,rfl,_,rfl,k,_,dk,_,rfl,aj,T.pF,T.agd,tb_g%,hR _ _ ?_];refine sq fun R hR=>#[_,rfl,_,rfl,k,_,dk,_,rfl,aj,T.pF,T.agf,tb_g%,?_];rw[cC,cC]
  k_dat (nbA,G,zG,fG) "n"
  have C0:Cs H G k A.C'5 dk _ []:=⟨fG,zG,(fun b m=>nomatch m),(fun b m=>nomatch m),iR.mpr ⟨gB,FZ⟩⟩;refine hR _ _ (sq fun R hR=>⟨_,rfl,fun p1 dx1 n m _=>⟨p1,dx1,(room:Int),rfl,aj,fun d1 I _ e g bt=>⟨rfl,_,rfl,k,_,dk,_,rfl,(Cs.s n m bt) _ _ C0.o,T.pF,T.agg,tb_g%,C0.next n m bt (fun z=>by rw[e]at z;cases z) fun G1 C1 nk kI kG=>hR _ _ ?_⟩⟩⟩)
  k_dat lq "c"
  have S:=tG.sta (A:=A) (room:=room) (f:=#[p1,dx1,d1,0,0,[]]) nk;have F:=kI S #[e,g];refine sq fun R hR=>#[_,rfl,fun p2 dx2 n m _=>#[p2,dx2,(room:Int),rfl,aj,fun d2 I _ e g bt=>#[rfl,_,rfl,k,_,dk,_,rfl,(Cs.s n m bt) _ _ C1.o,T.pF,T.agh,tb_g%,C1.next n m bt (fun z=>by rw[e]at z;cases z) fun G2 C2 nk kI kG=>hR _ _ ?_]]]
  k_dat lq "c"
  have S':=tG.sta (A:=A) (room:=room) (f:=⟨p2,dx2,d2,0,0,[]⟩) nk;replace F:=And.intro (kG S F) (kI S' ⟨e,g⟩);replace S:=S.and S';refine sq fun R hR=>⟨_,rfl,fun p3 dx3 n m _=>⟨p3,dx3,(room:Int),rfl,aj,fun d3 I hd e g bt=>⟨rfl,_,rfl,k,_,dk,_,rfl,(Cs.s n m bt) _ _ C2.o,T.pF,T.agi,tb_g%,C2.next n m bt (fun z=>by rw[e]at z;cases z) fun G3 C3 nk kI kG=>hR _ _ ?_⟩⟩⟩;have v3:=C2.free hd;have S':=RnX.sta (A:=A) (x:=⟨dx3,d3,[],room,0,0,0,0,none,none,[]⟩) nk;replace F:=And.intro (kG S F) (kI S' (Rn.new e g));replace S:=S.and S';refine sq fun R hR=>⟨_,rfl,fun p4 dx4 n m _=>⟨p4,dx4,(room:Int),rfl,aj,fun d4 I hd e g bt=>⟨rfl,_,rfl,k,_,dk,_,rfl,(Cs.s n m bt) _ _ C3.o,T.pF,T.agj,tb_g%,C3.next n m bt (fun z=>by rw[e]at z;cases z) fun G4 C4 nk kI kG=>hR _ _ ?_⟩⟩⟩;have v4:=C3.free hd;have S':=RnX.sta (A:=A) (x:=⟨dx4,d4,[],room,0,0,0,0,none,none,[]⟩) nk;replace F:=And.intro (kG S F) (kI S' (Rn.new e g));replace S:=S.and S';refine sq fun R hR=>⟨_,rfl,_,rfl,fun p5 dx5 n m _=>⟨p5,dx5,(room:Int),reach,rfl,aj,fun d5 I hd e g bt=>⟨rfl,_,rfl,k,_,dk,_,rfl,(Cs.s n m bt) _ _ C4.o,T.pF,T.agk,tb_g%,C4.next n m bt (fun z=>by rw[e]at z;cases z) fun G5 C5 nk kI kG=>hR _ _ ?_⟩⟩⟩;have v5:=C4.free hd;have S':=(⟨fun h s=>h.same s,fun h b o=>h.but b o nk⟩:Sta k fun G=>Wn A G p5 dx5 d5 room reach 0 []);replace F:=And.intro (kG S F) (kI S' ⟨e,⟨g,fun _ h=>(nomatch h)⟩⟩);replace S:=S.and S';refine sq fun R hR=>⟨_,rfl,fun p6 dx6 n m _=>⟨p6,dx6,(room:Int),rfl,aj,fun d6 I hd e g bt=>⟨rfl,_,rfl,k,_,dk,_,rfl,(Cs.s n m bt) _ _ C5.o,T.pF,T.agl,tb_g%,C5.next n m bt (fun z=>by rw[e]at z;cases z) fun G6 C6 nk kI kG=>hR _ _ ?_⟩⟩⟩;have v6:=C5.free hd;have S':=(⟨fun h s=>h.same s,fun h b o=>h.but b o nk⟩:Sta k fun G=>Dn A G p6 dx6 d6 room 0 0 (srt (My.up 0 [])));replace F:=And.intro (kG S F) (kI S' ⟨e,by rwa[show srt (My.up 0 [])=[]from Ji.mp (fZ _)]⟩);replace S:=S.and S';refine⟨_,rfl,fun p7 dx7 n m _=>⟨p7,dx7,span,rfl,aj,fun d7 I _ e bt=>⟨rfl,_,rfl,k,_,dk,_,rfl,(Cs.s n m bt) _ _ C6.o,T.pF,T.agm,tb_g%,C6.next n m bt (fun z=>by rw[e.o]at z;cases z) fun G7 C7 nk kI kG=>?_⟩⟩⟩;have S':=(⟨fun h s=>h.same s,fun h b o=>h.but b o nk⟩:Sta k fun G=>Bn A G p7 dx7 d7 span agw);replace F:=And.intro (kG S F) (kI S' e);obtain⟨⟨⟨⟨⟨⟨F1,F2⟩,F3⟩,F4⟩,F5⟩,F6⟩,F7⟩:=F;have o7:=C7.o;rw[atc]at o7;refine q ⟨k,dk,room,reach,span,⟨p1,dx1,d1,0,0,[]⟩,⟨p2,dx2,d2,0,0,[]⟩,⟨p3,⟨dx3,d3,[],room,0,0,0,0,none,none,[]⟩⟩,⟨p4,⟨dx4,d4,[],room,0,0,0,0,none,none,[]⟩⟩,⟨p5,dx5,d5,0,[]⟩,⟨p6,dx6,d6,0,0,[]⟩,⟨p7,dx7,d7,agw⟩⟩ G7 ⟨o7,F1,F2,F3,F4,F5,F6,F7,C7.nd⟩
   #[rfl,rfl,rfl,#[rfl,rfl,rfl],#[rfl,rfl,rfl],#[rfl,rfl,rfl,rfl,rfl,rfl,rfl,rfl],#[rfl,rfl,rfl,rfl,rfl,rfl,rfl,rfl],#[rfl,rfl],#[rfl,rfl,rfl],rfl] rfl C7.fr (fun b m=>?_) C7.b
  unfold KS.ems at m;simp only[aO,cF,gB,or_false]at m;rcases m with rfl|rfl|rfl|rfl;all_goals assumption
open MK
def spMix:Sp:=fun vs H Q _=>Ex3 fun(c f p:Int)=>abz (vs=[.int c,.int f,.int p]) (0<f) (f<2 ^ 64) (0<p) (Q (.int (c*f % p)) H)
theorem abH(T:Tx K mg A):FnK P w base T.YT CX0 1 spMix:=by
 k_dat (T.YT,T.YT.ok,anj) "f"
 ·obtain⟨c,f,p,rfl,f0,f1,p0,q⟩:=h
  walk_at "B"
  show#[_,rfl,_,rfl,_,_,rfl,rfl,eY tb_g% f1,_,rfl,_,_,rfl,rfl,p0,q]
def afk:Nat->Int
 |0=>770093176312745717
 |n+1=>afk n*(2-770093176312745717*afk n) % 1152921504606846976
theorem anI:∀n,0<=afk n/\afk n<1152921504606846976
 |0=>by decide
 |_+1=>#[yc _ tb_g%,xZ _ tb_g%]
def spFar:Sp:=fun vs H Q _=>vs=[]/\Q (.int (afk 5)) H
theorem Tn(T:Tx K mg A):FnK P w base T.gR CX0 1 spFar:=by
 k_dat (T.gR,T.gR.ok,Aj) "f"
 ·obtain⟨rfl,q⟩:=h;show#[_,by k_dat ([],[Aj.nd,ag1 rfl T.aoX ?_],[]) "p",?_]
  k_dat lq "c"
  show#[5,rfl,by decide,by decide,?_];refine ag3 (fun i σ G=>∃(y:Option V),σ=[some (.int (afk i)),y]/\G=H) #[none,rfl,rfl] ?_ ?_
  ·rintro i σ G hi ⟨y,rfl,rfl⟩;have:=anI i;show#[_,rfl,_,rfl,_,_,rfl,rfl,aer tb_g% tb_g%,_,_,rfl,rfl,_,_,rfl,rfl,aer tb_g% tb_g%,_,_,rfl,rfl,(by show(0:Int)<1152921504606846976;decide),_,rfl,rfl]
  ·rintro σ G ⟨y,rfl,rfl⟩;show#[_,rfl,q]
def thF(c:Int):Int:=if c % 4<2 then c / 4 % (if c % 4=0 then 7 else 60)else if c % 4=2 then c / 4*2862933555777941757 % 1152921504606846976 else(1+c / 4 % 40)*2 ^ (c / 160 % 50).toNat*afk 5 % 1152921504606846976
theorem aqb(c:Int):0<=thF c/\thF c<1152921504606846976:=by
 unfold thF;split
 ·split <;> lia
 ·split
  ·show#[yc _ tb_g%,xZ _ tb_g%]
  ·show#[yc _ tb_g%,xZ _ tb_g%]
def anJ:Sp:=fun vs H Q _=>∃c:Int,vs=[.int c]/\∀(H':Hp),Same H H'->Q (.int (thF c)) H'
theorem Tq(T:Tx K mg A):FnK P w base T.vV CX0 2 anJ:=by
 k_dat (T.vV,T.vV.ok,Ak) "f"
 ·obtain⟨c,rfl,q⟩:=h;unfold thF at q;show#[_,by k_dat ([arX],[Ak.nd,alF (Tn T).2 tb_g% rfl T.gR.g T.gR.kp T.gR.b .nil aaA],[]) "p",?_]
  k_dat lq "c"
  show#[_,rfl,_,_,rfl,rfl,(by show(0:Int)<4;decide),?_]
  k_dat lqg "c"
  show#[_,rfl,_,_,rfl,rfl,_,rfl,cD (fun h=>?_) (fun h=>?_)]
  ·have h:c % 4<2:=of_decide_eq_true h;simp only[if_pos h]at q;show#[_,rfl,_,_,rfl,rfl,#[by decide,by decide],tb_g%,fun p hp=>#[_,rfl,?_]];have e:atI ([7,60].map V.int) (c % 4)=some (.int (if c % 4=0 then 7 else 60)):=by
    rcases(show c % 4=0\/c % 4=1 by lia)with z|z <;> rw[z] <;> rfl
   refine cH (.inl (.inl aj)) (v:=.int (if c % 4=0 then 7 else 60)) e #[_,_,rfl,rfl,(by show(0:Int)<(if c % 4=0 then 7 else 60);split <;> decide),?_];exact q _ (Same.new hp)
  have h:¬ c % 4<2:=fun z=>h (decide_eq_true z);simp only[if_neg h]at q;show#[_,rfl,rfl,_,rfl,cD (fun h=>?_) (fun h=>?_)]
  ·k_dat ld "c"
   have h:c % 4=2:=V.int.inj (of_decide_eq_true h);simp only[if_pos h]at q;show#[_,rfl,_,_,rfl,rfl,#[by decide,by decide],_,_,rfl,rfl,eY tb_g% tb_g%,_,_,rfl,rfl,(by show(0:Int)<1152921504606846976;decide),q _ (Same.refl H)]
  ·have h:¬ c % 4=2:=fun z=>h (decide_eq_true (congrArg V.int z));simp only[if_neg h]at q;have fb:=anI 5;show#[_,rfl,_,_,rfl,rfl,#[by decide,by decide],_,_,rfl,rfl,(by show(0:Int)<40;decide),_,_,rfl,rfl,_,rfl,_,_,rfl,rfl,#[by decide,by decide],_,_,rfl,rfl,(by show(0:Int)<50;decide),_,_,rfl,rfl,#[by lia,by lia,?_],?_]
   ·lia
   show#[_,rfl,rfl,_,_,rfl,rfl,eY tb_g% tb_g%,_,_,rfl,rfl,(by show(0:Int)<1152921504606846976;decide),q _ (Same.refl H)]
def wtF(c:Int):Int:=if c % 5=0 then 1+c / 5*48271 % 1000000000000 else 1+c / 5 % 12
theorem aqc(c:Int):1<=wtF c/\wtF c<=1000000000000:=by
 unfold wtF;split
 ·have:=yc (c / 5*48271) (show(1000000000000:Int)≠0 by decide);have:=xZ (c / 5*48271) (show(0:Int)<1000000000000 by decide);lia
 ·lia
def ahW:Sp:=fun vs H Q _=>∃c:Int,vs=[.int c]/\Q (.int (wtF c)) H
theorem Rf(T:Tx K mg A):FnK P w base T.sX CX0 1 ahW:=by
 k_dat (T.sX,T.sX.ok,QX) "f"
 ·obtain⟨c,rfl,q⟩:=h;unfold wtF at q
  walk_at "B"
  show#[_,rfl,_,_,rfl,rfl,(by show(0:Int)<5;decide),rfl,_,rfl,cD (fun h=>?_) (fun h=>?_)]
  ·rw[if_pos (V.int.inj (of_decide_eq_true h))]at q
   k_dat ld "c"
   show#[_,rfl,_,_,rfl,rfl,#[by decide,by decide],_,_,rfl,rfl,eY tb_g% tb_g%,_,_,rfl,rfl,(by show(0:Int)<1000000000000;decide),_,_,rfl,rfl,q]
  ·rw[if_neg fun z=>h (decide_eq_true (congrArg V.int z))]at q;show#[_,rfl,_,_,rfl,rfl,#[by decide,by decide],_,_,rfl,rfl,(by show(0:Int)<12;decide),_,_,rfl,rfl,q]
structure R3 where
 (kd th w:Int)
structure R3.ok(r:R3):Prop where
 k0:0<=r.kd
 k2:r.kd<=2
 t0:0<=r.th
 t1:r.th<1152921504606846976
 w1:1<=r.w
 w2:r.w<=1000000000000
def r3V(r:R3):HO:=.tup [.int r.kd,.int r.th,.int r.w]
def kdF(c:Int):Int:=if c % 7<4 then 0 else if c % 7<6 then 1 else 2
def rowF(c:Int):R3:=#[kdF c,thF (c*6364136223846793005 % 18446744073709551557),wtF (c*69621 % 2147483629)]
theorem agx(c:Int):(rowF c).ok:=by
 show#[?_,?_,(aqb _).1,(aqb _).2,(aqc _).1,(aqc _).2]
 ·show 0<=kdF c;unfold kdF;split <;> (try split) <;> decide
 ·show kdF c<=2;unfold kdF;split <;> (try split) <;> decide
def aps:Sp:=fun vs H Q _=>∃c:Int,vs=[.int c]/\∀(t:Addr)(H':Hp),H t=none->H' t=some (r3V (rowF c))->Same H H'->Q (.ref t) H'
theorem abI(T:Tx K mg A):FnK P w base T.CP CX0 3 aps:=by
 k_dat (T.CP,T.CP.ok,Ju) "f"
 ·obtain⟨c,rfl,q⟩:=h;show#[_,by k_dat ([],[Ju.nd,aB (abH T) ?_,aB (Tq T) ?_,aB (Rf T) ?_],[]) "p",?_]
  k_dat lq "c"
  show#[tb_g%,fun p hp=>#[_,rfl,_,_,rfl,rfl,(by show(0:Int)<7;decide),?_]];have e:atI ([0,0,0,0,1,1,2].map V.int) (c % 7)=some (.int (kdF c)):=by
   unfold kdF;rcases(show c % 7=0\/c % 7=1\/c % 7=2\/c % 7=3\/c % 7=4\/c % 7=5\/c % 7=6 by lia)with z|z|z|z|z|z|z <;> rw[z] <;> rfl
  refine cH (.inl (.inl aj)) (v:=.int (kdF c)) e ?_
  k_dat (nwA hp,H1,s1,fH1) "n"
  show#[_,rfl,c,6364136223846793005,18446744073709551557,rfl,by decide,by decide,by decide,c*6364136223846793005 % 18446744073709551557,rfl,fun H2 s2=>?_];show#[_,rfl,c,69621,2147483629,rfl,by decide,by decide,by decide,c*69621 % 2147483629,rfl,?_];show#[_,rfl,_,rfl,_,rfl,tb_g%,fun t ht=>q t _ ((s1.trans s2).free ht) aj (s1.trans (s2.trans (Same.new ht)))]
def apt:Sp:=fun vs H Q _=>∃c:Int,vs=[.int c]/\∀(t:Addr)(room:Nat)(reach span:Int)(H':Hp),2<=room->room<=64->room % 2=0->(room<=15\/room=64)->(1<=reach/\reach<=1000000000)->(1<=span/\span<=1000000000)->H' t=some (.tup [.int room,.int reach,.int span])->Same H H'->Q (.ref t) H'
theorem rooms{v:Int}(h:v∈[2,4,2,6,8,10]):∃r:Nat,v=r/\2<=r/\r<=64/\r % 2=0/\(r<=15\/r=64):=by
 k_dat h "D"
 show#[v.toNat,by lia,by lia,by lia,by lia,by lia]
theorem Tr(T:Tx K mg A):FnK P w base T.vX CX0 1 apt:=by
 k_dat (T.vX,T.vX.ok,Am) "f"
 ·obtain⟨c,rfl,q⟩:=h;show#[_,by k_dat ([],[Am.nd],[]) "p",?_]
  k_dat lq "c"
  show#[tb_g%,fun p hp=>#[_,rfl,_,_,rfl,rfl,(by show(0:Int)<6;decide),?_]];obtain⟨rv,hrv,e⟩:=Yb (ns:=[2,4,2,6,8,10]) (i:=c % 6) tb_g% (by show c % 6<6;lia);obtain⟨room,rfl,r2,r64,ev,rr⟩:=rooms hrv;refine cH (.inl (.inl aj)) (v:=.int room) e ?_
  k_dat (nwA hp,H1,s1,fH1) "n"
  k_dat lqg "c"
  show#[_,rfl,_,_,rfl,rfl,#[by decide,by decide],_,_,rfl,rfl,(by show(0:Int)<9;decide),_,_,rfl,rfl,_,rfl,_,_,rfl,rfl,#[by decide,by decide],_,_,rfl,rfl,(by show(0:Int)<1000000;decide),_,_,rfl,rfl,tb_g%,fun p2 hp2=>#[_,rfl,_,_,rfl,rfl,#[by decide,by decide],_,_,rfl,rfl,(by show(0:Int)<3;decide),?_]];obtain⟨reach,hre,e2⟩:=Yb (ns:=[1000000000,1+c / 6 % 9,1+c / 6 % 1000000]) (i:=c / 6 % 3) tb_g% (by show c / 6 % 3<3;lia);refine cH (.inl (.inl aj)) (v:=.int reach) e2 ?_
  k_dat (nwA hp2,H2,zH2,fH2) "n"
  have s2:=s1.trans zH2;show#[_,rfl,_,_,rfl,rfl,#[by decide,by decide],_,_,rfl,rfl,(by show(0:Int)<9;decide),_,_,rfl,rfl,tb_g%,fun p3 hp3=>#[_,rfl,_,_,rfl,rfl,#[by decide,by decide],_,_,rfl,rfl,(by show(0:Int)<3;decide),?_]];obtain⟨span,hsp,e3⟩:=Yb (ns:=[1+c / 18 % 9,60,1000000000]) (i:=c / 18 % 3) tb_g% (by show c / 18 % 3<3;lia);refine cH (.inl (.inl aj)) (v:=.int span) e3 ?_
  k_dat (nwA hp3,H3,zH3,fH3) "n"
  have s3:=s2.trans zH3;simp only[aO,gB,or_false]at hre hsp;show#[_,rfl,_,rfl,_,rfl,tb_g%,fun t ht=>q t room reach span _ r2 r64 ev rr tb_g% tb_g% aj (s3.trans (Same.new ht))]
def SR(r:R3)(x x':KS):Prop:=if r.kd=0 then SP r.th r.w x x' else if r.kd=1 then ST r.th r.w x x' else SI r.w x x'
theorem SR.sb{r:R3}{x x':KS}(h:SR r x x'):SB x x':=by
 unfold SR at h;split at h
 ·exact h.sb
 ·split at h
  ·exact h.sb
  ·exact h.sb
theorem Kh.row{r:R3}{x x':KS}{n:Nat}(h:Kh x n)(hn:n<63)(ok:r.ok)(s:SR r x x'):Kh x' (n+1):=by
 unfold SR at s;split at s
 ·exact h.put hn s ok.w1 ok.w2
 ·split at s
  ·exact h.take hn s ok.w1 ok.w2
  ·exact h.idle hn s
def ati(A:Ad):Sp:=fun vs H Q _=>Ex4 fun(x:KS) (n:Nat) (t:Addr) (r:R3)=>abA (vs=[.ref x.k,.ref t]) (Kp A H x) (Kh x n) (n<63) (H t=some (r3V r)) r.ok (∀(x':KS)(H':Hp),Kp A H' x'->SR r x x'->Far A x.pts H H'->Em H x x'->Q .non H')
theorem ahX(T:Tx K mg A):FnK P w base T.QJ CX0 8 (ati A):=by
 k_dat (T.QJ,T.QJ.ok,ahK) "f"
 ·obtain⟨x,n,t,r,rfl,hK,hG,hn,ht,ok,q⟩:=h;unfold r3V at ht;unfold SR at q;show#[_,by k_dat ([],[cW ?_ T.pF (K8 T) ?_,cW ?_ T.pF (IK T) ?_,cW ?_ T.pF (IV T) ?_],[]) "p",?_];show#[_,rfl,pA (.inl (.inl ht)) (v:=.int r.kd) rfl #[rfl,_,rfl,cD (fun h=>?_) (fun h=>?_)]]
  ·have h:r.kd=0:=V.int.inj (of_decide_eq_true h);simp only[if_pos h]at q;show#[_,rfl,x.k,x.dk,_,rfl,hK.o,kfN tb_g%,_,rfl,pA (.inl (.inl ht)) (v:=.int r.th) rfl #[_,rfl,pA (.inl (.inl ht)) (v:=.int r.w) rfl #[x,n,r.th,r.w,rfl,hK,hG,hn,ok.t0,ok.t1,ok.w1,ok.w2,q]]]
  have h:¬ r.kd=0:=fun z=>h (decide_eq_true (congrArg V.int z));simp only[if_neg h]at q;show#[_,rfl,pA (.inl (.inl ht)) (v:=.int r.kd) rfl #[rfl,_,rfl,cD (fun h2=>?_) (fun h2=>?_)]]
  ·have h2:r.kd=1:=V.int.inj (of_decide_eq_true h2);simp only[if_pos h2]at q;show#[_,rfl,x.k,x.dk,_,rfl,hK.o,kfN tb_g%,_,rfl,pA (.inl (.inl ht)) (v:=.int r.th) rfl #[_,rfl,pA (.inl (.inl ht)) (v:=.int r.w) rfl #[x,n,r.th,r.w,rfl,hK,hG,hn,ok.t0,ok.t1,ok.w1,ok.w2,q]]]
  ·have h2:¬ r.kd=1:=fun z=>h2 (decide_eq_true (congrArg V.int z));simp only[if_neg h2]at q;show#[_,rfl,x.k,x.dk,_,rfl,hK.o,kfN tb_g%,_,rfl,pA (.inl (.inl ht)) (v:=.int r.w) rfl #[x,n,r.w,rfl,hK,hG,q]]
open MK
def atj(σ:St)(_:Hp):Nat:=match σ with
 |[_,_,some (.int x)]=>x.toNat
 |_=>0
theorem log2_small{k:Nat}{i:Int}(h:i.natAbs<2 ^ k)(hk:0<k):i.natAbs.log2<k:=by
 by_cases z:i.natAbs=0
 ·rwa[z]
 ·exact(ajF z).mpr h
theorem agy(css:List (List Char)):bZ (aD "") ((css.map Dec.tx).reverse)=Dec.tx css.reverse.flatten:=by
 rw[<-xG,show aD "" = (#[#[]]:Str) by decide +kernel];exact Dec.join_none _
theorem anK(css:List (List Char)):((css.map Dec.tx).map (·.length)).sum=css.reverse.flatten.length:=by
 rw[List.length_flatten,xG,aiu,fj];exact congrArg List.sum (wB fun c _=>Dec.vM c)
def spFig:Sp:=fun vs H Q _=>∃(n:Int),tD (vs=[.int n]) (n.natAbs<2 ^ 1000) (∀H',Same H H'->Q (.str (aD (toString n))) H')
theorem Rg(T:Tx K mg A):FnK P w base T.Ik CX0 1 spFig:=by
 k_dat (T.Ik,T.Ik.ok,QZ) "f"
 ·obtain⟨n,rfl,hn,q⟩:=h;obtain⟨_,apu,apv⟩:=T.aoZ;obtain⟨_,K9,La⟩:=T.Kv;show#[_,by k_dat ([amE],[QZ.nd,cV ahq (by rfl) T.n_abs aqt ?_,ud Xq (by rfl) T.n_str aqu ?_,mR wD PySem.F.slot_str_zfill PySem.F.type_str_zfill amD ?_ ?_,aeN T.pY ?_ ?_ rfl],[dU (v:=.int 1000000000000000000000000000000) rfl apu apv,dU (v:=.int 30) rfl K9 La]) "p",?_]
  k_dat lq "c"
  show#[tb_g%,fun L hL=>?_]
  k_dat (nwA hL,H1,s1,f1) "n"
  have f1:H1 L=some (.lst (([]:List (List Char)).map fun c=>V.str (Dec.tx c))):=f1;show#[_,rfl,n,rfl,?_];have e:(if n<0 then -n else n)=(n.natAbs:Int):=by split <;> lia
  rw[e]
  k_dat lqg "c"
  have pE:(1000000000000000000000000000000:Nat)=10 ^ 30:=by decide
  refine yD (fun σ G=>Ex2 fun(ps:List (List Char)) (m:Nat)=>KQ (σ=[some (.int n),some (.ref L),some (.int (m:Int))]) (G L=some (.lst (ps.map fun c=>V.str (Dec.tx c)))) (Same H G) (Dec.dg n.natAbs=Dec.dg m++ps.reverse.flatten) (ps.length<1000) (m*2 ^ ps.length<=n.natAbs)) atj #[[],n.natAbs,rfl,f1,s1,by simp,by decide,by simp] ?_
   (fun σ H Q Q' hq ⟨v,e,i,j,e1,e2,k,e3,q⟩=>#[v,e,i,j,e1,e2,k,e3,hq _ _ q])
  rintro σ G ⟨ps,m,rfl,gL,sG,ed,lp,mp⟩;show#[_,rfl,_,_,rfl,rfl,_,rfl,cD (fun h=>?_) (fun h=>?_)]
  ·k_dat lq "c"
   have h:1000000000000000000000000000000<=m:=by have:=of_decide_eq_true h;lia
   show#[_,rfl,.inl #[rfl,_,.inl (.inl gL)],?_];show#[_,rfl,_,_,rfl,rfl,(by show(0:Int)<1000000000000000000000000000000;decide),(m:Int) % 1000000000000000000000000000000,rfl,?_,?_]
   ·have e2:(2:Nat) ^ 100=1267650600228229401496703205376:=by decide
    exact oA (log2_small (k:=100) tb_g% tb_g%) tb_g%
   have ei:(m:Int) % 1000000000000000000000000000000=((m % 10 ^ 30:Nat):Int):=by rw[<-pE];lia
   have eq:(m:Int) / 1000000000000000000000000000000=((m / 10 ^ 30:Nat):Int):=by rw[<-pE];lia
   have ml:m % 10 ^ 30<10 ^ 30:=Nat.mod_lt _ tb_g%;have zt:W8 (aD (toString ((m:Int) % 1000000000000000000000000000000))) 30=Dec.tx (Dec.pad 30 (m % 10 ^ 30)):=by rw[ei,Dec.jV];exact Dec.amC tb_g% ml
   show#[rfl,_,30,rfl,rfl,by decide,?_];rw[zt];show#[L,_,_,rfl,rfl,gL,aQ (by rw[aC];lia),?_];have m1:0<m / 10 ^ 30:=Nat.div_pos (by rwa[<-pE]) tb_g%;have lt2:m / 10 ^ 30*2<=m:=by rw[<-pE];lia
   have p2:m / 10 ^ 30*2 ^ (ps.length+1)<=n.natAbs:=by
    have e2:2 ^ (ps.length+1)=2*2 ^ ps.length:=by rw[mQ,WQ]
    rw[e2,<-uR];exact bQ (Dj _ lt2) mp
   show#[_,rfl,_,_,rfl,rfl,#[by decide,by decide],#[ps++[Dec.pad 30 (m % 10 ^ 30)],m / 10 ^ 30,by rw[<-eq];rfl,?_,fun b o e=>?_,?_,?_,by rwa[bB]],?_]
   ·rw[bG];exact aj
   ·rw[ao (ak e hL)];exact sG b o e
   ·have:=Dec.aaZ m1 30 tb_g% ml;rw[show m / 10 ^ 30*10 ^ 30+m % 10 ^ 30=m from Nat.div_add_mod' _ _]at this;rw[ed,Vy,this,dO];rfl
   ·rw[bB];show ps.length+1<1000;rcases iz (ps.length+1) 1000 with z|z
    ·exact z
    ·have h1:=Nu (show 0<2 by decide) z;have h2:=Dj (2 ^ (ps.length+1)) m1;lia
   ·show((m:Int) / 1000000000000000000000000000000).toNat<(m:Int).toNat;lia
  ·k_dat lqn "c"
   have cl:(Dec.dg n.natAbs).length<=400:=Dec.vL 400 tb_g% (oA hn tb_g%);show#[_,rfl,.inl #[rfl,_,.inl (.inl gL)],_,rfl,(m:Int),rfl,?_,?_]
   ·have:m<=n.natAbs:=bQ (Nat.le_mul_of_pos_right _ (Nat.two_pow_pos _)) mp;exact oA (log2_small (k:=1000) tb_g% tb_g%) tb_g%
   rw[Dec.jV];show#[L,_,_,rfl,rfl,gL,aQ (by rw[aC];lia),?_]
   k_dat (nsA sG hL,G2,s2,fG2) "n"
   have g2:G2 L=some (.lst ((ps++[Dec.dg m]).map fun c=>V.str (Dec.tx c))):=by rwa[bG]
   have fl:(ps++[Dec.dg m]).reverse.flatten=Dec.dg n.natAbs:=by rw[ed,Vy];rfl
   have ll:(ps++[Dec.dg m]).length<=1000:=by rw[bB];show ps.length+1<=1000;lia
   generalize ps++[Dec.dg m]=css at g2 fl ll;show#[_,rfl,_,_,rfl,rfl,_,rfl,cD (fun h0=>?_) (fun h0=>?_)]
   ·have h0:n<0:=of_decide_eq_true h0;show#[_,rfl,.inl #[rfl,_,.inl (.inl g2)],L,_,_,rfl,rfl,g2,aQ (by rw[aC];lia),?_]
    k_dat (nsA s2 hL,G3,s3,fG3) "n"
    have g3:G3 L=some (.lst (((css++[['-']]).map Dec.tx).map V.str)):=by
     rw[fG3,show aD "-" = Dec.tx ['-'] by decide +kernel,bG,bG,fj];rfl
    have e1:(css++[['-']]).reverse.flatten = '-'::Dec.dg n.natAbs:=by rw[Vy,<-fl];rfl
    show#[aD "",rfl,_,rfl,L,(css++[['-']]).map Dec.tx,rfl,.inl (.inl g3),by decide +kernel,?_,?_]
    ·rw[anK,e1,aC,bB];show(Dec.dg n.natAbs).length+1+(css.length+1)<=1048576;lia
    ·rw[agy,e1,<-Dec.DW tb_g%,show -(n.natAbs:Int)=n by lia];exact q _ s3
   ·have h0:¬ n<0:=fun z=>h0 (decide_eq_true z);show#[aD "",rfl,_,rfl,L,css.map Dec.tx,rfl,.inl (.inl (by rw[g2,fj];rfl)),by decide +kernel,?_,?_]
    ·rw[anK,fl,aC];lia
    ·rw[agy,fl,<-Dec.jV,show(n.natAbs:Int)=n by lia];exact q _ s2
open MK
def sI(n:Int):Str:=aD (toString n)
theorem atk{n:Int}(h:n.natAbs<2 ^ 1000):(sI n).length<=401:=by
 have cl:(Dec.dg n.natAbs).length<=400:=Dec.vL 400 tb_g% (oA h tb_g%);unfold sI;by_cases z:n<0
 ·rw[show n = -(n.natAbs:Int) by lia,Dec.DW tb_g%,Dec.vM];show(Dec.dg n.natAbs).length+1<=401;lia
 ·rw[show n=(n.natAbs:Int) by lia,Dec.jV,Dec.vM];lia
theorem Rh:∀{ns:List Int},(∀n∈ns,n.natAbs<2 ^ 1000)->((ns.map sI).map (·.length)).sum<=401*ns.length
 |[],_=>aJ _
 |n::ns,h=>by
  have h1:=atk (h n bV);have h2:=Rh fun k m=>h k (cB n m);rw[cP,cP,gG,bh];lia
def spRow:Sp:=fun vs H Q _=>Ex2 fun(a:Addr) (ns:List Int)=>abz (vs=[.ref a]) (H a=some (.lst (ns.map V.int))) ((∀n∈ns,n.natAbs<2 ^ 1000)) (ns.length<=900) (∀H',Same H H'->Q (.str (bZ (aD " ") (ns.map sI))) H')
theorem Zn(T:Tx K mg A):FnK P w base T.ana CX0 2 spRow:=by
 k_dat (T.ana,T.ana.ok,asM) "f"
 ·obtain⟨a,ns,rfl,ha,hb,hn,q⟩:=h;show#[_,by k_dat ([fM],[mR wD Jl Hf DX ?_ ?_],[ug [] ["number"] [] ?_ (fun _ _ _ _=>jU) (fun _ _ _ _=>(aB (Rg T) (aM (pv 0) cR)))]) "p",?_];show#[rfl,_,rfl,a,rfl,#[_,.inl (.inl ha)],fun D hD=>?_];refine iK (K:=K) (a:=a) (xs:=ns.map V.int) (fun i ys G=>ys=(ns.take i).map (fun n=>V.str (sI n))/\G D=some (.lst ys)/\Same H G) #[rfl,aj,Same.new hD] ?_ ?_ ?_ ?_
  ·rintro i ys G hi ⟨rfl,gD,sG⟩;show#[.inl (.inl (sG _ _ ha)),gD,aQ ?_];rw[aC,d8];lia
  ·rintro i ys G x hx ⟨rfl,gD,sG⟩
   k_dat (n,hi,int_at,hx) "G"
   show#[_,rfl,n,rfl,hb n (xj hi),fun G1 s1=>?_];show#[s1 _ _ gD,?_,aj,fun b o e=>?_]
   ·rw[mL,hi,bG];rfl
   ·rw[ao (ak e hD)];exact s1 _ _ (sG b o e)
  ·rintro ys G ⟨rfl,gD,sG⟩;rw[aC,nJ]at gD;have sm:=Rh hb;show#[aD " ",D,ns.map sI,rfl,rfl,.inl (.inl (by rw[gD,fj];rfl)),by decide +kernel,?_,q _ sG];rw[aC];lia
  ·rintro σ H R R' hr ⟨v,e,n,en,hn,q⟩;show#[v,e,n,en,hn,fun H1 s1=>hr _ _ (q H1 s1)]
open MK
def bI(b:WN.Box):List Int:=[b.f,b.l,b.s]
def atl(A:Ad):Sp:=fun vs H Q _=>Ex7 fun(p dx l:Addr) (r k c:Int) (ps:List Bp)=>abz (vs=[.ref p]) (Wn A H p dx l r k c ps) ((∀n∈c::(bx ps).flatMap bI,n.natAbs<2 ^ 1000)) (ps.length<=200) (∀H',Same H H'->Q (.str (bZ (aD " ") ((c::(bx ps).flatMap bI).map sI))) H')
theorem tH:∀bs:List WN.Box,(bs.flatMap bI).length=3*bs.length
 |[]=>rfl
 |b::bs=>by rw[tO,bB,tH bs,bh];show 3+_=_;lia
theorem Lb(T:Tx K mg A):FnK P w base T.pP CX0 3 (atl A):=by
 k_dat (T.pP,T.pP.ok,wQ) "f"
 ·obtain⟨p,dx,l,r,k,c,ps,rfl,hW,hb,hn,q⟩:=h;show#[_,by k_dat ([fM],[wQ.nd,mR N8 adD adE aeO ?_ ?_,aB (Zn T) ?_],[]) "p",?_]
  k_dat lq "c"
  show#[_,rfl,rdG hW.o (kY T) #[tb_g%,fun L hL=>?_]]
  k_dat (nwA hL,H1,s1,f1) "n"
  have f1:H1 L=some (.lst ((c::(bx (ps.take 0)).flatMap bI).map V.int)):=f1;have W1:=hW.same s1;show#[_,rfl,rdG W1.o (zu T) #[l,rfl,#[_,.inl (.inl W1.b.l)],o9 (K:=K) (a:=l) (xs:=ps.map fun p=>V.ref p.1) (fun i σ G=>∃(y:Option V),tD (σ=[some (.ref p),some (.ref L),y]) (G L=some (.lst ((c::(bx (ps.take i)).flatMap bI).map V.int))) (Same H G)) #[none,rfl,f1,s1] (fun i σ G _ ⟨_,_,_,s⟩=>.inl (.inl (s _ _ hW.b.l))) ?_ ?_]]
  ·rintro i v σ G hi ⟨y,rfl,gL,sG⟩
   k_dat (b,hi',Zb,hi) "G"
   have ht:=sG _ _ (hW.b.t b (xj hi'));have li:i<ps.length:=(fu.mp hi').1;have ll:(c::(bx (ps.take i)).flatMap bI).length<=900:=by
    rw[bh,tH,g8,d8];lia
   show#[_,rfl,.inl #[rfl,_,.inl (.inl gL)],_,rfl,L,b.1,_,[.int b.2.f,.int b.2.l,.int b.2.s],rfl,rfl,gL,.inl (.inl ht),?_,?_]
   ·have:=aQ (n:=903) tb_g%;rw[aC];show _+3<=_;lia
   show#[_,rfl,?_,fun b o e=>?_]
   ·rw[aj,mL,hi'];unfold bx;rw[bG,Ax,<-qU,bG];rfl
   ·rw[ao (ak e hL)];exact sG b o e
  ·rintro σ G ⟨y,rfl,gL,sG⟩;rw[aC,nJ]at gL;show#[_,rfl,L,_,rfl,gL,hb,by rw[bh,tH,g8];lia,fun H' s'=>q _ (sG.trans s')]
open MK
def rN(f:Rs):List Int:=[f.tt,f.ov,f.un,f.tn]++(f.mi.toList++f.ma.toList)
def rW(ls:RG.Ls):List Str:=ls.flatMap fun l=>aD "/" :: l.map sI
def Km(f:Rs):Prop:=(f.tt=0/\f.mi=none/\f.ma=none)\/(f.tt≠0/\∃a b,f.mi=some a/\f.ma=some b)
theorem apw{ls:RG.Ls}{i:Nat}{l:List Int}(h:ls[i]? = some l):rW (ls.take (i+1))=rW (ls.take i)++(aD "/" :: l.map sI):=by
 unfold rW;rw[mL,h,Ax];simp
theorem share1{α:Type}(C:α->Prop){G:α->Prop}{R:Prop}(f:(∀x,C x->G x)->R)(k:∀x,C x->G x):R:=f k
theorem Ri:∀{ls:RG.Ls},(∀l∈ls,l.length<=64)->(rW ls).length<=65*ls.length
 |[],_=>aJ _
 |l::ls,h=>by
  have h1:=h l bV;have h2:=Ri fun k m=>h k (cB l m);have e:rW (l::ls)=(aD "/" :: l.map sI)++rW ls:=by unfold rW;rw[tO]
  rw[e,bB,bh,aC,bh];lia
theorem sI_20{n:Int}(h:n.natAbs<10 ^ 20):(sI n).length<=21:=by
 have cl:(Dec.dg n.natAbs).length<=20:=Dec.vL 20 tb_g% h;unfold sI;by_cases z:n<0
 ·rw[show n = -(n.natAbs:Int) by lia,Dec.DW tb_g%,Dec.vM];show(Dec.dg n.natAbs).length+1<=21;lia
 ·rw[show n=(n.natAbs:Int) by lia,Dec.jV,Dec.vM];lia
theorem abJ:∀{ns:List Int},(∀n∈ns,n.natAbs<10 ^ 20)->((ns.map sI).map (·.length)).sum<=21*ns.length
 |[],_=>aJ _
 |n::ns,h=>by
  have h1:=sI_20 (h n bV);have h2:=abJ fun k m=>h k (cB n m);rw[cP,cP,gG,bh];lia
theorem afl:∀{ls:RG.Ls},(∀l∈ls,l.length<=64)->(∀l∈ls,∀n∈l,n.natAbs<10 ^ 20)->((rW ls).map (·.length)).sum<=1400*ls.length
 |[],_,_=>aJ _
 |l::ls,h,g=>by
  have h1:=h l bV;have h2:=afl (fun k m=>h k (cB l m)) fun k m=>g k (cB l m);have h3:=abJ (g l bV);have h4:(aD "/").length=1:=by decide +kernel
  have e:rW (l::ls)=(aD "/" :: l.map sI)++rW ls:=by unfold rW;rw[tO]
  rw[e,bG,Mv,cP,gG,bh,h4];lia
theorem Zo{n:Nat}(h:n<=9000):n<sizeLine:=nZ h tb_g%
theorem yM(sep:Str):∀(ts:List Str),(bZ sep ts).length<=(ts.map (·.length)).sum+ts.length*sep.length:=by
 intro ts;show(Xe sep ts).length<=_;have key:∀(us:List Str)(acc:Array Nat),(us.foldl (fun acc p=>acc++sep.cps++p.cps) acc).size=acc.size+(us.map (·.length)).sum+us.length*sep.length:=by
  intro us
  induction us with
  |nil=>intro acc;simp
  |cons u us ih =>
   intro acc;rw[Mx,ih,adI,adI,cP,gG,bh,ada];show acc.size+sep.length+u.length+_+_=_;lia
 unfold Xe;show Array.size _<=_;rw[key];cases ts with
 |nil=>exact aJ _
 |cons t ts =>
  show t.length+_+_<=_;rw[cP,gG,bh,ada];show t.length+(ts.map (·.length)).sum+ts.length*sep.length<=_;lia
def atm(A:Ad):Sp:=fun vs H Q _=>Ex2 fun(p:Addr) (f:Rs)=>Ep (vs=[.ref p]) (RnX A H p f) (Km f) ((∀n∈rN f,n.natAbs<2 ^ 1000)) ((∀l∈f.ls,∀n∈l,n.natAbs<10 ^ 20)) (f.ls.length<=60) ((∀l∈f.ls,l.length<=64)) (∀H',Same H H'->Q (.str (bZ (aD " ") (bZ (aD " ") ((rN f).map sI)::rW f.ls))) H')
theorem Rj(T:Tx K mg A):FnK P w base T.sY CX0 3 (atm A):=by
 k_dat (T.sY,T.sY.ok,zj) "f"
 ·obtain⟨p,f,rfl,hR,km,hb,hl,h60,h64,q⟩:=h;show#[_,by k_dat ([fM],[zj.nd,mR N8 adD adE Uk ?_ ?_,aB (Zn T) ?_,mR wD Jl Hf DX ?_ ?_],[ug [] Q10 [] ?_ (fun _ _ _ _=>jU) (fun _ _ _ _=>(aB (Rg T) (aM (pv 0) cR)))]) "p",?_]
  k_dat lq "c"
  show#[_,rfl,rdG hR.o (gh T) #[_,rfl,rdG hR.o (Mh T) #[_,rfl,rdG hR.o (Er T) #[_,rfl,rdG hR.o (qg T) #[tb_g%,fun L hL=>?_]]]]]
  k_dat (nwA hL,H1,s1,f1) "n"
  k_dat lqg "c"
  have R1:=hR.same s1;show#[_,rfl,rdG R1.o (gh T) #[rfl,_,rfl,?_]];apply share1 (fun G:Hp=>G L=some (.lst ((rN f).map V.int))/\Same H G)
  ·intro key;rcases km with⟨k0,k1,k2⟩|⟨k0,a,b,k1,k2⟩
   ·refine aaB (by rw[k0]) ?_;exact key H1 #[by rw[f1];unfold rN;rw[k1,k2];rfl,s1]
   ·rw[decide_eq_false (fun y=>k0 (V.int.inj y))];refine JL #[_,rfl,.inl #[rfl,_,.inl (.inl f1)],_,rfl,rdG R1.o (zp T) #[_,rfl,rdG R1.o (zU T) #[tb_g%,fun M hM=>?_]]];have sM:=Same.new (o:=.lst [oV f.mi,oV f.ma]) hM;show#[L,M,_,_,rfl,rfl,sM _ _ f1,aj,by show 4+2<=sizeLine;decide,?_];have g2:(upd (upd H1 M (.lst [oV f.mi,oV f.ma])) L (.lst ([.int f.tt,.int f.ov,.int f.un,.int f.tn]++[oV f.mi,oV f.ma]))) L=some (.lst ((rN f).map V.int)):=by rw[aj];unfold rN;rw[k1,k2];rfl
    have s2:Same H (upd (upd H1 M (.lst [oV f.mi,oV f.ma])) L (.lst ([.int f.tt,.int f.ov,.int f.un,.int f.tn]++[oV f.mi,oV f.ma]))):=fun b o e=>by rw[ao (ak e hL)];exact(s1.trans sM) b o e
    generalize upd (upd H1 M (.lst [oV f.mi,oV f.ma])) L (.lst ([.int f.tt,.int f.ov,.int f.un,.int f.tn]++[oV f.mi,oV f.ma]))=G2 at g2 s2 ⊢
    k_dat lqn "c"
    exact key G2 #[g2,s2]
  intro G ⟨gL,sG⟩;have n6:(rN f).length<=6:=by
   unfold rN;cases f.mi <;> cases f.ma <;> simp
  show#[_,rfl,L,rN f,rfl,gL,hb,by lia,fun G1 t1=>#[tb_g%,fun W hW=>?_]]
  k_dat lqg "c"
  have e0:(bZ (aD " ") ((rN f).map sI)).length<=3000:=by
   have h1:=yM (aD " ") ((rN f).map sI);have h2:=Rh hb;have h3:(aD " ").length=1:=by decide +kernel
   rw[aC,h3]at h1;lia
  generalize bZ (aD " ") ((rN f).map sI)=t0 at q e0 ⊢
  k_dat (nwA hW,G2,zG2,f2) "n"
  have s2:=(sG.trans t1).trans zG2;have f2:G2 W=some (.lst ((t0::rW (f.ls.take 0)).map V.str)):=f2;have vW:H W=none:=(sG.trans t1).free hW;have R2:=hR.same s2;show#[_,rfl,rdG R2.o (kW T) #[f.a,rfl,#[_,.inl (.inl R2.l.o)],o9 (K:=K) (a:=f.a) (xs:=f.bs.map V.ref) (fun i σ G=>∃(y:Option V),tD (σ=[some (.ref p),some (.ref L),some (.ref W),y]) (G W=some (.lst ((t0::rW (f.ls.take i)).map V.str))) (Same H G)) #[none,rfl,f2,s2] (fun i σ G _ ⟨_,_,_,s⟩=>.inl (.inl (s _ _ hR.l.o))) ?_ ?_]]
  ·rintro i v σ G hi ⟨y,rfl,gW,sG⟩;rw[dF]at hi;cases eb:f.bs[i]? with
   |none=>rw[eb]at hi;cases hi
   |some b =>
    rw[eb]at hi;obtain rfl:=bN hi;have li:i<f.ls.length:=by rw[<-hR.l.n];exact(fu.mp eb).1
    have el:=eU li;have hb':=hR.l.e i b _ eb el;have ml:=acp li;generalize f.ls[i]=l at el hb' ml;have tl:=Ri (ls:=f.ls.take i) fun k m=>h64 k (tM m);rw[d8]at tl;have l64:=h64 l ml;show#[_,rfl,.inl #[rfl,_,.inl (.inl gW)],W,_,_,rfl,rfl,gW,Zo (by rw[aC,bh];lia),?_]
    k_dat (nsA sG vW,G3,s3,fG3) "n"
    have g3:G3 W=some (.lst ((t0::rW (f.ls.take i)++[aD "/"]).map V.str)):=by rw[fG3,bG];rfl
    show#[_,rfl,.inl #[rfl,_,.inl (.inl g3)],_,rfl,b,rfl,#[_,.inl (.inl (s3 _ _ hb'))],fun D hD=>?_];refine iK (K:=K) (a:=b) (xs:=l.map V.int) (fun j ys J=>ys=(l.take j).map (fun n=>V.str (sI n))/\J D=some (.lst ys)/\Same G3 J) #[rfl,aj,Same.new hD] ?_ ?_ ?_ ?_
    ·rintro j ys J hj ⟨rfl,gD,sJ⟩;show#[.inl (.inl (sJ _ _ (s3 _ _ hb'))),gD,aQ ?_];rw[aC,d8];lia
    ·rintro j ys J x hx ⟨rfl,gD,sJ⟩
     k_dat (n,hj,int_at,hx) "G"
     show#[_,rfl,n,rfl,oA (hl l ml n (xj hj)) tb_g%,fun J1 t1=>?_];show#[t1 _ _ gD,?_,aj,fun b o e=>?_]
     ·rw[mL,hj,bG];rfl
     ·rw[ao (ak e hD)];exact t1 _ _ (sJ b o e)
    ·rintro ys J ⟨rfl,gD,sJ⟩;rw[aC,nJ]at gD;show#[W,D,_,_,rfl,rfl,sJ _ _ g3,gD,iV (Zo (by rw[aC,bB,bh,aC];show(rW (f.ls.take i)).length+1+1+l.length<=9000;lia)),?_];show#[_,rfl,?_,fun b o e=>?_]
     ·rw[aj,apw el];simp only[bG,cP,fj,qU,dO,Ga,nM];rfl
     ·rw[ao (ak e vW)];exact sJ _ _ (s3 b o e)
    ·rintro σ H R R' hr ⟨v,e,n,en,hn,q⟩;show#[v,e,n,en,hn,fun H1 s1=>hr _ _ (q H1 s1)]
  ·rintro σ G ⟨y,rfl,gW,sG⟩;rw[aC,hR.l.n,nJ]at gW;have h1:=afl h64 hl;have h2:=Ri h64;show#[rfl,_,rfl,aD " ",W,t0::rW f.ls,rfl,rfl,.inl (.inl gW),by decide +kernel,?_,q _ sG];rw[cP,gG,bh];lia
open MK
def gF(c:Tab):Tab:=c.mergeSort fun a b=>decide (a.1<=b.1)
theorem bW(c:Tab):(gF c).Perm c:=Vv _ _
theorem Ml(c:Tab):(gF c).Pairwise fun a b:Int × Int=>a.1<=b.1:=by
 have:=acd (le:=fun a b:Int × Int=>decide (a.1<=b.1)) (fun a b c h1 h2=>by simp only[decide_eq_true_eq]at *; lia) (fun a b=>by simp only[ade,decide_eq_true_eq];lia) c;exact this.imp fun h=>of_decide_eq_true h
def pN(c:Tab):List Int:=c.flatMap fun p=>[p.1,p.2]
theorem jO:∀c:Tab,(pN c).length=2*c.length
 |[]=>rfl
 |p::c=>by
  have e:pN (p::c)=[p.1,p.2]++pN c:=by unfold pN;rw[tO]
  rw[e,bB,jO c,bh (a:=p)];show 2+2*c.length=2*(c.length+1);lia
theorem apx{c:Tab}{i:Nat}{p:Int × Int}(h:c[i]? = some p):pN (c.take (i+1))=pN (c.take i)++[p.1,p.2]:=by
 unfold pN;rw[mL,h,Ax];simp
def fN(f:Fq):List Int:=[f.t,f.l]++pN (gF f.c)
def atn(A:Ad):Sp:=fun vs H Q _=>Ex2 fun(f:Fq) (room:Nat)=>KQ (vs=[.ref f.p]) (tG A H room f) ((keys f.c).Nodup) (f.c.length<=63) ((∀n∈fN f,n.natAbs<2 ^ 1000)) (∀H',Same H H'->Q (.str (bZ (aD " ") ((fN f).map sI))) H')
theorem Fj(T:Tx K mg A):FnK P w base T.jJ CX0 3 (atn A):=by
 k_dat (T.jJ,T.jJ.ok,qP) "f"
 ·obtain⟨f,room,rfl,hF,nd,ln,hb,q⟩:=h;show#[_,by k_dat ([fM],[qP.nd,cV (jg rfl) (by rfl) T.uq N5 ?_,mR N8 adD adE Uk ?_ ?_,aB (Zn T) ?_],[]) "p",?_]
  k_dat lq "c"
  show#[_,rfl,rdG hF.o (Ra T) #[_,rfl,rdG hF.o (Zf T) #[tb_g%,fun L hL=>?_]]]
  k_dat (nwA hL,H1,s1,f1) "n"
  have f1:H1 L=some (.lst (([f.t,f.l]++pN ((gF f.c).take 0)).map V.int)):=f1;have F1:=hF.same s1;have kl:(keys f.c).length=f.c.length:=aC _;show#[_,rfl,rdG F1.o (zW T) (.inl #[f.d,_,keys f.c,rfl,.inl F1.d,al1 _,by lia,fun l ns' hl pm so=>?_])];obtain rfl:ns'=keys (gF f.c):=iM (pm.trans ((bW f.c).map _).symm) so (ais.mpr (Ml f.c))
  k_dat (nwA hl,H2,zH2,k2) "n"
  have s2:=s1.trans zH2;have g2:=zH2 _ _ f1;have nl:l≠L:=aL (ak f1 hl);have pl:=(bW f.c).length_eq;show#[l,rfl,#[_,.inl (.inl k2)],o9 (K:=K) (a:=l) (xs:=(keys (gF f.c)).map V.int) (fun i σ G=>∃(y:Option V),z7 (σ=[some (.ref f.p),some (.ref L),y]) (G L=some (.lst (([f.t,f.l]++pN ((gF f.c).take i)).map V.int))) (Same H G) (G l=some (.lst ((keys (gF f.c)).map V.int)))) #[none,rfl,g2,s2,k2] (fun i σ G _ ⟨_,_,_,_,k⟩=>.inl (.inl k)) ?_ ?_]
  ·rintro i v σ G hi ⟨y,rfl,gL,sG,kG⟩
   k_dat (k,hk,int_at,hi) "G"
   obtain⟨z,hz,rfl⟩:∃z,(gF f.c)[i]? = some z/\z.1=k:=by
    unfold keys at hk;rw[dF]at hk;cases e:(gF f.c)[i]? with
    |none=>rw[e]at hk;cases hk
    |some z=>rw[e]at hk;show#[z,rfl,bN hk]
   have mz:z∈f.c:=(bW f.c).mem_iff.mp (xj hz);have FG:=hF.same sG;have li:i<(gF f.c).length:=(fu.mp hz).1;show#[_,rfl,.inl #[rfl,_,.inl (.inl gL)],_,rfl,_,rfl,rdG FG.o (zW T) #[_,rfl,apY (.inl FG.d) (al2 (Jq nd mz)) #[tb_g%,fun M hM=>?_]]];have sM:=Same.new (o:=.lst [.int z.1,.int z.2]) hM;show#[L,M,_,_,rfl,rfl,sM _ _ gL,aj,iV (aQ (by rw[aC,bB,jO,d8];show 2+_+2<=1000;lia)),?_];show#[_,rfl,?_,fun b o e=>?_,?_]
   ·rw[aj,apx hz,<-dO,bG (l₂:=[z.1,z.2])];rfl
   ·rw[ao (ak e hL)];exact sM _ _ (sG b o e)
   ·rw[ao nl];exact sM _ _ kG
  ·rintro σ G ⟨y,rfl,gL,sG,_⟩;rw[aC,show(keys (gF f.c)).length=(gF f.c).length from aC _,nJ]at gL;show#[_,rfl,L,fN f,rfl,gL,hb,by unfold fN;rw[bB,jO];show 2+_<=900;lia,fun H' s'=>q _ (sG.trans s')]
open MK
def cL(s:Str):List Nat:=s.cps.toList
abbrev sp1:Str:=aD " "
theorem Zq{a b:Str}(h:cL a=cL b):a=b:=by
 cases a;cases b;exact congrArg Str.mk (Hi.mp h)
theorem afm(a b:Str):cL (a++b)=cL a++cL b:=Hh
abbrev fm(ts:List Str):List Nat:=ts.flatMap fun u=>cL sp1++cL u
theorem jW(t:Str)(ts:List Str):cL (bZ sp1 (t::ts))=cL t++fm ts:=by
 have key:∀(us:List Str)(acc:Array Nat),(us.foldl (fun acc p=>acc++sp1.cps++p.cps) acc).toList=acc.toList++fm us:=by
  intro us
  induction us with
  |nil=>intro acc;simp
  |cons u us ih =>
   intro acc;rw[Mx,ih,Hh,Hh,dO,dO];show _=_++((u::us).flatMap _);rw[tO,dO];rfl
 exact key ts t.cps
def ln(h:Str)(ts:List Str):Str:=bZ sp1 (h::ts)
theorem qT{a b:Str}(e:cL a=cL b++cL sp1){ts:List Str}(n:ts≠[]):a++bZ sp1 ts=ln b ts:=by
 k_dat (t,us,Vn,n) "G"
 apply Zq;unfold ln;rw[afm,jW,jW,e,fm,fm,tO];simp only[dO]
theorem anL{ts:List Str}(n:ts≠[])(us:List Str):bZ sp1 (bZ sp1 ts::us)=bZ sp1 (ts++us):=by
 k_dat (t,vs,Vn,n) "G"
 apply Zq;rw[jW,jW,qU,jW,fm,fm,fm,Ax,dO]
theorem agz:sp1.length=1:=by decide +kernel
theorem mK{h:Str}{ts:List Str}{k:Nat}(hh:h.length<=16)(hs:(ts.map (·.length)).sum+ts.length<=k):(ln h ts).length<=17+k:=by
 have h1:=yM sp1 (h::ts);rw[agz,cP,gG,bh]at h1;unfold ln;lia
def rT(f:Rs):List Str:=(rN f).map sI++rW f.ls
noncomputable def gb (x:KS):List Str:=[ln (aD "keep") (([x.room,x.reach,x.span]:List Int).map sI),ln (aD "came") ((fN x.cm).map sI),ln (aD "went") ((fN x.wn).map sI),ln (aD "up") (rT x.up.x),ln (aD "down") (rT x.dn.x),
 ln (aD "window") ((x.wi.c::(bx x.wi.ps).flatMap bI).map sI),ln (aD "seen") (([x.di.n,x.di.v]++srt (My.up x.di.v x.di.C)).map sI),ln (aD "sums") ((L4 x.ba.q).map sI)]
open MK
abbrev Th(z:Int):Prop:=0<=z/\z<1152921504606846976
theorem Th.big{z:Int}(h:Th z):z.natAbs<2 ^ 1000:=oA (show z.natAbs<1152921504606846976 by have:=h.1;have:=h.2;lia) tb_g%
theorem Th.mid{z:Int}(h:Th z):z.natAbs<10 ^ 20:=oA (show z.natAbs<1152921504606846976 by have:=h.1;have:=h.2;lia) tb_g%
structure Gu(f:Rs)(n:Nat):Prop where
 km:Km f
 mi:∀z,f.mi=some z->Th z
 ma:∀z,f.ma=some z->Th z
 ls:∀l∈f.ls,∀z∈l,Th z
 t0:0<=f.tn
 tn:f.tn<=60*n
structure Wb(c:Int)(n:Nat)(bs:List WN.Box):Prop where
 b:∀b∈bs,0<=b.f/\b.f<=c/\0<=b.l/\b.l<=c/\0<=b.s
 s:WN.sum bs<=1000000000000*n
structure Nb(x:KS)(n:Nat):Prop where
 rc:Th x.reach
 sn:Th x.span/\x.span<=1000000000
 cm:∀k∈keys x.cm.c,Th k
 wn:∀k∈keys x.wn.c,Th k
 up:Gu x.up.x n
 dn:Gu x.dn.x n
 c0:0<=x.wi.c
 c1:x.wi.c<=1000000000000*n
 wi:Wb x.wi.c n (bx x.wi.ps)
 dn0:0<=x.di.n
 dn1:x.di.n<=n
 dv:x.di.v<=61
 dc:∀z∈x.di.C,Th z
 ba:∀z∈L4 x.ba.q,z.natAbs<=n*10 ^ 40
theorem IW{c room:Int}:∀(os:List WN.Box)(S:Int)(b:WN.Box),(∀o∈b::os,0<=o.f/\o.f<=c/\0<=o.l/\o.l<=c/\0<=o.s)->∀o∈WN.settle room S b os,0<=o.f/\o.f<=c/\0<=o.l/\o.l<=c/\0<=o.s
 |[],S,b,h=>h
 |o::os,S,b,h=>by
  rw[WN.fX];have h1:=h b bV;have h2:=h o (cB _ bV);split
  ·refine IW os _ _ fun p m=>?_
   walk_at "q"
   ·show#[h2.1,h2.2.1,h1.2.2.1,h1.2.2.2.1,by show 0<=b.s+o.s;lia]
   ·exact h p (cB _ (cB _ m))
  ·intro p m
   walk_at "q"
   ·exact h1
   ·exact IW os _ _ (fun q m=>h q (cB _ m)) p m
theorem sum_filter{p:WN.Box->Bool}:∀{bs:List WN.Box},(∀b∈bs,0<=b.s)->WN.sum (bs.filter p)<=WN.sum bs
 |[],_=>cQ _
 |b::bs,h=>by
  have h1:=h b bV;have h2:=sum_filter (p:=p) fun o m=>h o (cB b m);rw[qW];split
  ·rw[WN.sum_cons,WN.sum_cons];lia
  ·rw[WN.sum_cons];lia
theorem agA(bs:List WN.Box):WN.sum bs.reverse=WN.sum bs:=by
 unfold WN.sum;rw[xG];exact List.sum_reverse_int _
theorem Wb.settled{c:Int}{n:Nat}{bs:List WN.Box}(h:Wb c n bs)(room e:Int):Wb c n (gP room e bs):=by
 have hf:∀b∈(bs.filter fun b=>decide (e<b.l)).reverse,0<=b.f/\b.f<=c/\0<=b.l/\b.l<=c/\0<=b.s:=fun b m=>h.b b ((nO.mp (qX.mp m)).1);have s1:=sum_filter (p:=fun b=>decide (e<b.l)) (bs:=bs) fun b m=>(h.b b m).2.2.2.2;have s2:=h.s;unfold gP;rw[<-agA]at s1;generalize (bs.filter fun b=>decide (e<b.l)).reverse=os at hf s1;show#[fun b m=>?_,by rw[agA,WN.aaN];lia];rw[qX]at m;cases os with
 |nil=>exact nomatch m
 |cons o os=>exact IW os _ _ hf b m
theorem Wb.mono{c d:Int}{n:Nat}{bs:List WN.Box}(h:Wb c n bs)(e:c<=d):Wb d (n+1) bs:=#[fun b m=>by have:=h.b b m;lia,by have:=h.s;lia]
theorem ato{room:Int}{h:Nat}{tn ov un:Int}{ls out:RG.Ls}{tn' ov' un':Int}(a:RG.Stl room h tn ov un ls out tn' ov' un'):tn'<=tn+out.length:=by
 induction a with
 |nil=>exact Int.le_add_of_nonneg_right tb_g%
 |keep _ _ ih=>rw[bh];lia
 |turn _ _ ih=>rw[bh];lia
theorem lo_th{a:Option Int}{t z:Int}(h:∀z,a=some z->Th z)(ht:Th t)(e:lo2 a (some t)=some z):Th z:=by
 cases a with
 |none=>cases e;exact ht
 |some y =>
  have:=h y rfl;obtain rfl:=bN e;constructor <;> lia
theorem hi_th{a:Option Int}{t z:Int}(h:∀z,a=some z->Th z)(ht:Th t)(e:hi2 a (some t)=some z):Th z:=by
 cases a with
 |none=>cases e;exact ht
 |some y =>
  have:=h y rfl;obtain rfl:=bN e;constructor <;> lia
theorem Gu.add{room room':Nat}{f g:Rs}{n:Nat}{th w:Int}(h:Gu f n)(k:Gr room f n)(k':Gr room' g (n+1))(few:n+1<=63)(s:RS th w f g)(ht:Th th)(w1:1<=w):Gu g (n+1):=by
 have gl:=ql k'.g k'.t few;have v0:=k.g.vl;show#[.inr #[by rw[s.tt];lia,?_],fun z e=>lo_th h.mi ht (s.mi ▸ e),fun z e=>hi_th h.ma ht (s.ma ▸ e),s.st.mem (RG.HS th ht _ _ h.ls),by have:=s.st.mono.1;have:=h.t0;lia,by have:=ato s.st;have:=h.tn;have:=gl.1;lia];rw[s.mi,s.ma];cases f.mi <;> cases f.ma <;> show#[_,_,rfl,rfl]
theorem Gu.next{f:Rs}{n:Nat}(h:Gu f n):Gu f (n+1):=#[h.km,h.mi,h.ma,h.ls,h.t0,by have:=h.tn;lia]
theorem aqd{room:Nat}{th w:Int}{f g:Fq}(s:FS room th w f g)(h:∀k∈keys f.c,Th k)(ht:Th th):∀k∈keys g.c,Th k:=by
 obtain⟨cut,a,_⟩:=s;intro k m;have m2:k∈keys (put f.c th (low f.c th+w)):=by
  unfold jG at a;split at a
  ·rwa[a.2]at m
  ·rw[a.2]at m;exact DG m
 rcases(XF ..).mp m2 with rfl|m3
 ·exact ht
 ·exact h k m3
theorem pw_bd{th w:Int}(ht:0<=th/\th<1000000000)(w2:w.natAbs<=1000000000000):∀z∈L4 (pwQ th w),z.natAbs<=10 ^ 40:=by
 have t1:th.natAbs<=1000000000:=by lia
 have key:∀{a b c d:Nat},a<=c->b<=d->a*b<=c*d:=fun h1 h2=>ac8 h1 h2;intro z m;have m:z=w\/z=w*th\/z=w*th*th\/z=w*th*th*th:=by
  have:z∈[w,w*th,w*th*th,w*th*th*th]:=m;simpa using this
 have a1:=key w2 t1;have a2:=key a1 t1;have a3:=key a2 t1;rcases m with rfl|rfl|rfl|rfl
 ·exact bQ w2 tb_g%
 ·rw[GR];exact bQ a1 tb_g%
 ·rw[GR,GR];exact bQ a2 tb_g%
 ·rw[GR,GR,GR];exact bQ a3 tb_g%
theorem aqe{q p:Q4}{n:Nat}(h:∀z∈L4 q,z.natAbs<=n*10 ^ 40)(g:∀z∈L4 p,z.natAbs<=10 ^ 40):∀z∈L4 (addQ q p),z.natAbs<=(n+1)*10 ^ 40:=by
 intro z m;have m:z=q.a+p.a\/z=q.b+p.b\/z=q.c+p.c\/z=q.d+p.d:=by
  have:z∈[q.a+p.a,q.b+p.b,q.c+p.c,q.d+p.d]:=m;simpa using this
 have e:∀{a b:Int},a∈L4 q->b∈L4 p->(a+b).natAbs<=(n+1)*10 ^ 40:=fun {a b} m1 m2=>by
  have h1:=h a m1;have h2:=g b m2;rw[ada];generalize 10 ^ 40=B at h1 h2 ⊢;generalize n*B=C at h1 ⊢;lia
 rcases m with rfl|rfl|rfl|rfl <;> exact e (by simp[L4]) (by simp[L4])
theorem anM{q:Q4}{n:Nat}(h:∀z∈L4 q,z.natAbs<=n*10 ^ 40):∀z∈L4 q,z.natAbs<=(n+1)*10 ^ 40:=fun z m=>bQ (h z m) (Dj _ (rB n))
theorem Nb.row{r:R3}{x x':KS}{n:Nat}(h:Nb x n)(k:Kh x n)(k':Kh x' (n+1))(ok:r.ok)(s:SR r x x'):Nb x' (n+1):=by
 have ht:Th r.th:=#[ok.t0,ok.t1];have w1:=ok.w1;have w2:=ok.w2;have sb:=s.sb;have c0:=h.c0;have c1:=h.c1;have d0:=h.dn0;have d1:=h.dn1;have rc:Th x'.reach:=by rw[sb.reach];exact h.rc
 have sn:Th x'.span/\x'.span<=1000000000:=by rw[sb.span];exact h.sn
 unfold SR at s;split at s
 ·have wb:Wb x'.wi.c (n+1) (bx x'.wi.ps):=by
   rw[s.wi.2,s.wi.1];refine Wb.settled #[fun b m=>?_,?_] _ _
   ·walk_at "v"
    ·have:=h.wi.b b m;lia
    ·rw[cI.mp m];show#[by show 0<=x.wi.c+1;lia,cQ _,by show 0<=x.wi.c+1;lia,cQ _,by show 0<=r.w;lia]
   ·have:=h.wi.s;rw[WN.sum_append,WN.sum_cons,WN.sum_nil];show _+(r.w+0)<=_;lia
  show#[rc,sn,aqd s.cm h.cm ht,by rw[s.wn];exact h.wn,h.up.add k.up k'.up k'.few s.up ht w1,by rw[s.dn];exact h.dn.next,by rw[s.wi.1];lia,by rw[s.wi.1];lia,wb,by rw[s.di.1];lia,by rw[s.di.1];lia,s.di.2.2.le (by have:=k.r2;lia) h.dv,fun z m=>?_,?_]
  ·rw[s.di.2.1]at m;unfold came at m;split at m
   ·exact h.dc z m
   ·walk_at "v"
    ·exact h.dc z m
    ·rwa[cI.mp m]
  ·rw[s.ba];split
   ·exact aqe h.ba (pw_bd #[ht.1,by rename_i z;have:=h.sn.2;lia] tb_g%)
   ·exact anM h.ba
 split at s
 ·have wb:Wb x'.wi.c (n+1) (bx x'.wi.ps):=by
   rw[s.wi.2,s.wi.1];exact(h.wi.mono tb_g%).settled _ _
  show#[rc,sn,by rw[s.cm];exact h.cm,aqd s.wn h.wn ht,by rw[s.up];exact h.up.next,h.dn.add k.dn k'.dn k'.few s.dn ht w1,by rw[s.wi.1];lia,by rw[s.wi.1];lia,wb,by rw[s.di];lia,by rw[s.di];lia,by rw[s.di];exact h.dv,by rw[s.di];exact h.dc,?_];rw[s.ba];split
  ·exact aqe h.ba (pw_bd #[ht.1,by rename_i z;have:=h.sn.2;lia] tb_g%)
  ·exact anM h.ba
 ·have wb:Wb x'.wi.c (n+1) (bx x'.wi.ps):=by
   rw[s.wi.2,s.wi.1];exact(h.wi.mono tb_g%).settled _ _
  show#[rc,sn,by rw[s.cm];exact h.cm,by rw[s.wn];exact h.wn,by rw[s.up];exact h.up.next,by rw[s.dn];exact h.dn.next,by rw[s.wi.1];lia,by rw[s.wi.1];lia,wb,by rw[s.di];lia,by rw[s.di];lia,by rw[s.di];exact h.dv,by rw[s.di];exact h.dc,by rw[s.ba];exact anM h.ba]
theorem nb0{room:Nat}{reach span:Int}(h1:Th reach)(h2:Th span/\span<=1000000000):Nb (K0 room reach span) 0:=by
 have g0:Gu (R0 room) 0:=⟨.inl ⟨rfl,rfl,rfl⟩,fun z e=>(nomatch e),fun z e=>(nomatch e),fun _ m=>(nomatch m),cQ _,cQ _⟩;exact ⟨h1,h2,fun _ m=>(nomatch m),fun _ m=>(nomatch m),g0,g0,cQ _,cQ _,⟨fun _ m=>(nomatch m),cQ _⟩,cQ _,cQ _,(by decide:(0:Int)<=61),fun _ m=>(nomatch m),fun z m=>by
  have:z∈[(0:Int),0,0,0]:=m;simp at this;subst this;exact cJ _⟩
theorem afn:∀{l:List Int},(∀v∈l,0<=v)->∀v∈l,v<=l.sum
 |a::l,h,v,m=>by
  have h1:=h a bV;have h2:=vC fun y m=>h y (cB a m);rw[gG]
  walk_at "q"
  ·lia
  ·have:=afn (fun y m=>h y (cB a m)) v m;lia
theorem Gf.nums{room:Nat}{f:Fq}{n:Nat}(g:Gf room f n)(few:n<=63)(h:∀k∈keys f.c,Th k):∀z∈fN f,Th z:=by
 obtain⟨W,ok⟩:=g.ok;have t:=g.t;have l0:=ok.l0;have v0:∀v∈vals f.c,0<=v:=fun v m=>by
  obtain⟨p,hp,e⟩:=cX.mp m;have:=ok.pos p hp;lia
 have s0:=vC v0;have sm:=ok.sum;have l1:f.l<=((room:Int)+1)*f.l:=by
  rw[WX,adn];have:=ajV (show(0:Int)<=room by lia) l0;lia
 intro z m;unfold fN at m
 walk_at "v"
 ·have m:z=f.t\/z=f.l:=by simpa using m
  rcases m with rfl|rfl <;> show#[by lia,by lia]
 ·unfold pN at m;obtain⟨p,mp,mz⟩:=VB.mp m;have mc:=(bW f.c).mem_iff.mp mp;have mz:z=p.1\/z=p.2:=by simpa using mz
  rcases mz with rfl|rfl
  ·exact h _ (FQ mc)
  ·have:=ok.pos p mc;have:=afn v0 p.2 (FQ mc);show#[by lia,by lia]
theorem Gu.nums{room:Nat}{f:Rs}{n m:Nat}(u:Gu f m)(fm:m<=1000)(g:Gr room f n)(few:n<=63):∀z∈rN f,Th z:=by
 have t:=g.t;have vl:=g.g.vl;have gl:=ql g.g g.t few;have o0:=g.g.ov0;have u0:=g.g.un0;have r2:=g.g.r2;have tn:=u.tn;have t0:=u.t0;have bd:f.ov+f.un<1152921504606846976:=by
  by_cases e:f.ls=[]
  ·have:=g.g.pt;rw[e]at this;have h2:(f.ov+f.un)*f.r<=0:=this;have h3:(f.ov+f.un)*2<=(f.ov+f.un)*f.r:=NQ r2 tb_g%;lia
  ·have h1:=g.g.near e;have h3:(f.ov+f.un)*2<=(f.ov+f.un)*f.r:=NQ r2 tb_g%;have h4:f.tt*((f.ls.length:Int)-1)<=f.tt*60:=NQ (by have:=gl.1;lia) tb_g%;lia
 intro z m;unfold rN at m
 walk_at "v"
 ·have m:z=f.tt\/z=f.ov\/z=f.un\/z=f.tn:=by simpa using m
  rcases m with rfl|rfl|rfl|rfl <;> show#[by lia,by lia]
 ·walk_at "v"
  ·exact u.mi z (aj4.mp m)
  ·exact u.ma z (aj4.mp m)
theorem Nb.wins{x:KS}{n:Nat}(h:Nb x n)(few:n<=1000):∀z∈x.wi.c::(bx x.wi.ps).flatMap bI,Th z:=by
 have c0:=h.c0;have c1:=h.c1;have sm:=h.wi.s;intro z m
 walk_at "q"
 ·show#[by lia,by lia]
 ·obtain ⟨b,mb,mz⟩:=VB.mp m;have q:=h.wi.b b mb;have:=afn (l:=(bx x.wi.ps).map (·.s)) (fun v m=>by
   k_dat (o,mo,cX.mp,m) "G"
   exact (h.wi.b o mo).2.2.2.2) b.s (FQ mb)
  have sm:((bx x.wi.ps).map (·.s)).sum<=1000000000000*n:=sm;have mz:z=b.f\/z=b.l\/z=b.s:=by simpa[bI]using mz
  rcases mz with rfl|rfl|rfl <;> show#[by lia,by lia]
theorem Nb.seen{x:KS}{n m:Nat}(h:Nb x m)(fm:m<=1000)(k:Kh x n):∀z∈[x.di.n,x.di.v]++srt (My.up x.di.v x.di.C),Th z:=by
 have d0:=h.dn0;have d1:=h.dn1;have few:=k.few;have v0:=k.dl.1;have v1:=h.dv;intro z m
 walk_at "v"
 ·have m:z=x.di.n\/z=x.di.v:=by simpa using m
  rcases m with rfl|rfl <;> show#[by lia,by lia]
 ·exact h.dc z (nO.mp ((Vv _ _).mem_iff.mp m)).1
theorem Nb.sums{x:KS}{n:Nat}(h:Nb x n)(few:n<=1000):∀z∈L4 x.ba.q,z.natAbs<2 ^ 1000:=fun z m=>nZ (bQ (h.ba z m) (Dj _ few)) tb_g%
open MK
theorem JC{a b:Str}(h1:a.length<=16)(h2:b.length<=200000):a.length+b.length<=sizeLine:=bQ (show _<=200016 by lia) tb_g%
theorem Ja{f:Rs}(hb:∀n∈rN f,n.natAbs<2 ^ 1000)(hl:∀l∈f.ls,∀n∈l,n.natAbs<10 ^ 20)(h60:f.ls.length<=60)(h64:∀l∈f.ls,l.length<=64):((rT f).map (·.length)).sum+(rT f).length<=95000:=by
 have n6:(rN f).length<=6:=by
  unfold rN;cases f.mi <;> cases f.ma <;> simp
 have h1:=Rh hb;have h2:=afl h64 hl;have h3:=Ri h64;unfold rT;rw[bG,Mv,bB,aC];lia
theorem aqf(f:Rs):rT f≠[]:=by unfold rT rN;exact eZ _ _
theorem aqg(f:Rs):bZ sp1 (bZ sp1 ((rN f).map sI)::rW f.ls)=bZ sp1 (rT f):=anL (by unfold rN;exact eZ _ _) _
theorem gA{ns:List Int}(hb:∀n∈ns,n.natAbs<2 ^ 1000)(h:ns.length<=200):((ns.map sI).map (·.length)).sum+(ns.map sI).length<=95000:=by
 have:=Rh hb;rw[aC];lia
theorem JD{ts:List Str}(h:(ts.map (·.length)).sum+ts.length<=95000):(bZ sp1 ts).length<=200000:=by
 have:=yM sp1 ts;rw[agz]at this;lia
structure Kx(x:KS):Prop where
 k:∀z∈([x.room,x.reach,x.span]:List Int),z.natAbs<2 ^ 1000
 cm:(keys x.cm.c).Nodup
 cl:x.cm.c.length<=63
 cn:∀z∈fN x.cm,z.natAbs<2 ^ 1000
 wn:(keys x.wn.c).Nodup
 wl:x.wn.c.length<=63
 ws:∀z∈fN x.wn,z.natAbs<2 ^ 1000
 u1:Km x.up.x
 u2:∀z∈rN x.up.x,z.natAbs<2 ^ 1000
 u3:∀l∈x.up.x.ls,∀z∈l,z.natAbs<10 ^ 20
 u4:x.up.x.ls.length<=60
 u5:∀l∈x.up.x.ls,l.length<=64
 d1:Km x.dn.x
 d2:∀z∈rN x.dn.x,z.natAbs<2 ^ 1000
 d3:∀l∈x.dn.x.ls,∀z∈l,z.natAbs<10 ^ 20
 d4:x.dn.x.ls.length<=60
 d5:∀l∈x.dn.x.ls,l.length<=64
 i1:∀z∈x.wi.c::(bx x.wi.ps).flatMap bI,z.natAbs<2 ^ 1000
 i2:x.wi.ps.length<=63
 s1:∀z∈[x.di.n,x.di.v]++srt (My.up x.di.v x.di.C),z.natAbs<2 ^ 1000
 s2:(srt (My.up x.di.v x.di.C)).length<=64
 b:∀z∈L4 x.ba.q,z.natAbs<2 ^ 1000
 tt:0<=x.up.x.tt/\0<=x.dn.x.tt
theorem Nb.kx{x:KS}{n m:Nat}(h:Nb x m)(fm:m<=1000)(k:Kh x n):Kx x:=by
 have few:=k.few;have r64:=k.r64;obtain⟨W1,o1⟩:=k.cm.ok;obtain⟨W2,o2⟩:=k.wn.ok;have lu:=ql k.up.g k.up.t few;have ld:=ql k.dn.g k.dn.t few;show#[fun z m=>Th.big ?_,o1.nd,by have:=k.cm.k;lia,fun z m=>(k.cm.nums few h.cm z m).big,o2.nd,by have:=k.wn.k;lia,fun z m=>(k.wn.nums few h.wn z m).big,h.up.km,fun z m=>(h.up.nums fm k.up few z m).big,fun l m z e=>(h.up.ls l m z e).mid,lu.1,k.up.g.small,h.dn.km,fun z m=>(h.dn.nums fm k.dn few z m).big,fun l m z e=>(h.dn.ls l m z e).mid,ld.1,k.dn.g.small,fun z m=>(h.wins fm z m).big,by have:=k.wl;lia,fun z m=>(h.seen fm k z m).big,?_,h.sums fm,by have:=k.up.g.vl;have:=k.dn.g.vl;lia]
 ·k_dat m "D"
  rcases m with rfl|rfl|rfl
  ·show#[by lia,by lia]
  ·exact h.rc
  ·exact h.sn.1
 ·rw[fZ];have:=k.dl.2.1;lia
theorem Kx.Zr{f:Fq}(h:f.c.length<=63):(fN f).length<=200:=by
 unfold fN;rw[bB,jO,(bW f.c).length_eq];show 2+_<=_;lia
theorem Kx.anN{x:KS}(h:Kx x):(x.wi.c::(bx x.wi.ps).flatMap bI).length<=200:=by
 have:=h.i2;rw[bh,tH,g8];lia
theorem Kx.afp{x:KS}(h:Kx x):([x.di.n,x.di.v]++srt (My.up x.di.v x.di.C)).length<=200:=by
 have:=h.s2;rw[bB];show 2+_<=_;lia
theorem Kx.sum{x:KS}(h:Kx x):((gb x).map (·.length)).sum+(gb x).length<=1048576:=by
 have a0:=mK (h:=aD "keep") tb_g% (gA h.k tb_g%);have a1:=mK (h:=aD "came") tb_g% (gA h.cn (Kx.Zr h.cl));have a2:=mK (h:=aD "went") tb_g% (gA h.ws (Kx.Zr h.wl));have a3:=mK (h:=aD "up") tb_g% (Ja h.u2 h.u3 h.u4 h.u5);have a4:=mK (h:=aD "down") tb_g% (Ja h.d2 h.d3 h.d4 h.d5);have a5:=mK (h:=aD "window") tb_g% (gA h.i1 h.anN);have a6:=mK (h:=aD "seen") tb_g% (gA h.s1 h.afp);have a7:=mK (h:=aD "sums") tb_g% (gA h.b tb_g%);unfold gb;simp only[cP,Ga,gG,aiB,bh,acq]at *;lia
def atp(A:Ad):Sp:=fun vs H Q _=>∃(x:KS),z7 (vs=[.ref x.k]) (Kp A H x) (Kx x) (∀H',Same H H'->Q (.str (bZ (aD "\n") (gb x))) H')
theorem afq(T:Tx K mg A):FnK P w base T.Il CX0 4 (atp A):=by
 k_dat (T.Il,T.Il.ok,Q0) "f"
 ·obtain⟨x,rfl,hK,hx,q⟩:=h;show#[_,by (k_dat ([hdA],[Q0.nd,aB (Zn T) ?_,aB (Fj T) ?_,aB (Rj T) ?_,aB (Lb T) ?_,mR wD Jl Hf DX ?_ ?_],[]) "p"; k_dat eX "h"; k_dat eX "h"; k_dat eX "h"; k_dat eX "h"; k_dat eX "h"; k_dat eX "h"; k_dat eX "h"; k_dat pq "h"; k_dat eX "h"),?_];show#[_,rfl,rdG hK.o (apm T) #[_,rfl,rdG hK.o (anD T) #[_,rfl,rdG hK.o (Zi T) #[tb_g%,fun l hl=>?_]]]];show#[l,[x.room,x.reach,x.span],rfl,aj,hx.k,tb_g%,fun H1 t1=>#[_,_,rfl,rfl,JC tb_g% (JD (gA hx.k tb_g%)),?_]];have s1:=(Same.new (o:=.lst [.int x.room,.int x.reach,.int x.span]) hl).trans t1;clear t1 hl;show#[_,rfl,rdG (s1 _ _ hK.o) (Zj T) #[x.cm,x.room,rfl,hK.cm.same s1,hx.cm,hx.cl,hx.cn,fun H2 t2=>#[_,_,rfl,rfl,JC tb_g% (JD (gA hx.cn (Kx.Zr hx.cl))),?_]]];have s2:=s1.trans t2;show#[_,rfl,rdG (s2 _ _ hK.o) (Zk T) #[x.wn,x.room,rfl,hK.wn.same s2,hx.wn,hx.wl,hx.ws,fun H3 t3=>#[_,_,rfl,rfl,JC tb_g% (JD (gA hx.ws (Kx.Zr hx.wl))),?_]]];have s3:=s2.trans t3;show#[_,rfl,rdG (s3 _ _ hK.o) (anE T) #[x.up.p,x.up.x,rfl,hK.up.same s3,hx.u1,hx.u2,hx.u3,hx.u4,hx.u5,fun H4 t4=>?_]];have s4:=s3.trans t4;rw[aqg];show#[_,_,rfl,rfl,JC tb_g% (JD (Ja hx.u2 hx.u3 hx.u4 hx.u5)),?_];show#[_,rfl,rdG (s4 _ _ hK.o) (Zm T) #[x.dn.p,x.dn.x,rfl,hK.dn.same s4,hx.d1,hx.d2,hx.d3,hx.d4,hx.d5,fun H5 t5=>?_]];have s5:=s4.trans t5;rw[aqg];show#[_,_,rfl,rfl,JC tb_g% (JD (Ja hx.d2 hx.d3 hx.d4 hx.d5)),?_];show#[_,rfl,rdG (s5 _ _ hK.o) (uF T) #[x.wi.p,x.wi.dx,x.wi.l,x.room,x.reach,x.wi.c,x.wi.ps,rfl,hK.wi.same s5,hx.i1,by have:=hx.i2;lia,fun H6 t6=>#[_,_,rfl,rfl,JC tb_g% (JD (gA hx.i1 hx.anN)),?_]]];have s6:=s5.trans t6;have D6:=hK.di.same s6;show#[_,rfl,rdG (s6 _ _ hK.o) (Fi T) (rdG D6.o (qR T) #[_,rfl,rdG (s6 _ _ hK.o) (Fi T) (rdG D6.o (jM T) #[tb_g%,fun m hm=>?_])])]
  k_dat (nwA hm,H7,t7,f7) "n"
  have s7:=s6.trans t7;have D7:=D6.same t7;show#[_,rfl,rdG (s7 _ _ hK.o) (Fi T) (rdG D7.o (wu T) #[m,x.di.l,_,_,rfl,rfl,f7,D7.l,?_,fun k hk=>?_])]
  ·have:=aQ (n:=66) tb_g%;have:=hx.s2;rw[aC];show 2+_<=_;lia
  have t8:=Same.new (o:=.lst ([.int x.di.n,.int x.di.v]++(srt (My.up x.di.v x.di.C)).map V.int)) hk;show#[k,[x.di.n,x.di.v]++srt (My.up x.di.v x.di.C),rfl,by rw[aj,bG];rfl,hx.s1,by have:=hx.afp;lia,fun H8 t9=>#[_,_,rfl,rfl,JC tb_g% (JD (gA hx.s1 hx.afp)),?_]];have s8:=s7.trans (t8.trans t9);have B8:=hK.ba.same s8;show#[_,rfl,rdG (s8 _ _ hK.o) (wz T) (rdG B8.o (Zh T) #[x.ba.l,L4 x.ba.q,rfl,B8.l,hx.b,tb_g%,fun H9 t10=>#[_,_,rfl,rfl,JC tb_g% (JD (gA hx.b tb_g%)),?_]])];have s9:=s8.trans t10;have e0:=qT (a:=aD "keep ") (b:=aD "keep") tb_g% (ts:=([x.room,x.reach,x.span]:List Int).map sI) (eZ _ _);have e1:=qT (a:=aD "came ") (b:=aD "came") tb_g% (ts:=(fN x.cm).map sI) (by unfold fN;exact eZ _ _);have e2:=qT (a:=aD "went ") (b:=aD "went") tb_g% (ts:=(fN x.wn).map sI) (by unfold fN;exact eZ _ _);have e3:=qT (a:=aD "up ") (b:=aD "up") tb_g% (ts:=rT x.up.x) (aqf _);have e4:=qT (a:=aD "down ") (b:=aD "down") tb_g% (ts:=rT x.dn.x) (aqf _);have e5:=qT (a:=aD "window ") (b:=aD "window") tb_g% (ts:=(x.wi.c::(bx x.wi.ps).flatMap bI).map sI) (eZ _ _);have e6:=qT (a:=aD "seen ") (b:=aD "seen") tb_g% (ts:=([x.di.n,x.di.v]++srt (My.up x.di.v x.di.C)).map sI) (eZ _ _);have e7:=qT (a:=aD "sums ") (b:=aD "sums") tb_g% (ts:=(L4 x.ba.q).map sI) (eZ _ _);show#[tb_g%,fun L hL=>?_];show#[rfl,_,rfl,aD "\n",L,gb x,rfl,rfl,.inl (.inl ?_),by decide +kernel,hx.sum,q _ (s9.trans (Same.new hL))];rw[aj];unfold gb;rw[<-e0,<-e1,<-e2,<-e3,<-e4,<-e5,<-e6,<-e7];rfl
open MK
def spBI(A:Ad):Sp:=fun vs H Q _=>Ex2 fun(e:Addr) (n:Int)=>tD (vs=[.ref e,.int n]) (H e=some (vN e A.C'6 none)) (∀d,H d=none->d≠e->Q .non (upd (upd H d (.xd [("line",.int n)])) e (vN e A.C'6 (some d))))
theorem Ld(T:Tx K mg A):FnM P w mg base T.pQ CX0 4 (spBI A):=by
 k_dat (T.pQ,T.pQ.ok,KH) "f"
 ·obtain ⟨e,n,rfl,he,q⟩:=h;show#[_,(uc (Xo (amT akp T.gM T.YQ rfl rfl T.Js (aM (pv 0) (aM alh cR))))
   (Dt (aoP T.gM T.Cz PySem.F.store_ValueError.passes (pv 0) (pv 1)))),?_]
  show#[_,rfl,e,_,rfl,he,_,rfl,_,rfl,e,rfl,he,q]
def Bt(A:Ad)(l:Int)(E:XK)(R:Hp->Prop):Prop:=∀d H',R H'->H' d=some (.xd [("line",.int l)])->E (.ref A.C'6) (some d) H'
theorem Bt.imp{A:Ad}{l:Int}{E:XK}{R S:Hp->Prop}(h:Bt A l E R)(f:∀H,S H->R H):Bt A l E S:=fun d H' r e=>h d H' (f H' r) e
theorem Bt.same{A:Ad}{l:Int}{E:XK}{H G:Hp}(h:Bt A l E (Same H))(s:Same H G):Bt A l E (Same G):=h.imp fun _ r=>s.trans r
def atq(A:Ad):Sp:=fun vs H Q E=>Ex2 fun(n:Int) (b:Bool)=>vs=[.bl b,.int n]/\cond b (Q .non H) (Bt A n E (Same H))
theorem jX(T:Tx K mg A):FnK P w base T.afa (CXE P w) 6 (atq A):=by
 k_dat (T.afa,T.afa.okE,ao0) "a"
 ·obtain⟨_,_,rfl,_⟩:=h;rfl
 ·obtain⟨n,b,rfl,q⟩:=h;show#[_,by k_dat ([],[ahw akp T.gM T.jD T.Vh (Ld T) ?_],[]) "p",?_];cases b with
  |true=>show#[_,rfl,true,rfl,q]
  |false =>
   show#[_,rfl,false,rfl,_,rfl,tb_g%,fun e he=>#[e,n,rfl,aj,fun d nd ne=>#[rfl,some d,aj,q d _ (fun b o z=>?_) ?_]]]
   ·rw[ao ne]at nd;have n1:=ak z he;rwa[Eb n1,ao n1,ao (ak z nd),ao n1]
   ·rw[Eb ne,ao ne,aj]
def gw(c:List Nat):Bool:=decide (1<=c.length/\c.length<=60) && (c.all fun x=>decide (48<=x/\x<=57)) && (c == [48] || c.head? != some 48)
structure Bw(w:Str):Prop where
 l:w.length<=1000
 g:gw w.cps.toList=false
theorem gw_dg{n:Nat}(hn:n<10 ^ 60):gw (Dec.tx (Dec.dg n)).cps.toList=true:=by
 have hl:=Dec.vL 60 tb_g% hn;have h0:0<(Dec.dg n).length:=Vz.mpr (Dec.af2 n);unfold gw;rw[Dec.qO,aC,decide_eq_true tb_g%,ajN,show(((Dec.dg n).map oE).all fun x=>decide (48<=x/\x<=57))=true from Ay.mpr fun c m=>decide_eq_true (Dec.Yd n c m),ajN];rcases Nv n with z|z
 ·subst z;rfl
 ·obtain⟨c,r,ec,hc⟩:=Dec.aoM z;rw[ec];simp;exact .inr tb_g%
theorem apy{c:Nat}(h:¬ (48<=c/\c<=57)):uU (aD "0123456789") #[[c].toArray]=false:=by
 show(!(aqw _ _ 0 _ 1).isEmpty)=false;rw[StrLaws.found_one,show(aD "0123456789").cps.toList=[48,49,50,51,52,53,54,55,56,57] by decide +kernel];refine decide_eq_false fun m=>?_
 k_dat m "D"
 rcases m with m|m|m|m|m|m|m|m|m|m <;> (rw[m]at h;exact h tb_g%)
def spNum(A:Ad):Sp:=fun vs H Q E=>(∃(n:Nat)(l:Int),vs=[.str (Dec.tx (Dec.dg n)),.int l]/\n<10 ^ 60/\∀H',Same H H'->Q (.int n) H')\/∃(w:Str)(l:Int),vs=[.str w,.int l]/\Bw w/\Bt A l E (Same H)
theorem z48:aD "0" = #[[48].toArray]:=by decide +kernel
theorem Fo(T:Tx K mg A):FnK P w base T.yW (CXE P w) 7 (spNum A):=by
 k_dat (T.yW,T.yW.okE,Y6) "a"
 ·rcases h with⟨_,_,rfl,_⟩|⟨_,_,rfl,_⟩ <;> rfl
 ·obtain⟨w,l,rfl,lw,key⟩:∃(w:Str)(l:Int),vs=[.str w,.int l]/\w.length<=1000/\((gw w.cps.toList=false->Bt A l E (Same H))/\(gw w.cps.toList=true->∃n:Int,PySem.intText? w=some n/\∀H',Same H H'->Q (.int n) H')):=by
   rcases h with⟨n,l,rfl,hn,q⟩|⟨w,l,rfl,b,q⟩
   ·have hl:=Dec.vL 60 tb_g% hn;show#[_,l,rfl,by rw[Dec.vM];lia,fun z=>?_,fun _=>#[n,Dec.asy tb_g%,q]];rw[gw_dg hn]at z;cases z
   ·show#[w,l,rfl,b.l,fun _=>q,fun z=>by rw[b.g]at z;cases z]
  obtain⟨_,ahY,ahZ⟩:=T.ahH;obtain⟨_,Rm,Ro⟩:=T.QL;show#[_,by k_dat ([aap,asA,ar6,pe_or],[cV (zQ rfl) (by rfl) T.agn WY ?_,aB (jX T) ?_,ud aeP (by rfl) T.ap5 akd ?_],[dU (v:=.int 60) rfl Rm Ro,ug [] ["sign"] [] ?_ (fun _ _ _ _=>jU) (fun _ _ _ _=>(Du amI (pv 0) (dU (v:=.str "0123456789") rfl ahY ahZ) (by with_unfolding_all rfl)))]) "p",?_];have sz:w.length<=sizeLine:=bQ lw (show 1000<=sizeLine by decide);show#[_,rfl,.inl #[_,_,rfl,#[sz,rfl],?_]];show#[_,_,rfl,rfl,_,rfl,?_];have lc:w.cps.toList.length=w.length:=tU;have gl:¬ (1<=w.length/\w.length<=60)->gw w.cps.toList=false:=fun z=>by
   unfold gw;rw[decide_eq_false (by rwa[lc])];rfl
  by_cases c1:1<=w.length
  ·rw[if_pos (decide_eq_true tb_g%)];show#[_,_,rfl,rfl,_,rfl,?_];by_cases c2:w.length<=60
   ·rw[if_pos (decide_eq_true tb_g%)];show#[_,rfl,_,rfl,fun D hD=>?_];refine amM (fun i ys H1=>i<=w.cps.size/\ys=((w.cps.toList.take i).map fun c=>V.bl (uU (aD "0123456789") #[[c].toArray]))/\Same H H1/\H1 D=some (.lst ys)) ?_ ?_ ?_ ?_ ?_
    ·show#[cJ _,rfl,Same.new hD,aj]
    ·intro i ys H1 hi ⟨_,e,_,d⟩;show#[d,?_];rw[e,aC,d8,lc];exact nZ (show min i w.length<=60 by lia) tb_g%
    ·intro i ys H1 c hc ⟨hi,e,sm,d⟩;show#[_,rfl,_,_,rfl,rfl,d,(Oa.mp hc).1,?_,fun b u g=>by rw[ao (ak g hD)];exact sm b u g,aj];rw[e,mL,Hg,hc,bG];rfl
    ·intro ys H1 ⟨_,e,sm,d⟩;have e:ys=(w.cps.toList.map fun c=>uU (aD "0123456789") #[[c].toArray]).map V.bl:=by
      rw[e,Jj (by rw[lc];exact aJ _),fj];rfl
     show#[D,_,rfl,.inl (.inl (by rwa[<-e])),?_];by_cases c3:∀c∈w.cps.toList,48<=c/\c<=57
     ·rw [show (w.cps.toList.map fun c=>uU (aD "0123456789") #[[c].toArray]).all id=true from Ay.mpr fun b m=>by
       k_dat (c,mc,cX.mp,m) "G"
       exact Dec.aoL (c3 c mc)]
      show#[_,rfl,l,true,rfl,?_];have ga:(w.cps.toList.all fun x=>decide (48<=x/\x<=57))=true:=Ay.mpr fun c m=>decide_eq_true (c3 c m);have ge:gw w.cps.toList=(w.cps.toList == [48] || w.cps.toList.head? != some 48):=by
       unfold gw;rw[decide_eq_true (by rw[lc];show#[c1,c2]),ga];rfl
      obtain⟨c,r,el⟩:∃c r,w.cps.toList=c::r:=Vn fun z=>by rw[z]at lc;simp at lc;lia
      have wt:∀G,Same H G->gw w.cps.toList=true->(tRet (tCB (fun xs H Q=>∃z n,xs=[V.str z]/\z.length<=640/\PySem.intText? z=some n/\Q (V.int n) H) (alC (alg 0) tNil))) { nx:=fun _ H'=>Q V.non H',rt:=Q } [some (V.str w),some (.int l)] G:=fun G s z=>by
       obtain⟨n,h1,h2⟩:=key.2 z;show#[_,rfl,_,_,rfl,by lia,h1,h2 G s]
      show#[_,rfl,rfl,_,rfl,?_];by_cases c4:w=aD "0"
      ·rw[if_pos (decide_eq_true (by rw[c4]))];show#[_,rfl,l,true,rfl,wt H1 sm (by rw[c4,z48];decide +kernel)]
      ·rw[if_neg (by rw[decide_eq_false (fun e=>c4 (V.str.inj e))];exact d9)];have n48:(w.cps.toList == [48])=false:=beq_eq_false_iff_ne.mpr fun z=>c4 (by rw[z48];cases w;exact congrArg Str.mk (Hi.mp z));have i0:atI (w.cps.toList) 0=some c:=by rw[el];simp[atI,ixN]
       by_cases c5:c=48
       ·show#[_,rfl,_,_,c,rfl,rfl,sz,i0,rfl,_,rfl,l,false,by rw[c5,z48,decide_eq_true rfl];rfl,(key.1 ?_).same sm];rw[ge,n48,el,c5];rfl
       ·have ne2:¬ V.str #[[c].toArray]=V.str (aD "0"):=fun e=>by
         rw[z48]at e;injection e with e;have e:[c]=[48]:=congrArg (fun s:Str=>s.cps.toList) e;injection e with e1 _;exact c5 e1
        show#[_,rfl,_,_,c,rfl,rfl,sz,i0,rfl,_,rfl,l,true,by rw[decide_eq_false ne2];rfl,wt H1 sm ?_];rw[ge,n48,el];simp[c5]
     ·obtain⟨c,mc,nc⟩:∃c,c∈w.cps.toList/\¬ (48<=c/\c<=57):=by
       simpa using c3
      rw[show(w.cps.toList.map fun c=>uU (aD "0123456789") #[[c].toArray]).all id=false from ait.mpr #[_,FQ (f:=fun c=>uU (aD "0123456789") #[[c].toArray]) mc,by show ¬ _=true;rw[apy nc];exact d9]];show#[_,rfl,l,false,rfl,(key.1 ?_).same sm];unfold gw;rw[show(w.cps.toList.all fun x=>decide (48<=x/\x<=57))=false from ait.mpr #[c,mc,by simpa using nc],GP];rfl
    ·rintro σ H Q Q' m ⟨v,e,a,b,e1,e2,q⟩;show#[v,e,a,b,e1,e2,m _ _ q]
   ·rw[if_neg (by rw[decide_eq_false tb_g%];exact d9)];show#[_,rfl,l,false,rfl,key.1 (gl tb_g%)]
  ·rw[if_neg (by rw[decide_eq_false tb_g%];exact d9)];show#[_,rfl,qm #[_,rfl,l,false,rfl,key.1 (gl tb_g%)]]
def wN(n:Nat):V:=.str (Dec.tx (Dec.dg n))
def Bl(H:Hp)(a:Addr):Prop:=∃(ns:List Nat)(w:Str)(rest:List V),H a=some (.lst (ns.map wN++.str w::rest))/\(∀n∈ns,n<10 ^ 60)/\ns.length<=900/\Bw w
def atr (A:Ad):Sp:=fun vs H Q E=>(∃ (a:Addr) (ns:List Nat) (l:Int),vs=[.ref a,.int l]/\H a=some (.lst (ns.map wN))/\(∀ n∈ns,n<10 ^ 60)/\ns.length<=900 /\
 ∀ D H',H D=none->Same H H'->H' D=some (.lst (ns.map fun n:Nat=>V.int n))->Q (.ref D) H')\/∃ (a:Addr) (l:Int),vs=[.ref a,.int l]/\Bl H a/\Bt A l E (Same H)
theorem gn(T:Tx K mg A):FnK P w base T.vY (CXE P w) 8 (atr A):=by
 k_dat (T.vY,T.vY.okE,Td) "a"
 ·rcases h with⟨_,_,_,rfl,_⟩|⟨_,_,rfl,_⟩ <;> rfl
 ·obtain⟨a,ns,tl,l,rfl,ha,hb,hn,q⟩:∃(a:Addr)(ns:List Nat)(tl:List V)(l:Int),vs=[.ref a,.int l]/\H a=some (.lst (ns.map wN++tl))/\(∀n∈ns,n<10 ^ 60)/\ns.length<=900/\((tl=[]/\∀D H',H D=none->Same H H'->H' D=some (.lst (ns.map fun n:Nat=>V.int n))->Q (.ref D) H')\/∃w r,tl=.str w::r/\Bw w/\Bt A l E (Same H)):=by
   rcases h with⟨a,ns,l,rfl,ha,hb,hn,q⟩|⟨a,l,rfl,⟨ns,w,r,ha,hb,hn,bw⟩,q⟩
   ·show#[a,ns,[],l,rfl,by rwa[iH],hb,hn,.inl #[rfl,q]]
   ·show#[a,ns,_,l,rfl,ha,hb,hn,.inr #[w,r,rfl,bw,q]]
  show#[_,by k_dat ([fM],[],[HN xwUp [("line",s.heap.objs.size+1)] Q12 [1] ?_ (fun _ _ _ _=>jU) (fun _ _ _ _=>(aB (Fo T) (aM (pv 0) (aM (pv 1) cR))))]) "p",?_];show#[_,rfl,a,rfl,#[_,.inl (.inl ha)],fun D hD=>?_];refine iK (K:=K) (a:=a) (xs:=ns.map wN++tl) (fun i ys G=>i<=ns.length/\ys=(ns.take i).map (fun n:Nat=>V.int n)/\G D=some (.lst ys)/\Same H G) #[cJ _,rfl,aj,Same.new hD] ?_ ?_ ?_ ?_
  ·rintro i ys G hi ⟨_,rfl,gD,sG⟩;show#[.inl (.inl (sG _ _ ha)),gD,aQ ?_];rw[aC,d8];lia
  ·rintro i ys G x hx ⟨il,rfl,gD,sG⟩;by_cases lt:i<ns.length
   ·rw[tK (by rw[aC];exact lt),dF,j6]at hx;obtain⟨n,hi,rfl⟩:=hx;show#[_,rfl,_,rfl,.inl #[n,l,rfl,hb n (xj hi),fun G1 s1=>?_]];show#[s1 _ _ gD,lt,?_,aj,fun b o e=>?_]
    ·rw[mL,hi,bG];rfl
    ·rw[ao (ak e hD)];exact s1 _ _ (sG b o e)
   ·obtain rfl:i=ns.length:=by lia
    rw[xr (by rw[aC];exact aJ _),aC,xY]at hx;rcases q with⟨rfl,_⟩|⟨w,r,rfl,bw,q⟩
    ·cases hx
    ·obtain rfl:=bN hx;show#[_,rfl,_,rfl,.inr #[w,l,rfl,bw,q.same sG]]
  ·rintro ys G ⟨il,rfl,gD,sG⟩;rcases q with⟨rfl,q⟩|⟨w,r,rfl,_⟩
   ·rw[iH,aC,nJ]at gD;exact q D G hD sG gD
   ·rw[bB,aC,bh]at il;lia
  ·rintro σ H R R' hr ⟨v,e,w,e2,h⟩;show#[v,e,w,e2,h.imp (fun h=>?_) id];obtain⟨n,l,en,hn,q⟩:=h;show#[n,l,en,hn,fun H1 s1=>hr _ _ (q H1 s1)]
def spSb:Sp:=fun vs H Q _=>Ex3 fun(r c s:Int)=>Ep (vs=[.int r,.int c,.int s]) (r % 2=0) (2<=r) (r<=64) (1<=c) (c<=1000000000) (1<=s) (s<=1000000000/\Q (.bl true) H)
theorem Le(T:Tx K mg A):FnK P w base T.pR CX0 1 spSb:=by
 k_dat (T.pR,T.pR.ok,KJ) "f"
 ·obtain⟨r,c,p,rfl,h1,h2,h3,h4,h5,h6,h7,q⟩:=h;obtain⟨_,Zt,Zu⟩:=T.YZ;obtain⟨_,Zv,Zw⟩:=T.Y4;obtain⟨_,abK,abL⟩:=T.abw;obtain⟨_,abM,abN⟩:=T.abx;show#[_,by k_dat ([aap],[],[dU (v:=.int 2) rfl Zt Zu,dU (v:=.int 64) rfl abK abL,dU (v:=.int 1000000000) rfl Zv Zw,dU (v:=.int 1000000000) rfl abM abN]) "p",?_]
  k_dat lq "c"
  show#[_,rfl,_,_,rfl,rfl,(show(0:Int)<2 by decide),rfl,_,rfl,aaB (show V.int (r % 2)=V.int 0 by rw[h1]) ?_];show#[_,rfl,_,_,rfl,rfl,_,rfl,cD (fun e=>absurd (of_decide_eq_true e) tb_g%) fun _=>?_];show#[_,rfl,_,_,rfl,rfl,_,rfl,cD (fun e=>absurd (of_decide_eq_true e) tb_g%) fun _=>?_];show#[_,rfl,_,_,rfl,rfl,_,rfl,?_];rw[if_pos (decide_eq_true h4)];show#[_,_,rfl,rfl,_,rfl,?_];rw[if_pos (decide_eq_true h5)];show#[_,rfl,_,_,rfl,rfl,_,rfl,?_];rw[if_pos (decide_eq_true h6)];show#[_,_,rfl,rfl,?_];show Q (.bl (decide (p<=1000000000))) H;rwa[decide_eq_true h7]
def spBo(A:Ad):Sp:=fun vs H Q E=>Ex2 fun(a:Addr) (l:Int)=>vs=[.ref a,.int l]/\((∃r c p:Nat,H a=some (.lst [wN r,wN c,wN p])/\r % 2=0/\2<=r/\r<=64/\1<=c/\c<=1000000000/\1<=p/\p<=1000000000/\∀D H',H D=none->Same H H'->H' D=some (.lst [.int r,.int c,.int p])->Q (.ref D) H')\/(Bl H a\/∃ns:List Nat,H a=some (.lst (ns.map wN))/\(∀n∈ns,n<10 ^ 60)/\ns.length<=900/\ns.length≠3)/\Bt A l E (Same H))
theorem Zx(T:Tx K mg A):FnK P w base T.yX (CXE P w) 9 (spBo A):=by
 k_dat (T.yX,T.yX.okE,El) "a"
 ·obtain⟨_,_,rfl,_⟩:=h;rfl
 ·obtain⟨a,l,rfl,h⟩:=h;show#[_,by k_dat ([],[El.nd,aB (gn T) ?_,aB (Le T) ?_,aB (jX T) ?_],[]) "p",?_];rcases h with⟨r,c,p,ha,h1,h2,h3,h4,h5,h6,h7,q⟩|⟨hb,q⟩
  ·show#[_,rfl,_,rfl,.inl #[a,[r,c,p],l,rfl,ha,fun n m=>?_,(show 3<=900 by decide),fun D G hD sG gD=>?_]]
   ·have m:n=r\/n=c\/n=p:=by simpa using m
    have:n<=1000000000:=by lia
    exact nZ this tb_g%
   have gD:G D=some (.lst [.int r,.int c,.int p]):=gD;have sD:SqL K G D [.int r,.int c,.int p]:=.inl (.inl gD);show#[_,rfl,cj sD ?_];show#[rfl,_,rfl,?_];refine cD (fun _=>?_) fun e=>absurd (decide_eq_true rfl) e;show#[_,rfl,cH sD rfl ?_];show#[_,rfl,cH sD rfl ?_];show#[_,rfl,cH sD rfl ?_];show#[r,c,p,rfl,by lia,by lia,by lia,by lia,by lia,by lia,by lia,?_];show#[_,rfl,l,true,rfl,_,rfl,q D G hD sG gD]
  ·rcases hb with hb|⟨ns,ha,hb,hn,n3⟩
   ·show#[_,rfl,_,rfl,.inr #[a,l,rfl,hb,q]]
   ·show#[_,rfl,_,rfl,.inl #[a,ns,l,rfl,ha,hb,hn,fun D G hD sG gD=>?_]];show#[_,rfl,cj (.inl (.inl gD)) #[rfl,_,rfl,?_]];rw[decide_eq_false (by rw[aC];intro z;have:=V.int.inj z;lia)];exact qm #[_,rfl,l,false,rfl,q.same sG]
def spWo(A:Ad):Sp:=fun vs H Q E=>Ex4 fun(a:Addr) (ls:List Str) (k:Nat) (nm:Str)=>z7 (vs=[.ref a,.int (k+1:Nat),.str nm]) (H a=some (.lst (ls.map V.str))) (ls.length<=900) (((∃(ln hd:Str)(ws:List Str),ls[k]? = some ln/\lF ln (aD " ")=hd::ws/\ln.length<=1048576/\(hd=nm->∀D H',H D=none->Same H H'->H' D=some (.lst (ws.map V.str))->Q (.ref D) H')/\(hd≠nm->Bt A (k+1:Nat) E (Same H)))\/(ls.length<=k/\Bt A (k+1:Nat) E (Same H))))
theorem abO(T:Tx K mg A):FnK P w base T.CQ (CXE P w) 7 (spWo A):=by
 k_dat (T.CQ,T.CQ.okE,Jv) "a"
 ·obtain⟨_,_,_,_,rfl,_⟩:=h;rfl
 ·obtain⟨a,ls,k,nm,rfl,ha,few,h⟩:=h;have sa:SqL K H a (ls.map V.str):=.inl (.inl ha);show#[_,by k_dat ([],[Jv.nd,aB (jX T) ?_,mR wD Xa Xb DY ?_ ?_],[]) "p",?_];rcases h with⟨ln,hd,ws,hk,sp,le,q,qx⟩|⟨lk,q⟩
  ·have lt:=(fu.mp hk).1;show#[_,rfl,_,rfl,cj sa ?_];have c1:decide (((k+1:Nat):Int)<=((ls.map V.str).length:Nat))=true:=decide_eq_true (by rw[aC];lia);show#[_,_,rfl,rfl,_,rfl,(k+1:Nat),true,by show[V.bl (decide (((k+1:Nat):Int)<=((ls.map V.str).length:Nat))),V.int (k+1:Nat)]=_;rw[c1],?_];have c2:atI (ls.map V.str) (((k+1:Nat):Int)-1)=some (.str ln):=by
    rw[show((k+1:Nat):Int)-1=(k:Nat) by lia];exact cZ (by rw[dF,hk];rfl)
   show#[_,rfl,_,rfl,_,_,rfl,rfl,cH sa c2 ?_];show#[rfl,_,_,rfl,rfl,by decide +kernel,le,fun D hD=>?_];rw[sp];have sD:SqL K (upd H D (.lst ((hd::ws).map V.str))) D ((hd::ws).map V.str):=.inl (.inl aj);show#[_,rfl,cH sD (v:=.str hd) (cZ (j:=0) rfl) ?_];by_cases z:hd=nm
   ·refine⟨_,rfl,rfl,_,rfl,(k+1:Nat),true,by rw[z,decide_eq_true rfl];rfl,?_⟩;refine⟨_,rfl,1,rfl,D,_,rfl,sD,fun p hp=>?_⟩;refine q z p _ (by cases e:H p with|none=>rfl|some o=>rw[Same.new hD p o e]at hp;cases hp) ((Same.new hD).trans (Same.new hp)) ?_;rw[aj,show rY ((hd::ws).map V.str) (some 1) none=ws.map V.str by simp[rY,HT.sIx];rw[<-aC (f:=V.str) (as:=ws),nJ]]
   ·show#[_,rfl,rfl,_,rfl,(k+1:Nat),false,by rw[decide_eq_false fun e=>z (V.str.inj e)];rfl,(qx z).same (Same.new hD)]
  ·show#[_,rfl,_,rfl,cj sa ?_];have c1:decide (((k+1:Nat):Int)<=((ls.map V.str).length:Nat))=false:=decide_eq_false (by rw[aC];lia);show#[_,_,rfl,rfl,_,rfl,(k+1:Nat),false,by show[V.bl (decide (((k+1:Nat):Int)<=((ls.map V.str).length:Nat))),V.int (k+1:Nat)]=_;rw[c1],q]
open MK
theorem abP{n:Nat}{c:Nat}{r:List Nat}(h:(Dec.tx (Dec.dg n)).cps.toList=c::r):48<=c/\c<=57:=Dec.Yd n c (by rw[<-Dec.qO,h];exact bV)
theorem wN_ne{n:Nat}{c:Nat}(hc:c<48):¬ Dec.tx (Dec.dg n)=#[[c].toArray]:=fun e=>by
 have:=(abP (n:=n) (c:=c) (r:=[]) (by rw[e])).1;lia
theorem Fp{z:Str}{c d:Nat}{r:List Nat}(h:z.cps.toList=c::r):G9 z #[[d].toArray]=decide (c=d):=by
 have e:z=#[(c::r).toArray]:=by
  cases z with
  |mk cps=>show Str.mk cps=_;rw[<-h,Xc]
 rw[e];have:((c::r).toArray.extract 0 1 == [d].toArray)=decide (c=d):=by
  rw[show(c::r).toArray.extract 0 1=[c].toArray by apply Hi.mp;simp];by_cases g:c=d
  ·subst g;simp
  ·simp[g]
 exact(congrArg (fun b=>_ && b) this).trans (by simp[aiD])
theorem z45:aD "-" = #[[45].toArray]:=by decide +kernel
theorem abQ{α:Type}:∀l:List α,(ju l.length).filterMap (fun i=>l[i]?)=l
 |[]=>rfl
 |a::l=>by
  rw[bh,acg,wA];show a::_=_;rw[FT];exact congrArg (a :: ·) (abQ l)
theorem sl_ix(k:Nat):aqx (some 1) none 1 (k+1)=(ju k).map (· + 1):=by
 show Ni (max 0 (min (if(1:Int)<0 then 1+((k+1:Nat):Int)else 1) ((k+1:Nat):Int))) ((k+1:Nat):Int) 1=_;rw[if_neg tb_g%,show max 0 (min 1 ((k+1:Nat):Int))=1 by lia];unfold Ni;dsimp only;have e:(if(1:Int)>0 then(if(1:Int)<((k+1:Nat):Int)then(((k+1:Nat):Int)-1+1-1) / 1 else 0)else(if(1:Int)>((k+1:Nat):Int)then(1-((k+1:Nat):Int)-1-1) / (-1)else 0)).toNat=k:=by
  rw[if_pos tb_g%];split
  ·lia
  ·lia
 rw[e];exact wB fun a _=>by lia
theorem abR(c:Nat)(t:List Nat):N6 #[(c::t).toArray] (some 1) none=#[t.toArray]:=by
 unfold N6;rw[show(#[(c::t).toArray]:Str).length=t.length+1 from rfl,sl_ix,aC,air,if_neg (by simp)];have e:(fun x:Nat=>(c::t).toArray[x]?) ∘ (· + 1)=fun x:Nat=>t[x]?:=by
  funext x
  show(c::t).toArray[x+1]? = _;rw[aib,Vq]
 rw[FT,e,abQ]
theorem ah0(cs:List Char):N6 (Dec.tx ('-'::cs)) (some 1) none=Dec.tx cs:=abR _ _
def Bz(w:Str):Prop:=(G9 w (aD "-")=false/\Bw w)\/∃t:List Nat,w=#[(45::t).toArray]/\(Bw #[t.toArray]\/t=[48])
def spSg(A:Ad):Sp:=fun vs H Q E=>Ex2 fun(w:Str) (l:Int)=>vs=[.str w,.int l]/\((∃n:Int,w=sI n/\n.natAbs<10 ^ 60/\∀H',Same H H'->Q (.int n) H')\/Bz w/\Bt A l E (Same H))
theorem Zy(T:Tx K mg A):FnK P w base T.yZ (CXE P w) 8 (spSg A):=by
 k_dat (T.yZ,T.yZ.okE,En) "a"
 ·obtain⟨_,_,rfl,_⟩:=h;rfl
 ·obtain⟨w,l,rfl,h⟩:=h;show#[_,by k_dat ([asB],[En.nd,mR wD PySem.F.slot_str_startswith PySem.F.type_str_startswith R4 ?_ ?_,aB (Fo T) ?_,aB (jX T) ?_],[]) "p",?_];rcases h with⟨n,rfl,hn,q⟩|⟨h,q⟩;rotate_left
  ·rcases h with⟨st,bw⟩|⟨t,rfl,h⟩
   ·show#[_,rfl,rfl,_,_,rfl,rfl,false,by rw[st],?_];show#[_,rfl,_,rfl,.inr #[w,l,rfl,bw,q]]
   have st:G9 #[(45::t).toArray] (aD "-")=true:=by
    rw[z45,Fp (c:=45) (r:=t) rfl];rfl
   have lt:t.length<=1000:=by
    rcases h with h|rfl
    ·exact h.l
    ·decide
   show#[_,rfl,rfl,_,_,rfl,rfl,true,by rw[st],?_];show#[_,rfl,1,rfl,_,rfl,?_,?_]
   ·exact bQ (show t.length+1<=1001 by lia) tb_g%
   rw[abR];rcases h with h|rfl
   ·show#[_,rfl,.inr #[_,l,rfl,h,q]]
   ·show#[_,rfl,.inl #[0,l,rfl,by decide,fun H1 s1=>?_]];show#[_,rfl,rfl,_,rfl,l,false,rfl,q.same s1]
  k_dat lrr "c"
  by_cases z:n<0
  ·have e:sI n=Dec.tx ('-'::Dec.dg n.natAbs):=by
    unfold sI;rw[show n = -(n.natAbs:Int) by lia,Dec.DW tb_g%,Int.natAbs_neg,ajS]
   have hl:=Dec.vL 60 tb_g% hn;rw[e];have st:G9 (Dec.tx ('-'::Dec.dg n.natAbs)) (aD "-")=true:=by
    rw[z45,Fp (c:=45) (r:=(Dec.dg n.natAbs).map oE) (by rw[Dec.qO];rfl)];rfl
   show#[_,rfl,rfl,_,_,rfl,rfl,true,by rw[st],?_];show#[_,rfl,1,rfl,_,rfl,?_,?_]
   ·rw[Dec.vM];exact bQ (show(Dec.dg n.natAbs).length+1<=61 by lia) tb_g%
   rw[ah0];show#[_,rfl,.inl #[n.natAbs,l,rfl,hn,fun H1 s1=>?_]];have ne:¬ (n.natAbs:Int)=0:=by lia
   show#[_,rfl,rfl,_,rfl,l,true,by rw[decide_eq_false (fun w=>ne (V.int.inj w))];rfl,?_];show#[_,rfl,_,rfl,?_];have e2:-(n.natAbs:Int)=n:=by lia
   show Q (.int (-(n.natAbs:Int))) H1;rw[e2];exact q H1 s1
  ·have e:sI n=Dec.tx (Dec.dg n.natAbs):=by
    unfold sI;rw[show n=(n.natAbs:Int) by lia,Dec.jV,ajS]
   rw[e];cases h:(Dec.tx (Dec.dg n.natAbs)).cps.toList with
   |nil=>rw[Dec.qO]at h;exact absurd (Vx.mp h) (Dec.af2 _)
   |cons c r =>
    have hc:=abP h;have st:G9 (Dec.tx (Dec.dg n.natAbs)) (aD "-")=false:=by rw[z45,Fp h,decide_eq_false tb_g%]
    show#[_,rfl,rfl,_,_,rfl,rfl,false,by rw[st],?_];show#[_,rfl,_,rfl,.inl #[n.natAbs,l,rfl,hn,fun H1 s1=>?_]];rw[show((n.natAbs:Nat):Int)=n by lia];exact q H1 s1
abbrev sl1:Str:=aD "/"
def prt(cur:List Str):List Str->List (List Str)
 |[]=>[cur]
 |w::ws=>if w=sl1 then cur::prt [] ws else prt (cur++[w]) ws
theorem kZ{hs:List Str}(h:∀w∈hs,w≠sl1):∀(cur ws:List Str),prt cur (hs++ws)=prt (cur++hs) ws:=by
 induction hs with
 |nil=>intro cur ws;rw[iH];rfl
 |cons w hs ih =>
  intro cur ws;show(if w=sl1 then _ else prt (cur++[w]) (hs++ws))=_;rw[if_neg (h w bV),ih (fun u m=>h u (cB _ m)),dO];rfl
theorem Dc:∀(gs:List (List Str)),(∀g∈gs,∀w∈g,w≠sl1)->∀cur,prt cur (gs.flatMap fun g=>sl1::g)=cur::gs
 |[],_,cur=>rfl
 |g::gs,h,cur=>by
  rw[tO,qU];show(if sl1=sl1 then cur::prt [] (g++_)else _)=_;rw[if_pos rfl,kZ (h g bV),nM,Dc gs fun k m=>h k (cB _ m)]
def spPt:Sp:=fun vs H Q _=>Ex2 fun(a:Addr) (ws:List Str)=>z7 (vs=[.ref a]) (H a=some (.lst (ws.map V.str))) (ws.length<=9000) (∀(G:Addr) (ds:List (Addr × List Str)) (H':Hp),Same H H'->H' G=some (.lst (ds.map fun d=>V.ref d.1))->(∀d∈ds,H' d.1=some (.lst (d.2.map V.str)))->ds.map (·.2)=prt [] ws->Q (.ref G) H')
structure Pt(H J:Hp)(G:Addr)(ws:List Str)(i:Nat)(gs:List (Addr × List Str))(d:Addr)(cur:List Str):Prop where
 s:Same H J
 g:J G=some (.lst ((gs++[(d,cur)]).map fun d=>V.ref d.1))
 e:∀g∈gs++[(d,cur)],J g.1=some (.lst (g.2.map V.str))/\g.1≠G
 n:∀g∈gs,g.1≠d
 f:H d=none
 p:gs.map (·.2)++prt cur (ws.drop i)=prt [] ws
 l:cur.length<=i/\gs.length<=i
theorem ah1(T:Tx K mg A):FnK P w base T.QK CX0 1 spPt:=by
 k_dat (T.QK,T.QK.ok,Vk) "f"
 ·obtain⟨a,ws,rfl,ha,hn,q⟩:=h;show#[_,by k_dat ([fM],[Vk.nd],[]) "p",?_];show#[tb_g%,fun D hD=>#[tb_g%,fun G hG=>?_]];have s1:=Same.new (o:=.lst []) hD;have d1:(upd H D (.lst [])) D=some (.lst []):=aj;generalize upd H D (.lst [])=H1 at s1 d1 hG ⊢
  k_dat lrg "c"
  have nG:H G=none:=s1.free hG;have ne:D≠G:=ak d1 hG
  k_dat (nwA hG,H2,zH2,fH2) "n"
  have P0:Pt H H2 G ws 0 [] D []:=⟨s1.trans zH2,fH2,fun g m=>by rw[cI.mp m];exact⟨zH2 _ _ d1,ne⟩,(fun g m=>nomatch m),hD,by rw[MF];rfl,aJ _,aJ _⟩;refine⟨_,rfl,a,rfl,⟨_,.inl (.inl (P0.s _ _ ha))⟩,o9 (K:=K) (a:=a) (xs:=ws.map V.str) (fun i σ J=>Ex4 fun(y:Option V) (gs:List (Addr × List Str)) (d:Addr) (cur:List Str)=>σ=[some (.ref a),some (.ref G),y]/\Pt H J G ws i gs d cur) ⟨none,[],D,[],rfl,P0⟩ (fun i σ J _ h=>by obtain⟨_,_,_,_,_,P⟩:=h;exact .inl (.inl (P.s _ _ ha))) ?_ ?_⟩
  ·rintro i v σ J hi ⟨y,gs,d,cur,rfl,P⟩;rw[dF,j6]at hi;obtain⟨w,hi,rfl⟩:=hi;have li:i<ws.length:=(fu.mp hi).1;have dr:ws.drop i=w::ws.drop (i+1):=by
    rw[Mp li];congr 1;exact(fu.mp hi).2
   have pp:=P.p;rw[dr]at pp;have ml:(d,cur)∈gs++[(d,cur)]:=tL _ bV;have dJ:J d=some (.lst (cur.map V.str)):=(P.e _ ml).1;have dG:d≠G:=(P.e _ ml).2;show#[_,rfl,rfl,_,rfl,cD (fun e=>?_) (fun e=>?_)]
   ·have e:w=sl1:=by
     have e:=of_decide_eq_true e;injection e
    have pp:gs.map (·.2)++(cur::prt [] (ws.drop (i+1)))=prt [] ws:=by rw[<-pp];show _=_++(if w=sl1 then _ else _);rw[if_pos e]
    show#[_,rfl,.inl #[rfl,_,.inl (.inl P.g)],tb_g%,fun D2 hD2=>?_];have s2:=Same.new (o:=.lst []) hD2;show#[G,_,_,rfl,rfl,s2 _ _ P.g,Zo (by rw[aC,bB];show gs.length+1<=9000;have:=P.l;lia),?_];have nD2:D2≠G:=aL (ak P.g hD2);show#[_,gs++[(d,cur)],D2,[],rfl,fun b o e=>by rw[ao (ak e nG)];exact s2 _ _ (P.s b o e),by rw[aj,bG (l₁:=gs++[(d,cur)]) (l₂:=[(D2,[])])];rfl,fun g m=>?_,fun g m=>ak (P.e g m).1 hD2,P.s.free hD2,?_,cJ _,by rw[bB];show gs.length+1<=i+1;have:=P.l;lia]
    ·walk_at "v"
     ·have:=P.e g m;show#[by rw[ao this.2];exact s2 _ _ this.1,this.2]
     ·rw[cI.mp m];show#[by rw[ao nD2];exact aj,nD2]
    ·rw[bG,dO];exact pp
   ·have e:¬ w=sl1:=fun z=>e (decide_eq_true (congrArg V.str z));have pp:gs.map (·.2)++prt (cur++[w]) (ws.drop (i+1))=prt [] ws:=by rw[<-pp];show _=_++(if w=sl1 then _ else _);rw[if_neg e]
    have la:atI ((gs++[(d,cur)]).map fun d=>V.ref d.1) (-1)=some (.ref d):=by
     unfold atI ixN;rw[aC,bB,if_neg tb_g%,if_pos (by show -((gs.length+1:Nat):Int) <= -1;lia)];show((gs++[(d,cur)]).map fun d=>V.ref d.1)[((-1:Int)+((gs.length+1:Nat):Int)).toNat]? = _;rw[show((-1:Int)+((gs.length+1:Nat):Int)).toNat=gs.length by lia,dF,xr (aJ _),xY];rfl
    show#[_,rfl,_,rfl,cH (.inl (.inl P.g)) (v:=.ref d) la #[.inl #[rfl,_,.inl (.inl dJ)],_,rfl,d,_,_,rfl,rfl,dJ,Zo (by rw[aC];have:=P.l;lia),?_]];show#[_,gs,d,cur++[w],rfl,fun b o e=>by rw[ao (ak e P.f)];exact P.s b o e,?_,fun g m=>?_,P.n,P.f,pp,by rw[bB];show cur.length+1<=i+1;have:=P.l;lia,by have:=P.l;lia]
    ·rw[ao (aL dG)];have:=P.g;rw[bG]at this ⊢;exact this
    ·walk_at "v"
     ·have:=P.e g (Ms _ m);show#[by rw[ao (P.n g m)];exact this.1,this.2]
     ·rw[cI.mp m];show#[by rw[aj,bG];rfl,dG]
  ·rintro σ J ⟨y,gs,d,cur,rfl,P⟩;have pp:=P.p;rw[aC,Mu]at pp;show#[_,rfl,q G (gs++[(d,cur)]) J P.s P.g (fun g m=>(P.e g m).1) ?_];rw[bG];exact pp
open MK
theorem cut1(xs:List V):rY xs (some 1) none=xs.drop 1:=by
 cases xs with
 |nil=>rfl
 |cons x xs =>
  simp[rY,HT.sIx]
def spRi:Sp:=fun vs H Q _=>Ex2 fun(a:Addr) (xs:List Int)=>KQ (vs=[.ref a]) (H a=some (.lst (xs.map V.int))) (xs.Pairwise (· < ·)) ((∀x∈xs,x<1152921504606846976)) (xs.length<=900) (∀H',Same H H'->Q (.bl true) H')
theorem uH(T:Tx K mg A):FnK P w base T.mF CX0 1 spRi:=by
 k_dat (T.mF,T.mF.ok,uw) "f"
 ·obtain⟨a,xs,rfl,ha,up,mo,ln,q⟩:=h;obtain⟨_,Q8,Q9⟩:=T.afb;show#[_,by k_dat ([],[uw.nd,asu rfl T.ang ?_,cV (zQ rfl) (by rfl) T.agn WY ?_,um false T.ane ?_ ?_ rfl],[ahi (g:=(gTup K 2 (OD (o8 0) (OD (o8 1) gNil)))) 2 [] Q11 [] (fun _ _ _ _=>alk rfl (OJ (zK (i:=0) (show(Q11:List Str).Nodup by decide +kernel) rfl (Or.inl rfl)) (OJ (zK (i:=1) (show(Q11:List Str).Nodup by decide +kernel) rfl (Or.inl rfl)) afH))) ?_ (fun _ _ _ _=>jU) (fun _ _ _ _=>(Du apM (pv 0) (pv 1) (vB _))),dU (v:=.int 1152921504606846976) rfl Q8 Q9]) "p",?_];show#[_,rfl,_,rfl,1,rfl,a,_,rfl,.inl (.inl ha),fun p hp=>?_];rw[cut1,<-xH]
  k_dat (nwA hp,H1,s1,e1) "n"
  show#[a,p,_,_,rfl,s1 _ _ ha,e1,fun D hD=>?_];refine ahp (xs:=xs.map V.int) (ys:=(xs.drop 1).map V.int) (fun i zs H2=>i<=xs.length/\zs=gY i (V.bl true)/\H2 D=some (.lst zs)/\Same H1 H2) #[cJ _,rfl,aj,Same.new hD] ?_ ?_ ?_ (aeL 0 1) (zP (eE 0) (eE 1))
  ·rintro i zs H2 ⟨il,rfl,f,s2⟩;show#[s2 _ _ (s1 _ _ ha),s2 _ _ e1,f,aQ (by rw[Df];lia)]
  ·rintro i zs H2 u v t ws hu hv ⟨il,rfl,f,s2⟩ ht hw
   k_dat (x,hx,int_at,hu) "G"
   k_dat (y,hy,int_at,hv) "G"
   rw[List.getElem?_drop]at hy;have lt:x<y:=by
    obtain⟨l1,g1⟩:=fu.mp hx;obtain⟨l2,g2⟩:=fu.mp hy;have:=List.pairwise_iff_getElem.mp up i (1+i) l1 l2 tb_g%
    rwa [g1,g2]at this
   obtain⟨w0,w1,rfl⟩:∃w0 w1,ws=[w0,w1]:=#[_,_,List.eq_getElem_of_length_eq_two ws hw];have s3:Same H2 (upd H2 t (.tup [.int x,.int y])):=Same.new ht;have lx:=(fu.mp hx).1;show#[t,_,rfl,.inl (.inl aj),rfl,_,_,rfl,_,_,rfl,rfl,#[[some (.int x),some (.int y)],rfl,rfl],_,rfl,_,rfl,_,_,rfl,rfl,s3 _ _ f,lx,?_,aj,fun b o e=>by rw[ao (ak e hD)];exact s3 _ _ (s2 _ _ e)];show gY i (V.bl true)++[V.bl (decide (x<y))]=_;rw[decide_eq_true lt,Vt]
  ·rintro zs H2 ⟨_,rfl,f,s2⟩;have al:∀k,(gY k true).all id=true:=fun k=>by simp
   show#[D,gY _ true,rfl,.inl (.inl (by rwa[acn])),?_];rw[al];show#[_,rfl,_,rfl,JL ?_];show#[_,rfl,a,xs,rfl,.inl (.inl (s2 _ _ (s1 _ _ ha))),fun v hv=>?_];obtain⟨m,rfl,hm⟩:∃m:Int,v=.int m/\m<1152921504606846976:=by
    rcases hv with⟨_,e⟩|⟨m,e,mm,_⟩
    ·show#[0,e,by decide]
    ·show#[m,e,mo m mm]
   show#[_,_,rfl,rfl,?_];show Q (.bl (decide (m<1152921504606846976))) H2;rw[decide_eq_true hm];exact q _ (s1.trans s2)
def spSF(A:Ad):Sp:=fun vs H Q _=>Ex4 fun(f:Fq) (a:Addr) (room:Nat) (ks:List Int)=>Ep (vs=[.ref f.p,.ref a]) (tG A H room f) (H a=some (.lst (ks.map V.int))) (ks.Pairwise (· < ·)) ((∀k∈ks,k<1152921504606846976/\k∈keys f.c/\1<=low f.c k)) (ks.length<=room) (room<=64) ((ks.map (low f.c)).sum+((room:Int)+1)*f.l<=f.t/\∀H',Same H H'->Q (.bl true) H')
theorem anO{c:Tab}{k:Int}(h:k∈keys c):zX (emb c) (Sum.inl k:Key)=some (.int (low c k)):=by
 rw[O9];obtain⟨v,e⟩:=adt.mp ((JM c k).mpr h);unfold low;rw[e];rfl
theorem Ft(T:Tx K mg A):FnK P w base T.jK CX0 2 (spSF A):=by
 k_dat (T.jK,T.jK.ok,jo) "f"
 ·obtain⟨f,a,room,ks,rfl,hf,ha,up,hk,lr,r64,hs,q⟩:=h;have o:=hf.o;show#[_,by k_dat ([fM],[jo.nd,aB (uH T) ?_,um true T.anf ?_ ?_ rfl,cV (Uw rfl) (by rfl) T.ap7 ake ?_],[qN 2 jo.nd [("frequent",s.heap.objs.size+1)] ["thing","frequent"] [0] (te:=(tOp (aek K) (alA K _ "counts") _)) ?_ (fun _ _ _ _=>jU) (fun _ _ _ _=>(aat (ixG tb_g%) (pf 1) (pv 0) (fun _ _=>rfl)))]) "p",?_]
  k_dat lq "c"
  show#[_,rfl,a,rfl,#[_,.inl (.inl ha)],fun D hD=>?_];refine iK (K:=K) (a:=a) (xs:=ks.map V.int) (fun i ys G=>ys=((ks.take i).map (low f.c)).map V.int/\G D=some (.lst ys)/\Same H G) #[rfl,aj,Same.new hD] ?_ ?_ ?_ (afZ (Pr (eE 1)) (eE 0))
  ·rintro i ys G hi ⟨rfl,gD,sG⟩;show#[.inl (.inl (sG _ _ ha)),gD,aQ (by rw[aC,aC,d8];lia)]
  ·rintro i ys G x hx ⟨rfl,gD,sG⟩
   k_dat (k,hi,int_at,hx) "G"
   show#[_,rfl,rdG (sG _ _ o) (zW T) #[_,rfl,apY (.inl (sG _ _ hf.d)) (anO (hk k (xj hi)).2.1) #[gD,?_,aj,fun b o e=>by rw[ao (ak e hD)];exact sG b o e]]];rw[mL,hi,bG,bG];rfl
  ·rintro ys G ⟨rfl,gD,sG⟩;rw[aC,nJ]at gD
   k_dat lqg "c"
   show#[_,rfl,a,ks,rfl,sG _ _ ha,up,fun k m=>(hk k m).1,by lia,fun G2 s2=>#[_,rfl,qm ?_]];have s02:=sG.trans s2;have o2:=s02 _ _ o;have D2:=s2 _ _ gD;show#[_,rfl,cj (.inl (.inl (s02 _ _ ha))) #[_,rfl,rdG o2 (Ze T) #[_,_,rfl,rfl,_,rfl,cD (fun e=>absurd (of_decide_eq_true e) (by rw[aC];lia)) fun _=>?_]]];show#[_,rfl,D,ks.map (low f.c),rfl,.inl (.inl D2),fun v hv=>?_];obtain⟨m,rfl,hm⟩:∃m:Int,v=.int m/\1<=m:=by
    rcases hv with⟨_,e⟩|⟨m,e,mm,_⟩
    ·show#[1,e,by decide]
    ·k_dat (k,mk,cX.mp,mm) "G"
     show#[_,e,(hk k mk).2.2]
   show#[_,_,rfl,rfl,_,rfl,cD (fun _=>?_) fun e=>absurd (decide_eq_true hm) e];show#[_,rfl,D,ks.map (low f.c),rfl,.inl (.inl D2),?_];show#[_,rfl,rdG o2 (Ze T) #[_,_,rfl,rfl,_,rfl,rdG o2 (Zf T) #[_,_,rfl,rfl,aer tb_g% tb_g%,_,_,rfl,rfl,_,rfl,rdG o2 (Ra T) #[_,_,rfl,rfl,?_]]]];show Q (.bl (decide ((ks.map (low f.c)).sum+((room:Int)+1)*f.l<=f.t))) G2;rw[decide_eq_true hs];exact q G2 s02
def spSt(A:Ad):Sp:=fun vs H Q _=>Ex2 fun(p:Addr) (x:Rs)=>z7 (vs=[.ref p]) (RnX A H p x) (x.ls.length<=900) (Q (.bl (decide ((RG.val x.ls:Int)=x.tt))) H)
theorem abS:∀(ls:RG.Ls)(i:Nat),RG.val (ls.drop i)<=RG.val ls
 |_,0=>aJ _
 |[],_+1=>aJ _
 |l::ls,i+1=>by
  have:=abS ls i;show RG.val (ls.drop i)<=l.length+2*RG.val ls;lia
theorem Dd(T:Tx K mg A):FnK P w base T.jk CX0 1 (spSt A):=by
 k_dat (T.jk,T.jk.ok,p8) "f"
 ·obtain⟨p,x,rfl,hx,ln,q⟩:=h;have o:=hx.o;have n:=hx.l.n;show#[_,by k_dat ([],[p8.nd,aeG rfl T.pY ?_],[]) "p",?_]
  k_dat lq "c"
  show#[_,rfl,rdG o (kW T) #[x.a,_,rfl,.inl (.inl hx.l.o),X6 (K:=K) (a:=x.a) (xs:=x.bs.map V.ref) (fun i σ G=>∃(y:Option V),tD (σ=[some (.ref p),some (.int (RG.val (x.ls.drop (x.ls.length-i)):Nat)),y]) (i<=x.ls.length) (G=H)) #[none,by rw[ajE,Mu];rfl,cJ _,rfl] (fun i σ G _ h=>by obtain⟨_,_,_,e⟩:=h;rw[e];exact .inl (.inl hx.l.o)) ?_ ?_]]
  ·rintro i v σ G hi ⟨y,rfl,il,rfl⟩;have li:i<x.ls.length:=by
    have:=(fu.mp hi).1;rwa[xu,aC,n]at this
   rw[Vs (by rwa[aC,n]),aC,n,dF,j6]at hi;obtain⟨b,hb,rfl⟩:=hi;have lj:x.ls.length-1-i<x.ls.length:=by lia
   have hl:=eU lj;have hB:=hx.l.e _ b _ hb hl;have e:RG.val (x.ls.drop (x.ls.length-(i+1)))=(x.ls[x.ls.length-1-i]).length+2*RG.val (x.ls.drop (x.ls.length-i)):=by
    rw[show x.ls.length-(i+1)=x.ls.length-1-i by lia,Mp lj,show x.ls.length-1-i+1=x.ls.length-i by lia];rfl
   have le:=abS x.ls (x.ls.length-(i+1));show#[_,rfl,_,_,rfl,rfl,eY tb_g% tb_g%,_,rfl,cj (.inl (.inl hB)) #[_,_,rfl,rfl,?_]];have ew:(RG.val (x.ls.drop (x.ls.length-i)):Int)*2+(((x.ls[x.ls.length-1-i]).map V.int).length:Int)=(RG.val (x.ls.drop (x.ls.length-(i+1))):Nat):=by
    rw[aC];lia
   try dsimp -proj only
   rw[ew];show#[_,rfl,_,rfl,rdG o (gh T) #[_,_,rfl,rfl,_,rfl,cD (fun z=>by have z:=of_decide_eq_true z;rwa[decide_eq_false tb_g%]at q) fun _=>#[_,rfl,li,rfl]]]
  ·rintro σ G ⟨y,rfl,_,rfl⟩;rw[aC,n,xY,MF];show#[_,rfl,_,rfl,rdG o (gh T) #[rfl,?_]];rwa[show decide (V.int (RG.val x.ls:Nat)=V.int x.tt)=decide ((RG.val x.ls:Int)=x.tt)from decide_eq_decide.mpr #[V.int.inj,congrArg _]]
def spSL(A:Ad):Sp:=fun vs H Q _=>Ex6 fun(a p:Addr) (x:Rs) (l:List Int) (lo hi:Int)=>Ep (vs=[.ref a,.ref p]) (RnX A H p x) (H a=some (.lst (l.map V.int))) ((l.length:Int)<=x.r) (l.length<64) (l.Pairwise (· <= ·)) (x.mi=some lo) (tD (x.ma=some hi) ((∀z∈l,lo<=z/\z<=hi)) (∀H',Same H H'->Q (.bl true) H'))
theorem Tt(T:Tx K mg A):FnK P w base T.vZ CX0 1 (spSL A):=by
 k_dat (T.vZ,T.vZ.ok,Te) "f"
 ·obtain⟨a,p,x,l,lo,hi,rfl,hx,ha,lr,l64,sd,e1,e2,bd,q⟩:=h;have o:=hx.o;rw[e1,e2]at o;show#[_,by k_dat ([asv],[cV (jg rfl) (by rfl) T.uq N5 ?_,um true T.anf ?_ ?_ rfl,um false T.ane ?_ ?_ rfl],[]) "p",?_];show#[_,rfl,cj (.inl (.inl ha)) #[_,rfl,rdG o (Y8 T) #[_,_,rfl,rfl,_,rfl,cD (fun z=>absurd (of_decide_eq_true z) (by rw[aC];lia)) fun _=>?_]]];show#[_,rfl,_,rfl,.inr #[a,l,rfl,.inl (.inl ha),l64,fun D l' hD pm sd'=>?_]];obtain rfl:=RG.iM pm sd' sd;have s1:=Same.new (o:=.lst (l'.map V.int)) hD;show#[1,a,D,rfl,rfl,by decide,.lst (.inl (.inl (s1 _ _ ha))) (.inl (.inl aj)) rfl (fun i x y h1 h2=>?_),_,rfl,qm ?_]
  ·obtain⟨z,_,rfl⟩:=int_at h1;obtain rfl:=bN (h1.symm.trans h2);exact .flat rfl
  have o1:=s1 _ _ o;have a1:=s1 _ _ ha;generalize upd H D (.lst (l'.map V.int))=H1 at s1 o1 a1 ⊢;show#[_,rfl,_,rfl,rdG o1 (zp T) #[a,l',rfl,.inl (.inl a1),fun v hv=>?_]];obtain⟨m,rfl,hm⟩:∃m:Int,v=.int m/\lo<=m:=by
   rcases hv with⟨_,e⟩|⟨m,e,mm,_⟩
   ·show#[lo,e,cQ _]
   ·show#[m,e,(bd m mm).1]
  show#[_,rfl,rdG o1 (zp T) #[_,_,rfl,rfl,_,rfl,cD (fun _=>?_) fun e=>absurd (decide_eq_true hm) e]];show#[_,rfl,_,rfl,rdG o1 (zU T) #[a,l',rfl,.inl (.inl a1),fun v hv=>?_]];obtain⟨m,rfl,hm⟩:∃m:Int,v=.int m/\m<=hi:=by
   rcases hv with⟨_,e⟩|⟨m,e,mm,_⟩
   ·show#[hi,e,cQ _]
   ·show#[m,e,(bd m mm).2]
  show#[_,rfl,rdG o1 (zU T) #[_,_,rfl,rfl,?_]];show Q (.bl (decide (m<=hi))) H1;rw[decide_eq_true hm];exact q _ s1
structure Sr(x:Rs):Prop where
 z:x.tt=0->x.ls=[]/\x.ov=0/\x.un=0/\x.tn=0
 n:x.tt≠0->x.ls≠[]/\RG.Full x.ls/\∃lo hi,x.mi=some lo/\x.ma=some hi/\lo<=hi/\hi<1152921504606846976/\∀l∈x.ls,∀z∈l,lo<=z/\z<=hi
 v:(RG.val x.ls:Int)=x.tt
 l:x.ls.length<=900
 d:∀l∈x.ls,(l.length:Int)<=x.r/\l.length<64/\l.Pairwise (· <= ·)
 b:(x.ov+x.un)*x.r<=x.tt*((x.ls.length:Int)-1)\/x.tt=0
 r:0<=x.r/\x.r<=64
structure Sx(x:Rs):Prop where
 t:x.tt≠0
 n:x.ls≠[]/\RG.Full x.ls/\∃lo hi,x.mi=some lo/\x.ma=some hi/\lo<=hi/\hi<1152921504606846976
 v:¬ (RG.val x.ls:Int)=x.tt
 l:x.ls.length<=900
def spSRu(A:Ad):Sp:=fun vs H Q _=>Ex3 fun(p:Addr) (x:Rs) (b:Bool)=>z7 (vs=[.ref p]) (RnX A H p x) (cond b (Sr x) (Sx x)) (∀H',Same H H'->Q (.bl b) H')
theorem Rp(T:Tx K mg A):FnK P w base T.sZ CX0 2 (spSRu A):=by
 k_dat (T.sZ,T.sZ.ok,Q5) "f"
 ·obtain⟨p,x,b,rfl,hx,S,q⟩:=h;have o:=hx.o;have n:=hx.l.n;have S:(b=true/\Sr x)\/(b=false/\Sx x):=by
   cases b
   ·exact .inr #[rfl,S]
   ·exact .inl #[rfl,S]
  have l9:x.ls.length<=900:=S.elim (fun S=>S.2.l) fun S=>S.2.l;obtain⟨_,Q8,Q9⟩:=T.afb;show#[_,by (k_dat ([hdE,fM],[aB (Dd T) ?_,cV (zQ rfl) (by rfl) T.agn WY ?_],[dU (v:=.int 1152921504606846976) rfl Q8 Q9,ug [("rungs",s.heap.objs.size+1)] Q16 [0] ?_ (fun _ _ _ _=>jU) (fun _ _ _ _=>(aB (Tt T) (aM (pv 0) (aM (pv 1) cR))))]) "p"; k_dat aao "h"; k_dat (amA hr.units) "h"; k_dat aao "h"; k_dat aao "h"; k_dat aao "h"; k_dat (amA hr.units) "h"; k_dat (aaY hr.units) "h"),?_]
  k_dat lq "c"
  show#[_,rfl,rdG o (gh T) #[rfl,_,rfl,cD (fun h=>?_) (fun h=>?_)]]
  ·have h:x.tt=0:=V.int.inj (of_decide_eq_true h);obtain⟨eb,S1⟩:=S.resolve_right fun z=>z.2.t h;subst eb;obtain⟨z1,z2,z3,z4⟩:=S1.z h;rw[z1]at n;have l:=hx.l.o;rw[Ji.mp n]at l;rw[z2,z3,z4]at o;refine⟨_,rfl,rdG o (kW T) ⟨tb_g%,fun D hD=>?_⟩⟩;have s1:=Same.new (o:=.lst []) hD;refine .inl ⟨1,x.a,D,rfl,rfl,by decide,.lst (xs:=[]) (ys:=[]) (.inl (.inl (s1 _ _ l))) (.inl (.inl aj)) rfl (fun i x y h=>nomatch h),_,rfl,JL ?_⟩;have o1:=s1 _ _ o;refine⟨_,rfl,rdG o1 (Mh T) ⟨rfl,_,rfl,JL ?_⟩⟩;refine⟨_,rfl,rdG o1 (Er T) ⟨rfl,_,rfl,JL ?_⟩⟩;exact⟨_,rfl,rdG o1 (qg T) ⟨rfl,q _ s1⟩⟩
  have h:x.tt≠0:=fun z=>h (decide_eq_true (congrArg V.int z));obtain⟨ne,fl,lo,hi,e1,e2,lh,hm⟩:x.ls≠[]/\RG.Full x.ls/\∃lo hi,x.mi=some lo/\x.ma=some hi/\lo<=hi/\hi<1152921504606846976:=by
   rcases S with⟨_,S⟩|⟨_,S⟩
   ·obtain⟨a,b,lo,hi,c,d,e,f,_⟩:=S.n h;show#[a,b,lo,hi,c,d,e,f]
   ·exact S.n
  rw[e1,e2]at o;have pos:0<x.ls.length:=Vz.mpr ne;show#[_,rfl,rdG o (kW T) #[tb_g%,fun D hD=>?_]];have s1:=Same.new (o:=.lst []) hD;have l1:=s1 _ _ hx.l.o;have o1:=s1 _ _ o;refine .inr #[x.a,D,_,_,rfl,rfl,.inl (.inl l1),.inl (.inl aj),by rw[aC,n];show x.ls.length≠0;lia,_,rfl,qm ?_];generalize upd H D (.lst [])=H1 at s1 l1 o1 ⊢;obtain⟨b,hb⟩:∃b,x.bs[x.ls.length-1]? = some b:=#[_,eU tb_g%];have hl:=eU (show x.ls.length-1<x.ls.length by lia);have hB:=s1 _ _ (hx.l.e _ b _ hb hl);have atu:x.ls[x.ls.length-1]≠[]:=fl _ (by rw[List.getLast?_eq_getElem?,hl]);have la:atI (x.bs.map V.ref) (-1)=some (.ref b):=by
   unfold atI ixN;rw[aC,n,if_neg tb_g%,if_pos tb_g%];show(x.bs.map V.ref)[((-1:Int)+(x.ls.length:Int)).toNat]? = _;rw[show((-1:Int)+(x.ls.length:Int)).toNat=x.ls.length-1 by lia,dF,hb];rfl
  show#[_,rfl,rdG o1 (kW T) #[_,rfl,cH (.inl (.inl l1)) la #[tb_g%,fun D2 hD2=>?_]]];have s2:=Same.new (o:=.lst []) hD2;show#[b,D2,_,_,rfl,rfl,.inl (.inl (s2 _ _ hB)),.inl (.inl aj),by rw[aC];show _≠0;have:=Vz.mpr atu;lia,_,rfl,qm ?_];have o2:=s2 _ _ o1;replace s1:=s1.trans s2;generalize upd H1 D2 (.lst [])=H2 at s1 o2 ⊢;clear hB l1 s2 o1;have X2:=hx.same s1;show#[_,rfl,rdG o2 (zp T) #[_,rfl,rdG o2 (zU T) #[_,_,rfl,rfl,_,rfl,cD (fun z=>absurd (of_decide_eq_true z) (by show ¬ lo>hi;lia)) fun _=>?_]]];show#[_,rfl,rdG o2 (zU T) #[_,_,rfl,rfl,_,rfl,cD (fun z=>absurd (of_decide_eq_true z) (by show ¬ hi>=1152921504606846976;lia)) fun _=>?_]];show#[_,rfl,p,x,rfl,X2,l9,?_];rcases S with⟨rfl,S⟩|⟨rfl,S⟩;rotate_left
  ·rw[decide_eq_false S.v];show#[_,rfl,JL (q _ s1)]
  obtain⟨_,_,lo',hi',f1,f2,_,_,bd⟩:=S.n h;obtain rfl:=bN (e1.symm.trans f1);obtain rfl:=bN (e2.symm.trans f2);rw[decide_eq_true S.v];show#[_,rfl,qm ?_];show#[_,rfl,rdG o2 (kW T) #[x.a,rfl,#[_,.inl (.inl X2.l.o)],fun C hC=>?_]];refine iK (K:=K) (a:=x.a) (xs:=x.bs.map V.ref) (fun i ys G=>i<=x.ls.length/\ys=gY i (V.bl true)/\G C=some (.lst ys)/\Same H2 G) #[cJ _,rfl,aj,Same.new hC] ?_ ?_ ?_ ?_
  ·rintro i ys G hi ⟨il,rfl,gC,sG⟩;show#[.inl (.inl (sG _ _ X2.l.o)),gC,aQ (by rw[Df];have:=S.l;lia)]
  ·rintro i ys G v hv ⟨il,rfl,gC,sG⟩;rw[dF,j6]at hv;obtain⟨b,hb,rfl⟩:=hv;have li:i<x.ls.length:=by rw[<-n];exact(fu.mp hb).1
   have hl:=eU li;have mm:=xj hl;have dd:=S.d _ mm;have X3:=X2.same sG;show#[_,rfl,_,rfl,b,p,x,x.ls[i],lo,hi,rfl,X3,X3.l.e i b _ hb hl,dd.1,dd.2.1,dd.2.2,e1,e2,bd _ mm,fun G1 sG1=>#[sG1 _ _ gC,li,by rw[<-Vt],aj,fun b o e=>by rw[ao (ak e hC)];exact sG1 _ _ (sG b o e)]]
  ·rintro ys G ⟨_,rfl,gC,sG⟩;have al:∀k,(gY k true).all id=true:=fun k=>by simp
   show#[C,gY _ true,rfl,.inl (.inl (by rwa[acn])),?_];rw[al];have o3:=sG _ _ o2;have X3:=X2.same sG;have r0:=S.r;show#[_,rfl,qm ?_];show#[_,rfl,rdG o3 (Mh T) #[_,rfl,rdG o3 (Er T) #[_,_,rfl,rfl,_,rfl,rdG o3 (Y8 T) #[_,_,rfl,rfl,eY tb_g% tb_g%,_,rfl,rdG o3 (gh T) #[_,rfl,rdG o3 (kW T) (cj (.inl (.inl X3.l.o)) #[_,_,rfl,rfl,_,_,rfl,rfl,eY tb_g% (by rw[aC];lia),_,_,rfl,rfl,?_])]]]]];have bb:(x.ov+x.un)*x.r<=x.tt*(((x.bs.map V.ref).length:Int)-1):=by rw[aC,n];exact S.b.resolve_right h
   show Q (.bl (decide ((x.ov+x.un)*x.r<=x.tt*(((x.bs.map V.ref).length:Int)-1)))) G;rw[decide_eq_true bb];exact q G (s1.trans sG)
  ·rintro σ H R R' hq ⟨v,e,w,e2,a,p,x,l,lo,hi,en,h1,h2,h3,h4,h5,h6,h7,h8,q⟩;show#[v,e,w,e2,a,p,x,l,lo,hi,en,h1,h2,h3,h4,h5,h6,h7,h8,fun H' s=>hq _ _ (q H' s)]
def Pl(c k:Int):Int->List WN.Box->Prop
 |_,[]=>True
 |a,b::r=>a<b.f/\b.f<=b.l/\1<=b.s/\b.l<=c/\c-k<b.l/\Pl c k b.l r
def Su(r:Int):Int->Int->List WN.Box->Prop
 |_,_,[]=>True
 |nw,nb,b::q=>(b.f=b.l\/b.s*r<=nw)/\nw-nb<(b.s+nb)*r/\Su r (nw+b.s) b.s q
theorem aqh{ps:List Bp}{i:Nat}{v:V}(h:(ps.map fun p=>V.ref p.1)[i]? = some v):∃p,ps[i]? = some p/\v=.ref p.1:=by
 rw[dF,j6]at h;obtain⟨p,hp,rfl⟩:=h;show#[p,hp,rfl]
theorem agB{ps:List Bp}{i:Nat}{p:Bp}(h:ps[i]? = some p):(bx ps).drop i=p.2::(bx ps).drop (i+1):=by
 have l:=(fu.mp h).1;have e:(bx ps)[i]? = some p.2:=by unfold bx;rw[dF,h];rfl
 rw[Mp (by rwa[g8])];congr 1;exact(fu.mp e).2
def spPla(A:Ad):Sp:=fun vs H Q _=>Ex7 fun(p dx l:Addr) (r k c:Int) (ps:List Bp)=>z7 (vs=[.ref p]) (Wn A H p dx l r k c ps) (Pl c k 0 (bx ps)) (Q (.bl true) H)
theorem Lf(T:Tx K mg A):FnK P w base T.pU CX0 1 (spPla A):=by
 k_dat (T.pU,T.pU.ok,wR) "f"
 ·obtain⟨p,dx,l,r,k,c,ps,rfl,hw,pl,q⟩:=h;have o:=hw.o;show#[_,by k_dat ([fM],[wR.nd],[]) "p",?_]
  k_dat lq "c"
  show#[_,rfl,rdG o (zu T) #[l,rfl,#[_,.inl (.inl hw.b.l)],o9 (K:=K) (a:=l) (xs:=ps.map fun p=>V.ref p.1) (fun i σ G=>Ex4 fun(a:Int) (y2 y3 y4:Option V)=>tD (σ=[some (.ref p),some (.int a),y2,y3,y4]) (Pl c k a ((bx ps).drop i)) (G=H)) #[0,none,none,none,rfl,pl,rfl] (fun i σ G _ h=>by obtain⟨_,_,_,_,_,_,e⟩:=h;rw[e];exact .inl (.inl hw.b.l)) ?_ ?_]]
  ·rintro i v σ G hi ⟨a,y2,y3,y4,rfl,pa,rfl⟩
   k_dat (b,hb,aqh,hi) "G"
   rw[agB hb]at pa;obtain⟨p1,p2,p3,p4,p5,p6⟩:=pa;have ht:=hw.b.t b (xj hb);unfold bt at ht;show#[b.1,_,rfl,.inl (.inl ht),rfl,_,_,rfl,_,_,rfl,_,_,rfl,rfl,?_]
   k_dat lq "c"
   show#[_,rfl,_,rfl,_,_,rfl,rfl,_,rfl,cD (fun z=>absurd (of_decide_eq_true z) tb_g%) fun _=>?_];show#[_,rfl,_,rfl,_,_,rfl,rfl,_,rfl,cD (fun z=>absurd (of_decide_eq_true z) tb_g%) fun _=>?_];show#[_,rfl,_,_,rfl,rfl,_,rfl,cD (fun z=>absurd (of_decide_eq_true z) tb_g%) fun _=>?_];show#[_,rfl,_,rfl,rdG o (kY T) #[_,_,rfl,rfl,_,rfl,cD (fun z=>absurd (of_decide_eq_true z) tb_g%) fun _=>?_]];show#[_,rfl,_,rfl,rdG o (kY T) #[_,rfl,rdG o (abB T) #[_,_,rfl,rfl,_,_,rfl,rfl,_,rfl,cD (fun z=>absurd (of_decide_eq_true z) tb_g%) fun _=>?_]]];show#[_,rfl,_,_,_,_,rfl,p6,rfl]
  ·rintro σ G ⟨a,y2,y3,y4,rfl,_,rfl⟩;exact q
def spSum(A:Ad):Sp:=fun vs H Q _=>Ex7 fun(p dx l:Addr) (r k c:Int) (ps:List Bp)=>KQ (vs=[.ref p]) (Wn A H p dx l r k c ps) (Su r 0 0 (bx ps).reverse) (0<=r) (r<=64) (Q (.bl true) H)
theorem Tv(T:Tx K mg A):FnK P w base T.v7 CX0 1 (spSum A):=by
 k_dat (T.v7,T.v7.ok,Ao) "f"
 ·obtain⟨p,dx,l,r,k,c,ps,rfl,hw,su,r0,r64,q⟩:=h;have o:=hw.o;show#[_,by k_dat ([],[Ao.nd,aeG rfl T.pY ?_],[]) "p",?_]
  k_dat lq "c"
  show#[_,rfl,rdG o (zu T) #[l,_,rfl,.inl (.inl hw.b.l),X6 (K:=K) (a:=l) (xs:=ps.map fun b:Bp=>V.ref b.1) (fun i σ G=>Ex5 fun(nw nb:Int) (y3 y4 y5:Option V)=>tD (σ=[some (.ref p),some (.int nw),some (.int nb),y3,y4,y5]) (Su r nw nb ((bx ps).reverse.drop i)) (G=H)) #[0,0,none,none,none,rfl,su,rfl] (fun i σ G _ h=>by obtain⟨_,_,_,_,_,_,_,e⟩:=h;rw[e];exact .inl (.inl hw.b.l)) ?_ ?_]]
  ·rintro i v σ G hi ⟨nw,nb,y3,y4,y5,rfl,sa,rfl⟩;rw[<-xG]at hi
   k_dat (b,hb,aqh,hi) "G"
   have e:=agB hb;rw[show bx ps.reverse=(bx ps).reverse from xG]at e;rw[e]at sa;obtain⟨p1,p2,p3⟩:=sa;have ht:=hw.b.t b (qX.mp (xj hb));unfold bt at ht;show#[b.1,_,rfl,.inl (.inl ht),rfl,_,_,rfl,_,_,rfl,_,_,rfl,rfl,?_]
   k_dat lq "c"
   refine sq fun R hR=>?_;have K1:R [some (.ref p),some (.int nw),some (.int nb),some (.int b.2.f),some (.int b.2.l),some (.int b.2.s)] G:=hR _ _ (by
    show#[_,rfl,_,rfl,_,_,rfl,rfl,_,rfl,rdG o (Y9 T) #[_,_,rfl,rfl,eY tb_g% tb_g%,_,rfl,_,rfl,_,_,rfl,rfl,_,_,rfl,rfl,_,rfl,cD (fun z=>absurd (of_decide_eq_true z) (by show ¬ (b.2.s+nb)*r<=nw-nb;lia)) fun _=>?_]];show#[_,rfl,_,rfl,_,_,rfl,rfl,_,rfl,_,_,_,_,_,rfl,p3,rfl])
   show#[_,rfl,_,rfl,rfl,_,rfl,cD (fun z=>?_) fun _=>K1];have ne:b.2.f≠b.2.l:=fun e=>by rw[e,decide_eq_true rfl]at z;cases z
   show#[_,rfl,_,rfl,rdG o (Y9 T) #[_,_,rfl,rfl,eY tb_g% tb_g%,_,rfl,_,_,rfl,rfl,_,rfl,cD (fun z=>absurd (of_decide_eq_true z) (by show ¬ b.2.s*r>nw;have:=p1.resolve_left ne;lia)) fun _=>K1]]
  ·rintro σ G ⟨nw,nb,y3,y4,y5,rfl,_,rfl⟩;exact q
def spSW(A:Ad):Sp:=fun vs H Q _=>Ex7 fun(p dx l:Addr) (r k c:Int) (ps:List Bp)=>abA (vs=[.ref p]) (Wn A H p dx l r k c ps) (Pl c k 0 (bx ps)) (Su r 0 0 (bx ps).reverse) (0<=r) (r<=64) (Q (.bl true) H)
theorem Lh(T:Tx K mg A):FnK P w base T.pW CX0 2 (spSW A):=by
 k_dat (T.pW,T.pW.ok,KN) "f"
 ·obtain⟨p,dx,l,r,k,c,ps,rfl,hw,pl,su,r0,r64,q⟩:=h;show#[_,by k_dat ([],[aB (Lf T) ?_,aB (Tv T) ?_],[]) "p",?_];show#[_,rfl,p,dx,l,r,k,c,ps,rfl,hw,pl,_,rfl,JL #[_,rfl,p,dx,l,r,k,c,ps,rfl,hw,su,r0,r64,q]]
def spSD(A:Ad):Sp:=fun vs H Q _=>Ex7 fun(p dx l:Addr) (r n v:Int) (ks:List Int)=>Ep (vs=[.ref p]) (Dn A H p dx l r n v ks) (v<=60) (ks.Pairwise (· < ·)) ((∀k∈ks,k<1152921504606846976/\∀h:Nat,tE (k*770093176312745717 % 1152921504606846976) h->v<=h)) ((ks.length:Int)<=r) (r<=64) (tD ((v=0->(ks.length:Int)<=n)) ((v≠0->r+1<=n)) (∀H',Same H H'->Q (.bl true) H'))
theorem Fv(T:Tx K mg A):FnK P w base T.jL CX0 3 (spSD A):=by
 k_dat (T.jL,T.jL.ok,qQ) "f"
 ·obtain⟨p,dx,l,r,n,v,ks,rfl,hd,v60,up,mo,lr,r64,f0,f1,q⟩:=h;have o:=hd.o;have hl:=hd.l;obtain⟨_,Zz,ZC⟩:=T.Y0;show#[_,by k_dat ([fM,Oz],[qQ.nd,aB (uH T) ?_,cV (zQ rfl) (by rfl) T.agn WY ?_],[dU (v:=.int 60) rfl Zz ZC,ug [("distinct",s.heap.objs.size+1)] ["thing","distinct"] [0] (te:=(tOp _ _ (alA K _ "level"))) ?_ (fun _ _ _ _=>jU) (fun _ _ _ _=>(Du alv (aB (Zc T) (aM (pv 0) cR)) (pf 1) (vB _)))]) "p",?_]
  k_dat lq "c"
  show#[_,rfl,rdG o (jM T) #[_,_,rfl,rfl,_,rfl,cD (fun z=>absurd (of_decide_eq_true z) tb_g%) fun _=>?_]];show#[_,rfl,rdG o (wu T) #[l,ks,rfl,hl,up,fun k m=>(mo k m).1,by lia,fun H1 s1=>#[_,rfl,qm ?_]]];have o1:=s1 _ _ o;have l1:=s1 _ _ hl;show#[_,rfl,rdG o1 (wu T) (cj (.inl (.inl l1)) #[_,rfl,rdG o1 (Zd T) #[_,_,rfl,rfl,_,rfl,cD (fun e=>absurd (of_decide_eq_true e) (by rw[aC];lia)) fun _=>?_]])];show#[_,rfl,rdG o1 (wu T) #[l,rfl,#[_,.inl (.inl l1)],fun D hD=>?_]];refine iK (K:=K) (a:=l) (xs:=ks.map V.int) (fun i ys G=>i<=ks.length/\ys=gY i (V.bl true)/\G D=some (.lst ys)/\Same H1 G) #[cJ _,rfl,aj,Same.new hD] ?_ ?_ ?_ ?_
  ·rintro i ys G hi ⟨il,rfl,gD,sG⟩;show#[.inl (.inl (sG _ _ l1)),gD,aQ (by rw[Df];lia)]
  ·rintro i ys G x hx ⟨il,rfl,gD,sG⟩
   k_dat (k,hi,int_at,hx) "G"
   have li:=(fu.mp hi).1;show#[_,rfl,k,rfl,fun h mh=>#[_,rfl,rdG (sG _ _ o1) (jM T) #[_,_,rfl,rfl,gD,li,?_,aj,fun b o e=>by rw[ao (ak e hD)];exact sG b o e]]];have ge:=(mo k (xj hi)).2 h mh;show gY i (V.bl true)++[V.bl (decide ((h:Int)>=v))]=_;rw[decide_eq_true ge,Vt]
  ·rintro ys G ⟨_,rfl,gD,sG⟩;have al:∀k,(gY k true).all id=true:=fun k=>by simp
   have o2:=sG _ _ o1;show#[D,gY _ true,rfl,.inl (.inl (by rwa[acn])),?_];rw[al];show#[_,rfl,qm ?_];show#[_,rfl,rdG o2 (jM T) #[rfl,_,rfl,cD (fun z=>?_) (fun z=>?_)]]
   ·have z:v=0:=V.int.inj (of_decide_eq_true z);show#[_,rfl,rdG o2 (wu T) (cj (.inl (.inl (sG _ _ l1))) ?_)];show#[_,rfl,rdG o2 (qR T) #[_,rfl,_,_,rfl,rfl,?_]];show Q (.bl (decide (n>=((ks.map V.int).length:Int)))) G;rw[decide_eq_true (by have:=f0 z;rw[aC];lia)];exact q G (s1.trans sG)
   ·have z:v≠0:=fun e=>z (decide_eq_true (congrArg V.int e));show#[_,rfl,rdG o2 (Zd T) #[_,_,rfl,rfl,?_]];show#[_,rfl,rdG o2 (qR T) #[_,rfl,_,_,rfl,rfl,?_]];show Q (.bl (decide (n>=r+1))) G;rw[decide_eq_true (f1 z)];exact q G (s1.trans sG)
  ·exact zP (by rintro σ H R R' hq ⟨v,e,c,ec,q⟩;show#[v,e,c,ec,fun h mh=>hq _ _ (q h mh)]) (Pr (eE 1))
open MK
theorem ZD{α β:Type}(f:α->β):∀l:List α,(ju l.length).filterMap (fun i=>l[i]?.map f)=l.map f
 |[]=>rfl
 |a::l=>by
  rw[bh,acg,wA];show f a::_=_;rw[FT];exact congrArg (f a :: ·) (ZD f l)
theorem anP{α:Type}{xs:List α}{k lo:Nat}{m:Nat}(hb:(jr (some (lo:Int)) none (some (k:Int)) xs.length)=(min (lo:Int) xs.length,(xs.length:Int),(k:Int)))(k0:0<k)
  (hc:(if min (lo:Int) xs.length<xs.length then((xs.length:Int)-min (lo:Int) xs.length+k-1) / k else 0).toNat=m) (hm:0<m->(lo:Int)<=xs.length):vK k xs (some (lo:Int)) none=(ju m).filterMap fun j=>xs[lo+k*j]?:=by
 unfold vK;rw[hb];unfold Ni;dsimp only;rw[if_pos tb_g%,hc,FT];have fm:∀(ks:List Nat)(f g:Nat->Option α),(∀k∈ks,f k=g k)->ks.filterMap f=ks.filterMap g:=by
  intro ks f g
  induction ks with
  |nil=>intro _;rfl
  |cons k r ih =>
   intro h;rw[wA,wA,h k bV,ih fun j hj=>h j (cB _ hj)]
 refine fm _ _ _ fun j hj=>?_;have hj:=Mz.mp hj;have h1:=hm tb_g%;show xs[(min (lo:Int) xs.length+k*(j:Int)).toNat]? = _;rw[show min (lo:Int) xs.length=lo by lia,show((lo:Int)+k*(j:Int)).toNat=lo+k*j by rw[<-adh];lia]
theorem aqi{α:Type}{xs:List α}{lo m:Nat}(h:xs.length=2+2*m)(hl:lo=2\/lo=3):vK 2 xs (some (lo:Int)) none=(ju m).filterMap fun j=>xs[lo+2*j]?:=by
 refine anP (k:=2) ?_ tb_g% ?_ tb_g%
 ·rcases hl with rfl|rfl <;> simp[jr] <;> lia
 ·split
  ·rcases hl with rfl|rfl <;> lia
  ·rcases hl with rfl|rfl <;> lia
theorem cut_3{α:Type}{xs:List α}{lo m:Nat}(h:xs.length=1+3*m)(hl:lo=1\/lo=2\/lo=3):vK 3 xs (some (lo:Int)) none=(ju m).filterMap fun j=>xs[lo+3*j]?:=by
 refine anP (k:=3) ?_ tb_g% ?_ tb_g%
 ·rcases hl with rfl|rfl|rfl <;> simp[jr] <;> lia
 ·split
  ·rcases hl with rfl|rfl|rfl <;> lia
  ·rcases hl with rfl|rfl|rfl <;> lia
theorem anQ:∀(c:Tab)(j:Nat),(pN c)[2*j]? = c[j]?.map (·.1)/\(pN c)[2*j+1]? = c[j]?.map (·.2)
 |[],j=>#[rfl,rfl]
 |p::c,0=>#[rfl,rfl]
 |p::c,j+1=>anQ c j
theorem abT:∀(a c:Tab),(keys (a++c)).Nodup->((keys c).zip ((vals c).map V.int)).foldl (fun d p=>putK d (Sum.inl p.1:Key) p.2) (emb a)=emb (a++c)
 |a,[],_=>by rw[iH];rfl
 |a,p::c,h=>by
  have e:a++p::c=(a++[(p.1,p.2)])++c:=by rw[dO];rfl
  have hp:p.1∉keys a:=by
   unfold keys at h ⊢;rw[bG,FW]at h;intro m;exact h.2.2 p.1 m p.1 bV rfl
  show((keys c).zip ((vals c).map V.int)).foldl _ (putK (emb a) (Sum.inl p.1) (.int p.2))=_;rw[Pa,Dz hp,e];exact abT (a++[(p.1,p.2)]) c (by rwa[<-e])
theorem uI{ns:List Int}(h:∀n∈ns,0<=n):(ns.map rC).map wN=ns.map fun n=>V.str (sI n):=by
 rw[fj];refine wB fun n m=>?_;show V.str (Dec.tx (Dec.dg n.toNat))=V.str (sI n);rw[<-Dec.jV,GQ (h n m)];rfl
theorem zA{ns:List Int}(h:∀n∈ns,0<=n):((ns.map rC).map fun n:Nat=>V.int n)=ns.map V.int:=by
 rw[fj];exact wB fun n m=>congrArg V.int (GQ (h n m))
def spRK(A:Ad):Sp:=fun vs H Q E=>Ex2 fun(a:Addr) (l:Int)=>vs=[.ref a,.int l]/\((∃r c p:Nat,H a=some (.lst [wN r,wN c,wN p])/\r % 2=0/\2<=r/\r<=64/\1<=c/\c<=1000000000/\1<=p/\p<=1000000000/\∀(x:KS)(H':Hp),Kp A H' x->Eqp x (K0 r c p)->(∀b∈x.all,H b=none)->(∀b∈x.ems,H b=none)->Same H H'->Q (.ref x.k) H')\/(Bl H a\/∃ns:List Nat,H a=some (.lst (ns.map wN))/\(∀n∈ns,n<10 ^ 60)/\ns.length<=900/\ns.length≠3)/\Bt A l E (Same H))
theorem ZF(T:Tx K mg A):FnK P w base T.za (CXE P w) 10 (spRK A):=by
 k_dat (T.za,T.za.okE,Eo) "a"
 ·obtain⟨_,_,rfl,_⟩:=h;rfl
 ·obtain⟨a,l,rfl,h⟩:=h;show#[_,by k_dat ([],[Eo.nd,aB (Zx T) ?_,pC T.adY T.QD (uG T) ?_],[]) "p",?_];rcases h with⟨r,c,p,ha,h1,h2,h3,h4,h5,h6,h7,q⟩|h;rotate_left
  ·show#[_,rfl,_,rfl,a,l,rfl,.inr h]
  show#[_,rfl,_,rfl,a,l,rfl,.inl #[r,c,p,ha,h1,h2,h3,h4,h5,h6,h7,fun D G hD sG gD=>?_]];have sD:SqL K G D [.int r,.int c,.int p]:=.inl (.inl gD);show#[_,rfl,cH sD (v:=.int r) rfl #[_,rfl,cH sD (v:=.int c) rfl #[_,rfl,cH sD (v:=.int p) rfl fun k dk n1 n2 n3=>#[k,dk,r,c,p,rfl,aj,h2,h3,h1,fun y H2 kp eqy ek hpts hems bt=>#[rfl,?_]]]]];have up2:Same G (upd (upd G dk (.own k)) k (.ins A.C'5 dk [])):=fun b o e=>by rwa[ao (ak e n1),ao (ak e n2)]
  rw [<- ek];exact q y H2 kp eqy (fun b m=>by
   rcases aO.mp (show b∈y.k::y.pts from m)with z|z
   ·rw[z,ek];exact sG.free n1
   ·exact sG.free (up2.free (hpts b z))) (fun b m=>sG.free (up2.free (hems b m))) (sG.trans fun b o e=>bt b o (up2 b o e) (ak e n1))
theorem jq{H:Hp}{p C e D:Addr}{fs:List (Str × V)}{vs:List V}{o:HO}(hp:H p=some (.ins C e fs))(hD:H D=some (.lst vs)):(upd H p o) D=some (.lst vs):=by
 rwa[ao (jd hD hp (by intro z;cases z))]
theorem Fx{ns:List Int}(h:∀n∈ns,0<=n/\n<10 ^ 60):∀n∈ns.map rC,n<10 ^ 60:=fun n m=>by
 k_dat (k,mk,cX.mp,m) "G"
 have:=h k mk;lia
def spRF(A:Ad):Sp:=fun vs H Q E=>Ex3 fun(f:Fq) (a:Addr) (ln:Int)=>vs=[.ref f.p,.ref a,.int ln]/\((∃(c:Tab)(t l:Int)(room:Nat),tG A H room f/\H a=some (.lst (([t,l]++pN c).map fun n=>V.str (sI n)))/\(∀n∈[t,l]++pN c,0<=n/\n<10 ^ 60)/\(keys c).Pairwise (· < ·)/\(∀k∈keys c,k<1152921504606846976)/\(∀p∈c,1<=p.2)/\c.length<=room/\room<=64/\(vals c).sum+((room:Int)+1)*l<=t/\∀d H',tG A H' room #[f.p,f.dx,d,t,l,c]->But f.p H H'->Q .non H')\/(Bl H a\/∃ns:List Nat,H a=some (.lst (ns.map wN))/\(∀n∈ns,n<10 ^ 60)/\ns.length<=900/\ns.length % 2=1)/\Bt A ln E (Same H))
theorem Jb(T:Tx K mg A):FnK P w base T.mG (CXE P w) 9 (spRF A):=by
 k_dat (T.mG,T.mG.okE,ux) "a"
 ·obtain⟨_,_,_,rfl,_⟩:=h;rfl
 ·obtain⟨f,a,l,rfl,h⟩:=h;show#[_,by k_dat ([HW],[ux.nd,aB (gn T) ?_,aB (jX T) ?_,aeQ rfl rfl T.anc rfl T.ang ?_,aB (Ft T) ?_],[]) "p",?_];rcases h with⟨c,t0,l0,room,hf,ha,hn,up,mo,pos,lr,r64,hs,q⟩|⟨hb,q⟩;rotate_left
  ·rcases hb with hb|⟨ns,ha,hb,hn,odd⟩
   ·show#[_,rfl,_,rfl,.inr #[a,l,rfl,hb,q]]
   ·show#[_,rfl,_,rfl,.inl #[a,ns,l,rfl,ha,hb,hn,fun D G hD sG gD=>?_]];have sD:SqL K G D (ns.map fun n:Nat=>V.int n):=.inl (.inl gD);show#[_,rfl,cj sD #[_,_,rfl,rfl,_,rfl,cD (fun _=>?_) fun _=>#[_,rfl,l,false,rfl,q.same sG]]];show#[_,rfl,cj sD #[_,_,rfl,rfl,(by show(0:Int)<2;decide),rfl,_,rfl,l,false,?_,q.same sG]];rw[decide_eq_false (by rw[aC];intro z;have:=V.int.inj z;lia)];rfl
  have n0:∀n∈[t0,l0]++pN c,0<=n:=fun n m=>(hn n m).1;have nl:([t0,l0]++pN c).length=2+2*c.length:=by rw[bB,jO];rfl
  have nd:(keys c).Nodup:=up.imp fun h e=>by lia
  show#[_,rfl,_,rfl,.inl #[a,([t0,l0]++pN c).map rC,l,rfl,by rwa[uI n0],Fx hn,by rw[aC,nl];lia,fun D G hD sG gD=>?_]];rw[zA n0]at gD
  k_dat lqg "c"
  have sD:SqL K G D (([t0,l0]++pN c).map V.int):=.inl (.inl gD);have vl:((([t0,l0]++pN c).map V.int).length:Int)=2+2*(c.length:Int):=by rw[aC,nl];lia
  show#[_,rfl,cj sD #[_,_,rfl,rfl,_,rfl,cD (fun _=>?_) fun z=>absurd (decide_eq_true tb_g%) z]];show#[_,rfl,cj sD #[_,_,rfl,rfl,(by show(0:Int)<2;decide),rfl,_,rfl,l,true,?_,?_]]
  ·rw[decide_eq_true (congrArg V.int (show((([t0,l0]++pN c).map V.int).length:Int) % 2=0 by rw[vl];lia))];rfl
  have o:=sG _ _ hf.o;have b:=sG.but f.p;show#[_,rfl,cH sD (v:=.int t0) (cZ (j:=0) rfl) #[_,rfl,f.p,_,f.dx,_,rfl,o,T.yU,T.Ve,tb_g%,?_]];rw[agt];have g1:=jq (o:=.ins A.C'3 f.dx (fl room t0 f.l f.d)) o gD;show#[_,rfl,cH (.inl (.inl g1)) (v:=.int l0) (cZ (j:=1) rfl) #[_,rfl,f.p,_,f.dx,_,rfl,aj,T.yU,T.Vf,tb_g%,?_]];rw[cC,agu];have g2:=jq (o:=.ins A.C'3 f.dx (fl room t0 l0 f.d)) o gD;have o2:(upd G f.p (.ins A.C'3 f.dx (fl room t0 l0 f.d))) f.p=some (.ins A.C'3 f.dx (fl room t0 l0 f.d)):=aj;replace b:=b.trans (But.upd (p:=f.p) (H:=G) (o:=.ins A.C'3 f.dx (fl room t0 l0 f.d)));generalize upd G f.p (.ins A.C'3 f.dx (fl room t0 l0 f.d))=G2 at g2 o2 b ⊢;have c2:vK 2 (([t0,l0]++pN c).map V.int) (some 2) none=(keys c).map V.int:=by
   rw[show(some 2:Option Int)=some ((2:Nat):Int)from rfl,aqi (m:=c.length) (by rwa[aC]) (.inl rfl)];have e:(fun j=>((([t0,l0]++pN c).map V.int)[2+2*j]?:Option V))=fun j=>c[j]?.map fun p=>V.int p.1:=by
    funext j
    rw[dF,show 2+2*j=2*j+1+1 by lia];show((pN c)[2*j]?).map V.int=_;rw[(anQ c j).1,adv];rfl
   rw[e,ZD];unfold keys;rw[fj];rfl
  have c3:vK 2 (([t0,l0]++pN c).map V.int) (some 3) none=(vals c).map V.int:=by
   rw[show(some 3:Option Int)=some ((3:Nat):Int)from rfl,aqi (m:=c.length) (by rwa[aC]) (.inr rfl)];have e:(fun j=>((([t0,l0]++pN c).map V.int)[3+2*j]?:Option V))=fun j=>c[j]?.map fun p=>V.int p.2:=by
    funext j
    rw[dF,show 3+2*j=2*j+1+1+1 by lia];show((pN c)[2*j+1]?).map V.int=_;rw[(anQ c j).2,adv];rfl
   rw[e,ZD];unfold vals;rw[fj];rfl
  show#[_,rfl,2,rfl,2,rfl,2,rfl,by decide,D,_,rfl,.inl (.inl g2),fun t ht=>?_];rw[c2]
  k_dat (nwA ht,G3,sT,t2) "n"
  show#[_,rfl,_,rfl,3,rfl,2,rfl,2,rfl,by decide,D,_,rfl,.inl (.inl (sT _ _ g2)),fun u hu=>?_];rw[c3]
  k_dat (nwA hu,G4,sU,u2) "n"
  show#[t,u,keys c,_,rfl,sU _ _ t2,u2,by rw[aC];unfold keys vals;rw[aC,aC],fun d hd=>?_];rw[show zPut (keys c) ((vals c).map V.int)=emb c from abT [] c nd]
  k_dat (nwA hd,G5,sE,d2) "n"
  have s5:=sT.trans (sU.trans sE);show#[_,rfl,f.p,_,f.dx,_,rfl,s5 _ _ o2,T.yU,T.Vg,tb_g%,?_];rw [agv];have o6:tG A (upd G5 f.p (.ins A.C'3 f.dx (fl room t0 l0 d))) room #[f.p,f.dx,d,t0,l0,c]:=#[aj,by
   show (upd G5 f.p _) d=some (.dK (emb c));rw [ao (jd d2 (s5 _ _ o2) (by intro z;cases z))];exact d2]
  have t6:=jq (o:=.ins A.C'3 f.dx (fl room t0 l0 d)) (s5 _ _ o2) ((sU.trans sE) _ _ t2);replace b:=(b.trans (s5.but f.p)).trans (But.upd (p:=f.p) (H:=G5) (o:=.ins A.C'3 f.dx (fl room t0 l0 d)));generalize upd G5 f.p (.ins A.C'3 f.dx (fl room t0 l0 d))=G6 at o6 t6 b ⊢;have lv:(keys c).map (low c)=vals c:=by
   unfold keys vals;rw[fj];exact wB fun p m=>jF nd m
  show#[_,rfl,_,rfl,#[f.p,f.dx,d,t0,l0,c],t,room,keys c,rfl,o6,t6,up,fun k m=>#[mo k m,m,by
   k_dat (p,mp,cX.mp,m) "G"
   rw [jF nd mp];exact pos p mp],by unfold keys;rw [aC];exact lr,r64,by rw [lv];exact hs,fun H' s'=>#[_,rfl,l,true,rfl,q d H' (o6.same s') (b.trans (s'.but f.p))]]
theorem share{α:Type}(C:α->Prop){G:α->Prop}{R:Prop}(f:(∀x,C x->G x)->R)(k:∀x,C x->G x):R:=f k
theorem JF(n:Int)(h:0<=n):sI n≠sl1:=by
 unfold sI;rw[show n=(n.toNat:Int) by lia,Dec.jV,show sl1=#[[47].toArray] by decide +kernel];exact wN_ne tb_g%
structure Rl(y:Rs):Prop where
 n:∀n∈rN y,0<=n/\n<10 ^ 60
 l:∀l∈y.ls,(∀n∈l,0<=n/\n<10 ^ 60)/\l.length<=900
 z:y.tt=0->y.mi=none/\y.ma=none
 f:(rT y).length<=9000
 s:Sr y
theorem Rl.prt{y:Rs}(h:Rl y):prt [] (rT y)=(rN y).map sI::y.ls.map (·.map sI):=by
 unfold rT rW;have f1:∀w∈(rN y).map sI,w≠sl1:=fun w m=>by
  k_dat (n,mn,cX.mp,m) "G"
  exact JF n (h.n n mn).1
 have e:(y.ls.flatMap fun l=>aD "/" :: l.map sI)=(y.ls.map (·.map sI)).flatMap fun g=>sl1::g:=by rw[aiv]
 rw[kZ f1,nM,e,Dc];intro g m w mw
 k_dat (l,ml,cX.mp,m) "G"
 k_dat (n,mn,cX.mp,mw) "G"
 exact JF n ((h.l l ml).1 n mn).1
def rgO(A:Ad)(x:Rs)(y:Rs)(a:Addr):HO:=.ins A.C'0 x.dx (rg (.int x.r) (.int y.tt) (.int y.ov) (.int y.un) (.int y.tn) (oV y.mi) (oV y.ma) (.ref a))
def Bg(g:List Str):Prop:=∃(ns:List Nat)(w:Str)(r:List Str),g=ns.map (fun n=>Dec.tx (Dec.dg n))++w::r/\(∀n∈ns,n<10 ^ 60)/\ns.length<=900/\Bw w
theorem Bg.bl{g:List Str}{H:Hp}{a:Addr}(h:Bg g)(e:H a=some (.lst (g.map V.str))):Bl H a:=by
 obtain⟨ns,w,r,rfl,z⟩:=h;show#[ns,w,r.map V.str,?_,z];rw[e,bG,fj];rfl
structure Rq(y:Rs):Prop where
 l:∀l∈y.ls,(∀n∈l,0<=n/\n<10 ^ 60)/\l.length<=900
 z:y.tt=0->y.mi=none/\y.ma=none
 w:y.tt≠0->∃lo hi,y.mi=some lo/\y.ma=some hi
 k:y.ls.length<=900
theorem Rl.rq{y:Rs}(h:Rl y):Rq y:=#[h.l,h.z,fun z=>by obtain⟨_,_,lo,hi,a,b,_⟩:=h.s.n z;show#[lo,hi,a,b],h.s.l]
def spRR(A:Ad):Sp:=fun vs H Q E=>Ex5 fun(p:Addr) (x:Rs) (a:Addr) (l:Int) (ws:List Str)=>KQ (vs=[.ref p,.ref a,.int l]) (RnX A H p x) ((x.mi=none/\x.ma=none)) (H a=some (.lst (ws.map V.str))) (ws.length<=9000) (((∃g gs,prt [] ws=g::gs/\Bg g/\Bt A l E (Same H))\/∃(y:Rs) (gs:List (List Str)),prt [] ws=(rN y).map sI::gs/\(∀n∈rN y,0<=n/\n<10 ^ 60)/\((y.tt=0/\(rN y).length=5/\Bt A l E (But p H))\/∃tl,gs=y.ls.map (·.map sI)++tl/\y.r=x.r/\Rq y/\((tl=[]/\Sr y/\∀d bs H',H d=none->(∀b∈bs,H b=none)->RnX A H' p #[x.dx,d,bs,y.r,y.tt,y.ov,y.un,y.tn,y.mi,y.ma,y.ls]->But p H H'->Q .non H')\/((tl=[]/\Sx y\/∃g gs,tl=g::gs/\Bg g)/\Bt A l E (But p H))))))
theorem Tw(T:Tx K mg A):FnK P w base T.v8 (CXE P w) 9 (spRR A):=by
 k_dat (T.v8,T.v8.okE,Aq) "a"
 ·obtain⟨_,_,_,_,_,rfl,_⟩:=h;rfl
 ·obtain⟨p,x,a,l,ws,rfl,hx,⟨e1,e2⟩,ha,lw,h⟩:=h;show#[_,by k_dat ([Oz,fM],[Aq.nd,aB (ah1 T) ?_,aB (gn T) ?_,aB (jX T) ?_,aB (Rp T) ?_],[HN xwUp [("line",s.heap.objs.size+1)] ["group","line"] [2] ?_ (fun _ _ _ _=>jU) (fun _ _ _ _=>(aB (gn T) (aM (pv 0) (aM (pv 1) cR))))]) "p",?_];show#[_,rfl,a,ws,rfl,ha,lw,fun G0 ds H1 s1 g1 d1 ep=>?_];rcases h with⟨g,gs,e0,bg,q⟩|⟨y,gs,e0,Ln,h⟩
  ·rw[e0]at ep;obtain⟨⟨D0,w0⟩,ds,rfl⟩:∃z zs,ds=z::zs:=by
    cases ds with
    |nil=>cases ep
    |cons z zs=>show#[z,zs,rfl]
   obtain rfl:w0=g:=(Oc ep).1;show#[_,rfl,cH (.inl (.inl g1)) (v:=.ref D0) (cZ (j:=0) rfl) #[_,rfl,.inr #[D0,l,rfl,bg.bl (d1 _ bV),q.same s1]]]
  have n0:∀n∈rN y,0<=n:=fun n m=>(Ln n m).1;have nle:(rN y).length<=6:=by
   unfold rN;cases y.mi <;> cases y.ma <;> (show _<=6;simp)
  rw[e0]at ep
  k_dat lqg "c"
  obtain⟨⟨D0,w0⟩,ds,rfl⟩:∃z zs,ds=z::zs:=by
   cases ds with
   |nil=>cases ep
   |cons z zs=>show#[z,zs,rfl]
  rw[cP]at ep;injection ep with ew ep;have ew:w0=(rN y).map sI:=ew;subst ew;have hD0:H1 D0=some (.lst ((rN y).map fun n=>V.str (sI n))):=by
   have:=d1 (D0,(rN y).map sI) bV;rwa[fj]at this
  show#[_,rfl,cH (.inl (.inl g1)) (v:=.ref D0) (cZ (j:=0) rfl) #[_,rfl,.inl #[D0,(rN y).map rC,l,rfl,by rwa[uI n0],Fx Ln,by rw[aC];lia,fun D G hD sG gD=>?_]]];rw[zA n0]at gD;have sD:SqL K G D ((rN y).map V.int):=.inl (.inl gD);have l4:4<=(rN y).length:=by unfold rN;rw[bB];show 4<=4+_;lia
  show#[_,rfl,cj sD #[_,_,rfl,rfl,_,rfl,l,true,?_,?_]]
  ·show[V.bl (decide ((((rN y).map V.int).length:Int)>=4)),_]=_;rw[decide_eq_true (by rw[aC];lia)]
  have g1:=sG _ _ g1;have s1:=s1.trans sG;have o:=s1 _ _ hx.o;rw[e1,e2]at o;have b:=s1.but p;show#[_,rfl,cH (.inl (.inl gD)) (v:=.int y.tt) (cZ (j:=0) rfl) #[_,rfl,p,_,x.dx,_,rfl,o,T.gO,T.U4,tb_g%,?_]];rw[Es];show#[_,rfl,cH (.inl (.inl (jq o gD))) (v:=.int y.ov) (cZ (j:=1) rfl) #[_,rfl,p,_,x.dx,_,rfl,aj,T.gO,T.U5,tb_g%,?_]];rw[cC,Jx];show#[_,rfl,cH (.inl (.inl (jq o gD))) (v:=.int y.un) (cZ (j:=2) rfl) #[_,rfl,p,_,x.dx,_,rfl,aj,T.gO,T.U6,tb_g%,?_]];rw[cC,Et];show#[_,rfl,cH (.inl (.inl (jq o gD))) (v:=.int y.tn) (cZ (j:=3) rfl) #[_,rfl,p,_,x.dx,_,rfl,aj,T.gO,T.Qz,tb_g%,?_]];rw[cC,wg]
  k_dat lqn "c"
  have nz:(upd G p (rgO A x {y with mi:=none,ma:=none} x.a)) p=some (rgO A x {y with mi:=none,ma:=none} x.a):=aj;have k1:=jq (o:=rgO A x {y with mi:=none,ma:=none} x.a) o g1;have k2:∀d∈ds,(upd G p (rgO A x {y with mi:=none,ma:=none} x.a)) d.1=some (.lst (d.2.map V.str)):=fun d m=>jq o (sG _ _ (d1 d (cB _ m)));have k3:=jq (o:=rgO A x {y with mi:=none,ma:=none} x.a) o gD;replace b:=b.trans (But.upd (p:=p) (H:=G) (o:=rgO A x {y with mi:=none,ma:=none} x.a));generalize hG2:upd G p (rgO A x {y with mi:=none,ma:=none} x.a)=G2 at nz k1 k2 k3 b;refine(show upd G p (.ins A.C'0 x.dx (rg (.int x.r) (.int y.tt) (.int y.ov) (.int y.un) (.int y.tn) (oV none) (oV none) (.ref x.a)))=G2 from hG2) ▸ ?_;rcases h with⟨h0,r5,q⟩|⟨tl,rfl,er,L,out⟩
  ·show#[_,rfl,cj (.inl (.inl k3)) #[_,rfl,rdG nz (gh T) #[rfl,_,rfl,cD (fun _=>#[rfl,_,rfl,l,false,?_,q.imp fun _ s'=>b.trans (s'.but p)]) fun z=>absurd (decide_eq_true (congrArg V.int h0)) z]]];rw[decide_eq_false (by rw[aC,r5];intro z;cases z)];rfl
  apply share (fun G3=>G3 p=some (rgO A x y x.a)/\But p H G3/\G3 G0=some (.lst (.ref D0::ds.map fun d=>V.ref d.1))/\∀d∈ds,G3 d.1=some (.lst (d.2.map V.str)))
  ·intro key;by_cases h0:y.tt=0
   ·have zz:=L.z h0;have rl:((((rN y).map V.int).length:Nat):Int)=4:=by unfold rN;rw[zz.1,zz.2];rfl
    show#[_,rfl,cj (.inl (.inl k3)) #[_,rfl,rdG nz (gh T) #[rfl,_,rfl,cD (fun _=>#[rfl,_,rfl,l,true,?_,?_]) fun z=>absurd (decide_eq_true (congrArg V.int h0)) z]]]
    ·rw[decide_eq_true (congrArg V.int rl)];rfl
    k_dat lqn "c"
    show#[_,rfl,rdG nz (gh T) #[rfl,_,rfl,aaB (congrArg V.int h0) ?_]];have ey:rgO A x {y with mi:=none,ma:=none} x.a=rgO A x y x.a:=by
     unfold rgO;rw[zz.1,zz.2]
    exact key G2 #[ey ▸ nz,b,k1,k2]
   ·obtain⟨lo,hi,m1,m2⟩:=L.w h0;have rn:rN y=[y.tt,y.ov,y.un,y.tn,lo,hi]:=by unfold rN;rw[m1,m2];rfl
    rw[rn]at k3;show#[_,rfl,cj (.inl (.inl k3)) #[_,rfl,rdG nz (gh T) #[rfl,_,rfl,cD (fun z=>absurd (V.int.inj (of_decide_eq_true z)) h0) fun _=>#[rfl,_,rfl,l,true,rfl,?_]]]];show#[_,rfl,rdG nz (gh T) #[rfl,_,rfl,cD (fun _=>?_) fun z=>absurd (by rw[decide_eq_false (fun e=>h0 (V.int.inj e))];rfl) z]];show#[_,rfl,cH (.inl (.inl k3)) (v:=.int lo) (cZ (j:=4) rfl) #[_,rfl,p,_,x.dx,_,rfl,nz,T.gO,T.U7,tb_g%,?_]];rw[Eu];show#[_,rfl,cH (.inl (.inl (jq nz k3))) (v:=.int hi) (cZ (j:=5) rfl) #[_,rfl,p,_,x.dx,_,rfl,aj,T.gO,T.U8,tb_g%,?_]];rw[cC,Jy];have ey:HO.ins A.C'0 x.dx (rg (.int x.r) (.int y.tt) (.int y.ov) (.int y.un) (.int y.tn) (.int lo) (.int hi) (.ref x.a))=rgO A x y x.a:=by
     unfold rgO;rw[m1,m2];rfl
    rw[ey];exact key _ #[aj,b.trans But.upd,jq nz k1,fun d m=>jq nz (k2 d m)]
  ·rintro G3 ⟨o3,b3,q1,q2⟩;show#[_,rfl,1,rfl,G0,_,rfl,.inl (.inl q1),fun t ht=>?_];rw[show rY (V.ref D0::ds.map fun d=>V.ref d.1) (some 1) none=ds.map fun d=>V.ref d.1 from yP (n:=1) (by rw[bh];lia)]
   k_dat (nwA ht,G4,sT,t2) "n"
   show#[t,rfl,#[_,.inl (.inl t2)],fun d hd=>?_];have dl:ds.length=y.ls.length+tl.length:=by
    have:=congrArg gZ ep;rwa[aC,bB,aC]at this
   replace b3:=b3.trans (sT.but p);refine iK (K:=K) (a:=t) (xs:=ds.map fun d=>V.ref d.1) (fun i ys J=>∃(bs:List Addr),KQ (ys=bs.map V.ref) ((bs.length=i/\i<=y.ls.length)) ((∀(j:Nat)(b:Addr)(l:List Int),bs[j]? = some b->y.ls[j]? = some l->J b=some (.lst (l.map V.int)))) ((∀b∈bs,b≠d/\G4 b=none)) (J d=some (.lst ys)) (Same G4 J)) #[[],rfl,#[rfl,cJ _],fun j b l e=>by (rw[List.getElem?_nil]at e;cases e),fun _ m=>(nomatch m),aj,Same.new hd] ?_ ?_ ?_ ?_
   ·rintro i ys J hi ⟨bs,rfl,lb,cb,nb,gJ,sJ⟩;have:=L.k;show#[.inl (.inl (sJ _ _ t2)),gJ,aQ (by rw[aC];lia)]
   ·rintro i ys J v hv ⟨bs,rfl,⟨lb,il⟩,cb,nb,gJ,sJ⟩;rw[dF]at hv
    k_dat (g,hg,j6.mp,hv) "G"
    have mg:=xj hg;have eg:(y.ls.map (·.map sI)++tl)[i]? = some g.2:=by
     have:=congrArg (·[i]?) ep;simp only[dF,hg,adu]at this;exact this.symm
    by_cases lt:i<y.ls.length;rotate_left
    ·obtain rfl:i=y.ls.length:=by lia
     rw[xr (by rw[aC];exact aJ _),aC,xY]at eg;rcases out with⟨rfl,_⟩|⟨⟨rfl,_⟩|⟨g',gs',rfl,bg⟩,q⟩
     ·cases eg
     ·cases eg
     ·obtain rfl:g'=g.2:=bN eg;show#[_,rfl,_,rfl,.inr #[g.1,l,rfl,bg.bl ((sT.trans sJ) _ _ (q2 g mg)),q.imp fun _ s'=>b3.trans ((sJ.trans s').but p)]]
    obtain⟨k,hk,ek⟩:∃k,y.ls[i]? = some k/\g.2=k.map sI:=by
     rw[tK (by rw[aC];exact lt),dF]at eg;obtain⟨k,hk,ek⟩:=j6.mp eg;show#[k,hk,ek.symm]
    have Lk:=L.l k (xj hk);have z0:∀n∈k,0<=n:=fun n m=>(Lk.1 n m).1;have gg:=(sT.trans sJ) _ _ (q2 g mg);rw[ek,fj]at gg;show#[_,rfl,_,rfl,.inl #[g.1,k.map rC,l,rfl,by rwa[uI z0],Fx Lk.1,by rw[aC];exact Lk.2,fun D2 J2 hD2 s2 g2=>?_]];rw[zA z0]at g2;have nd:D2≠d:=fun z=>by rw[z,gJ]at hD2;cases hD2
    show#[s2 _ _ gJ,bs++[D2],by rw[bG];rfl,#[by rw[bB,lb];rfl,lt],fun j b l e1 e2=>?_,fun b m=>?_,aj,fun b o e=>?_]
    ·by_cases hj:j<bs.length
     ·rw[tK hj]at e1;rw[ao (nb b (xj e1)).1];exact s2 _ _ (cb j b l e1 e2)
     ·rw[xr tb_g%]at e1;have ji:j=i:=by
       have:=(fu.mp e1).1;have:([D2]:List Addr).length=1:=rfl;lia
      rw[show j-bs.length=0 by lia]at e1;rw[ji]at e2;have e1:D2=b:=bN e1;rw[hk]at e2;obtain⟨rfl⟩:=bN e2;rwa[<-e1,ao nd]
    ·walk_at "v"
     ·exact nb b m
     ·rw[cI.mp m];show#[nd,sJ.free hD2]
    ·rw[ao (ak e hd)];exact s2 _ _ (sJ _ _ e)
   ·rintro ys J ⟨bs,rfl,⟨lb,il⟩,cb,nb,gJ,sJ⟩;rw[aC,dl]at lb il;obtain rfl:tl=[]:=Ji.mp tb_g%;have lb:bs.length=y.ls.length:=lb;have oJ:=(sT.trans sJ) _ _ o3
    k_dat (x.dx,oJ,T.gO,T.U9) "o"
    rw[Ew];have R:RnX A (upd J p (rgO A x y d)) p #[x.dx,d,bs,y.r,y.tt,y.ov,y.un,y.tn,y.mi,y.ma,y.ls]:=#[by rw[er];exact aj,jq oJ gJ,lb,fun i b l e1 e2=>jq oJ (cb i b l e1 e2),fun m=>(nb d m).1 rfl];have b4:=b3;have hf:∀c,G4 c=none->H c=none:=fun c hc=>eF b4 hc fun z=>by
     rw[z,sT _ _ o3]at hc;cases hc
    replace b:=(b4.trans (sJ.but p)).trans (But.upd (p:=p) (H:=J) (o:=rgO A x y d));rcases out with⟨_,S,q⟩|⟨⟨_,S⟩|⟨_,_,z,_⟩,q⟩
    ·show#[_,rfl,p,_,true,rfl,R,#[S.z,S.n,S.v,S.l,S.d,S.b,S.r],fun H' s'=>#[_,rfl,l,true,rfl,q d bs H' (hf d hd) (fun b m=>hf b (nb b m).2) (R.same s') (b.trans (s'.but p))]]
    ·show#[_,rfl,p,_,false,rfl,R,#[S.t,S.n,S.v,S.l],fun H' s'=>#[_,rfl,l,false,rfl,q.imp fun _ s2=>b.trans ((s'.trans s2).but p)]]
    ·cases z
   ·rintro σ H R R' hq ⟨v,e,w,e2,h⟩;show#[v,e,w,e2,h.imp (fun h=>?_) id];obtain⟨a,ns,l,en,h1,h2,h3,q⟩:=h;show#[a,ns,l,en,h1,h2,h3,fun D H' hD s hH=>hq _ _ (q D H' hD s hH)]
open MK
theorem agC:∀(bs:List WN.Box)(j:Nat),(bs.flatMap bI)[3*j]? = bs[j]?.map (·.f)/\(bs.flatMap bI)[3*j+1]? = bs[j]?.map (·.l)/\(bs.flatMap bI)[3*j+2]? = bs[j]?.map (·.s)
 |[],_=>#[rfl,rfl,rfl]
 |_::_,0=>#[rfl,rfl,rfl]
 |_::bs,j+1=>agC bs j
theorem afr{c:Int}{bs:List WN.Box}{k:Nat}{f:WN.Box->Int}(hk:k=1\/k=2\/k=3)(h:∀j,(bs.flatMap bI)[3*j+(k-1)]? = bs[j]?.map f):vK 3 ((c::bs.flatMap bI).map V.int) (some (k:Int)) none=bs.map fun b=>V.int (f b):=by
 rw[cut_3 (m:=bs.length) (by rw[aC,bh,tH];lia) hk];have e:(fun j=>(((c::bs.flatMap bI).map V.int)[k+3*j]?:Option V))=fun j=>bs[j]?.map fun b=>V.int (f b):=by
  funext j
  rw[dF,show k+3*j=3*j+(k-1)+1 by lia,Vq,h,adv];rfl
 rw[e,ZD]
theorem anR:∀bs:List WN.Box,af5 (bs.map fun b=>V.int b.f) (bs.map fun b=>V.int b.l) (bs.map fun b=>V.int b.s)=bs.map fun b=>[.int b.f,.int b.l,.int b.s]
 |[]=>rfl
 |_::bs=>congrArg (_ :: ·) (anR bs)
theorem agD{α β γ:Type}(f:α->γ):∀(l:List α)(m:List β),l.length=m.length->(l.zip m).map (fun p=>f p.1)=l.map f
 |[],_,_=>rfl
 |_::_,[],h=>nomatch h
 |a::l,b::m,h=>congrArg (f a :: ·) (agD f l m (ak4 h))
theorem agE{α β:Type}:∀(l:List α)(m:List β),l.length=m.length->(l.zip m).map (·.2)=m
 |[],[],_=>rfl
 |[],_::_,h=>nomatch h
 |_::_,[],h=>nomatch h
 |_::l,b::m,h=>congrArg (b :: ·) (agE l m (ak4 h))
def spRW(A:Ad):Sp:=fun vs H Q E=>Ex3 fun(p a:Addr) (l:Int)=>vs=[.ref p,.ref a,.int l]/\((∃(dx l0:Addr)(r k c0 c:Int)(ps:List Bp)(bs:List WN.Box),Wn A H p dx l0 r k c0 ps/\H a=some (.lst ((c::bs.flatMap bI).map fun n=>V.str (sI n)))/\(∀n∈c::bs.flatMap bI,0<=n/\n<10 ^ 60)/\bs.length<=200/\Pl c k 0 bs/\Su r 0 0 bs.reverse/\0<=r/\r<=64/\∀d ps' H',bx ps'=bs->H d=none->(∀p∈ps',H p.1=none)->Wn A H' p dx d r k c ps'->But p H H'->Q .non H')\/(Bl H a\/∃ns:List Nat,H a=some (.lst (ns.map wN))/\(∀n∈ns,n<10 ^ 60)/\ns.length<=900/\ns.length % 3≠1)/\Bt A l E (Same H))
theorem Rr(T:Tx K mg A):FnK P w base T.tu (CXE P w) 9 (spRW A):=by
 k_dat (T.tu,T.tu.okE,zm) "a"
 ·obtain⟨_,_,_,rfl,_⟩:=h;rfl
 ·obtain⟨p,a,l,rfl,h⟩:=h;show#[_,by k_dat ([HW],[zm.nd,aB (gn T) ?_,aB (jX T) ?_,aa8 rfl rfl T.YX rfl T.ang ?_,aB (Lh T) ?_],[]) "p",?_];rcases h with⟨dx,l0,r,k,c0,c,ps,bs,hw,ha,hn,few,pl,su,r0,r64,q⟩|⟨hb,q⟩;rotate_left
  ·rcases hb with hb|⟨ns,ha,hb,hn,odd⟩
   ·show#[_,rfl,_,rfl,.inr #[a,l,rfl,hb,q]]
   ·show#[_,rfl,_,rfl,.inl #[a,ns,l,rfl,ha,hb,hn,fun D G hD sG gD=>?_]];show#[_,rfl,cj (.inl (.inl gD)) #[_,_,rfl,rfl,(by show(0:Int)<3;decide),rfl,_,rfl,l,false,?_,q.same sG]];rw[decide_eq_false (by rw[aC];intro z;have:=V.int.inj z;lia)];rfl
  have n0:∀n∈c::bs.flatMap bI,0<=n:=fun n m=>(hn n m).1;have nl:(c::bs.flatMap bI).length=1+3*bs.length:=by rw[bh,tH];lia
  show#[_,rfl,_,rfl,.inl #[a,(c::bs.flatMap bI).map rC,l,rfl,by rwa[uI n0],Fx hn,by rw[aC,nl];lia,fun D G hD sG gD=>?_]];rw[zA n0]at gD;have sD:SqL K G D ((c::bs.flatMap bI).map V.int):=.inl (.inl gD);show#[_,rfl,cj sD #[_,_,rfl,rfl,(by show(0:Int)<3;decide),rfl,_,rfl,l,true,?_,?_]]
  ·rw[decide_eq_true (congrArg V.int (show((((c::bs.flatMap bI).map V.int).length:Nat):Int) % 3=1 by rw[aC,nl];lia))];rfl
  have o:=sG _ _ hw.o;have b:=sG.but p;show#[_,rfl,cH sD (v:=.int c) (cZ (j:=0) rfl) #[_,rfl,p,_,dx,_,rfl,o,T.xq,T.QB,tb_g%,?_]];rw[wj];have g1:=jq (o:=.ins A.C'1 dx (wf (.int r) (.int k) (.int c) (.ref l0))) o gD;have o1:(upd G p (.ins A.C'1 dx (wf (.int r) (.int k) (.int c) (.ref l0)))) p=_:=aj;replace b:=b.trans (But.upd (p:=p) (H:=G) (o:=.ins A.C'1 dx (wf (.int r) (.int k) (.int c) (.ref l0))));generalize upd G p (.ins A.C'1 dx (wf (.int r) (.int k) (.int c) (.ref l0)))=G1 at g1 o1 b ⊢;show#[_,rfl,1,rfl,3,rfl,3,rfl,by decide,D,_,rfl,.inl (.inl g1),fun t ht=>?_];rw[show vK 3 ((c::bs.flatMap bI).map V.int) (some 1) none=bs.map fun b=>V.int b.f from afr (k:=1) (.inl rfl) fun j=>(agC bs j).1]
  k_dat (nwA ht,G2,sT,t2) "n"
  show#[_,rfl,2,rfl,3,rfl,3,rfl,by decide,D,_,rfl,.inl (.inl (sT _ _ g1)),fun u hu=>?_];rw[show vK 3 ((c::bs.flatMap bI).map V.int) (some 2) none=bs.map fun b=>V.int b.l from afr (k:=2) (.inr (.inl rfl)) fun j=>(agC bs j).2.1]
  k_dat (nwA hu,G3,sU,u2) "n"
  show#[_,rfl,3,rfl,3,rfl,3,rfl,by decide,D,_,rfl,.inl (.inl (sU _ _ (sT _ _ g1))),fun v hv=>?_];rw[show vK 3 ((c::bs.flatMap bI).map V.int) (some 3) none=bs.map fun b=>V.int b.s from afr (k:=3) (.inr (.inr rfl)) fun j=>(agC bs j).2.2]
  k_dat (nwA hv,G4,sV,v2) "n"
  show#[t,u,v,_,_,_,rfl,sV _ _ (sU _ _ t2),sV _ _ u2,v2,by rw[aC,aC],by rw[aC,aC],fun d ts hd ht nt lt=>?_];rw[anR];rw[aC]at lt;have s4:=sT.trans (sU.trans sV);have hf:∀e,G4 e=none->H e=none:=fun e he=>eF (b.trans (s4.but p)) he fun z=>by
   rw[z,s4 _ _ o1]at he;cases he
  have sE:Same G4 (upd (JT G4 ts (bs.map fun b=>[.int b.f,.int b.l,.int b.s])) d (.lst (ts.map V.ref))):=fun e o he=>by
   rwa[ao (ak he hd),PL fun m=>by rw[(ht e m).1]at he;cases he]
  have d2:Bxs (upd (JT G4 ts (bs.map fun b=>[.int b.f,.int b.l,.int b.s])) d (.lst (ts.map V.ref))) d (ts.zip bs):=by
   show#[by rw[agD V.ref _ _ lt];exact aj,fun z m=>?_];obtain⟨i,hi⟩:=Vu m;rw[Vo]at hi;rw[ao (ht z.1 (xj hi.1)).2];exact af4 nt hi.1 (by rw[dF,hi.2];rfl)
  generalize upd (JT G4 ts (bs.map fun b=>[.int b.f,.int b.l,.int b.s])) d (.lst (ts.map V.ref))=G5 at sE d2 ⊢;have o5:=(s4.trans sE) _ _ o1
  k_dat (dx,o5,T.xq,T.Va) "o"
  rw[EY]
  k_dat (nbA,G6,zG6,fG6) "n"
  have W:Wn A G6 p dx d r k c (ts.zip bs):=#[fG6,d2.but zG6 o5];replace b:=(b.trans ((s4.trans sE).but p)).trans zG6;have eb:bx (ts.zip bs)=bs:=agE _ _ lt;show#[_,rfl,p,dx,d,r,k,c,_,rfl,W,by rwa[eb],by rw[eb];exact su,r0,r64,_,rfl,l,true,rfl,q d _ G6 eb (hf d hd) (fun z m=>hf _ (ht z.1 (VD m).1).1) W b]
def spRD(A:Ad):Sp:=fun vs H Q E=>Ex3 fun(p a:Addr) (l:Int)=>vs=[.ref p,.ref a,.int l]/\((∃(dx l0:Addr)(r n0 v0 n v:Int)(ks0 ks:List Int),Dn A H p dx l0 r n0 v0 ks0/\H a=some (.lst (([n,v]++ks).map fun n=>V.str (sI n)))/\(∀m∈[n,v]++ks,0<=m/\m<10 ^ 60)/\v<=60/\ks.Pairwise (· < ·)/\(∀k∈ks,k<1152921504606846976/\∀h:Nat,tE (k*770093176312745717 % 1152921504606846976) h->v<=h)/\(ks.length:Int)<=r/\r<=64/\(v=0->(ks.length:Int)<=n)/\(v≠0->r+1<=n)/\∀d H',H d=none->Dn A H' p dx d r n v ks->But p H H'->Q .non H')\/Bl H a/\Bt A l E (Same H))
theorem Jc(T:Tx K mg A):FnK P w base T.mH (CXE P w) 9 (spRD A):=by
 k_dat (T.mH,T.mH.okE,uy) "a"
 ·obtain⟨_,_,_,rfl,_⟩:=h;rfl
 ·obtain⟨p,a,l,rfl,h⟩:=h;show#[_,by k_dat ([],[uy.nd,aB (gn T) ?_,aB (jX T) ?_,aB (Fv T) ?_],[]) "p",?_];rcases h with⟨dx,l0,r,n1,v1,n,v,ks0,ks,hd,ha,hn,v60,up,mo,lr,r64,f0,f1,q⟩|⟨hb,q⟩;rotate_left
  ·show#[_,rfl,_,rfl,.inr #[a,l,rfl,hb,q]]
  have n0:∀m∈[n,v]++ks,0<=m:=fun m h=>(hn m h).1;have nl:([n,v]++ks).length=2+ks.length:=by rw[bB];rfl
  show#[_,rfl,_,rfl,.inl #[a,([n,v]++ks).map rC,l,rfl,by rwa[uI n0],Fx hn,by rw[aC,nl];lia,fun D G hD sG gD=>?_]];rw[zA n0]at gD;have sD:SqL K G D (([n,v]++ks).map V.int):=.inl (.inl gD);show#[_,rfl,cj sD #[_,_,rfl,rfl,_,rfl,l,true,?_,?_]]
  ·show[V.bl (decide ((((([n,v]++ks).map V.int).length:Nat):Int)>=2)),_]=_;rw[decide_eq_true (by rw[aC,nl];lia)]
  have o:=sG _ _ hd.o;have b:=sG.but p;show#[_,rfl,cH sD (v:=.int n) (cZ (j:=0) rfl) #[_,rfl,p,_,dx,_,rfl,o,T.zZ,T.Vb,tb_g%,?_]];rw[wU];show#[_,rfl,cH (.inl (.inl (jq o gD))) (v:=.int v) (cZ (j:=1) rfl) #[_,rfl,p,_,dx,_,rfl,aj,T.zZ,T.Vc,tb_g%,?_]];rw[cC,Fb];have g1:=jq (o:=.ins A.C'2 dx (df (.int r) (.int n) (.int v) (.ref l0))) o gD;have o1:(upd G p (.ins A.C'2 dx (df (.int r) (.int n) (.int v) (.ref l0)))) p=_:=aj;replace b:=b.trans (But.upd (p:=p) (H:=G) (o:=.ins A.C'2 dx (df (.int r) (.int n) (.int v) (.ref l0))));generalize upd G p (.ins A.C'2 dx (df (.int r) (.int n) (.int v) (.ref l0)))=G1 at g1 o1 b ⊢;show#[_,rfl,2,rfl,D,_,rfl,.inl (.inl g1),fun d hd=>?_];rw[show rY (([n,v]++ks).map V.int) (some 2) none=ks.map V.int from yP (n:=2) (by rw[aC,nl];lia)];have nd:H d=none:=eF b hd fun z=>by rw[z,o1]at hd;cases hd
  k_dat (nwA hd,G2,sE,d2) "n"
  have o2:=sE _ _ o1
  k_dat (dx,o2,T.zZ,T.Vd) "o"
  rw[Jz];have W:Dn A (upd G2 p (.ins A.C'2 dx (df (.int r) (.int n) (.int v) (.ref d)))) p dx d r n v ks:=#[aj,jq o2 d2];replace b:=(b.trans (sE.but p)).trans (But.upd (p:=p) (H:=G2) (o:=.ins A.C'2 dx (df (.int r) (.int n) (.int v) (.ref d))));generalize upd G2 p (.ins A.C'2 dx (df (.int r) (.int n) (.int v) (.ref d)))=G3 at W b ⊢;show#[_,rfl,p,dx,d,r,n,v,ks,rfl,W,v60,up,mo,lr,r64,f0,f1,fun H' s'=>#[_,rfl,l,true,rfl,q d H' nd (W.same s') (b.trans (s'.but p))]]
def spRB(A:Ad):Sp:=fun vs H Q E=>Ex3 fun(p a:Addr) (l:Int)=>vs=[.ref p,.ref a,.int l]/\((∃ws:List V,H a=some (.lst ws)/\ws.length≠4/\Bt A l E (Same H))\/∃(ns:List Int)(tl:List V),H a=some (.lst (ns.map (fun n=>V.str (sI n))++tl))/\ns.length+tl.length=4/\(∀n∈ns,n.natAbs<10 ^ 60)/\((∃(dx l0:Addr)(sp:Int)(q0 q:Q4),tl=[]/\ns=L4 q/\Bn A H p dx l0 sp q0/\∀d H',H d=none->Bn A H' p dx d sp q->But p H H'->Q .non H')\/∃w r,tl=.str w::r/\Bz w/\Bt A l E (Same H)))
theorem ZG(T:Tx K mg A):FnK P w base T.zc (CXE P w) 9 (spRB A):=by
 k_dat (T.zc,T.zc.okE,Y7) "a"
 ·obtain⟨_,_,_,rfl,_⟩:=h;rfl
 ·obtain⟨p,a,l,rfl,h⟩:=h;show#[_,by k_dat ([fM],[aB (jX T) ?_],[HN xwUp [("line",s.heap.objs.size+1)] Q12 [2] ?_ (fun _ _ _ _=>jU) (fun _ _ _ _=>(aB (Zy T) (aM (pv 0) (aM (pv 1) cR))))]) "p",?_];rcases h with⟨ws,ha,n4,q⟩|⟨ns,tl,ha,n4,hn,q⟩
  ·show#[_,rfl,cj (.inl (.inl ha)) #[rfl,_,rfl,l,false,?_,q]];rw[decide_eq_false (by intro z;have:=V.int.inj z;lia)];rfl
  have sa:SqL K H a (ns.map (fun n=>V.str (sI n))++tl):=.inl (.inl ha);have l4:(ns.map (fun n=>V.str (sI n))++tl).length=4:=by rwa[bB,aC]
  show#[_,rfl,cj sa #[rfl,_,rfl,l,true,by rw[l4];rfl,?_]];show#[_,rfl,a,rfl,#[_,sa],fun D hD=>?_];refine iK (K:=K) (a:=a) (xs:=ns.map (fun n=>V.str (sI n))++tl) (fun i ys G=>i<=ns.length/\ys=(ns.take i).map V.int/\G D=some (.lst ys)/\Same H G) #[cJ _,rfl,aj,Same.new hD] ?_ ?_ ?_ ?_
  ·rintro i ys G hi ⟨_,rfl,gD,sG⟩;show#[.inl (.inl (sG _ _ ha)),gD,aQ (by rw[aC,d8];lia)]
  ·rintro i ys G x hx ⟨il,rfl,gD,sG⟩;by_cases lt:i<ns.length
   ·rw[tK (by rw[aC];exact lt),dF]at hx
    k_dat (n,hi,j6.mp,hx) "G"
    show#[_,rfl,_,rfl,_,l,rfl,.inl #[n,rfl,hn n (xj hi),fun G1 s1=>#[s1 _ _ gD,lt,by rw[mL,hi,bG];rfl,aj,fun b o e=>?_]]];rw[ao (ak e hD)];exact s1 _ _ (sG b o e)
   ·obtain rfl:i=ns.length:=by lia
    rw[xr (by rw[aC];exact aJ _),aC,xY]at hx;rcases q with⟨_,_,_,_,_,rfl,_⟩|⟨w,r,rfl,bz,q⟩
    ·cases hx
    ·obtain rfl:=bN hx;show#[_,rfl,_,rfl,w,l,rfl,.inr #[bz,q.same sG]]
  ·rintro ys G ⟨il,rfl,gD,sG⟩;rcases q with⟨dx,l0,sp,q0,q4,rfl,rfl,hb,q⟩|⟨w,r,rfl,_⟩
   ·have gD:G D=some (.lst ((L4 q4).map V.int)):=gD;have o:=sG _ _ hb.o
    k_dat (dx,o,T.abv,T.QC) "o"
    rw[zy];exact q D _ hD #[aj,jq o gD] ((sG.but p).trans But.upd)
   ·rw[bB,aC,bh]at il;lia
  ·rintro σ H R R' hr ⟨v,e,w,e2,z,l,en,h⟩;show#[v,e,w,e2,z,l,en,h.imp (fun h=>?_) id];obtain⟨n,e,hn,q⟩:=h;show#[n,e,hn,fun H1 s1=>hr _ _ (q H1 s1)]
open MK
abbrev nl1:Str:=aD "\n"
theorem atv:sp1=#[[32].toArray]:=by decide +kernel
theorem atw:nl1=#[[10].toArray]:=by decide +kernel
structure Gb(t:Str):Prop where
 s:32∉cL t
 n:10∉cL t
theorem aqj{cs:List Char}(h:∀c∈cs.map oE,45<=c):Gb (Dec.tx cs):=by
 have k:∀c,c<45->c∉cL (Dec.tx cs):=fun c hc m=>by
  unfold cL at m;rw[Dec.qO]at m;have:=h c m;lia
 show#[k 32 tb_g%,k 10 tb_g%]
theorem gb_i(n:Int):Gb (sI n):=by
 have g:∀m:Nat,∀c∈(Dec.dg m).map oE,45<=c:=fun m c h=>by
  have:=Dec.Yd m c h;lia
 unfold sI;by_cases z:n<0
 ·rw[show n = -(n.natAbs:Int) by lia,Dec.DW tb_g%];refine aqj fun c m=>?_;rw[cP]at m
  walk_at "q"
  ·decide
  ·exact g _ c m
 ·rw[show n=(n.toNat:Int) by lia,Dec.jV];exact aqj (g _)
theorem JG{ns:List Int}:∀u∈ns.map sI,Gb u:=fun u m=>by
 obtain⟨n,_,rfl⟩:=cX.mp m;exact gb_i n
theorem gb_r{f:Rs}:∀u∈rT f,Gb u:=fun u m=>by
 walk_at "v"
 ·exact JG u m
 ·obtain⟨l,_,m⟩:=VB.mp m
  walk_at "q"
  ·show#[by decide +kernel,by decide +kernel]
  ·exact JG u m
abbrev Zs:=List (Str × List Str)
def lns(zs:Zs):List Str:=zs.map fun z=>ln z.1 z.2
noncomputable def zsK(x:KS):Zs:=[(aD "keep",([x.room,x.reach,x.span]:List Int).map sI),(aD "came",(fN x.cm).map sI),(aD "went",(fN x.wn).map sI),(aD "up",rT x.up.x),(aD "down",rT x.dn.x),(aD "window",(x.wi.c::(bx x.wi.ps).flatMap bI).map sI),(aD "seen",([x.di.n,x.di.v]++srt (My.up x.di.v x.di.C)).map sI),(aD "sums",(L4 x.ba.q).map sI)]
theorem lk(x:KS):gb x=lns (zsK x):=rfl
def Gz(zs:Zs):Prop:=∀z∈zs,(∀u∈z.1::z.2,Gb u)/\z.1.length<=16/\(z.2.map (·.length)).sum+z.2.length<=96000
theorem JH{x:KS}(h:Kx x):∀z∈zsK x,(∀u∈z.1::z.2,Gb u)/\z.1.length<=16/\(z.2.map (·.length)).sum+z.2.length<=95000:=by
 have c:∀s∈[aD "keep",aD "came",aD "went",aD "up",aD "down",aD "window",aD "seen",aD "sums"],s.length<=16/\32∉cL s/\10∉cL s:=by decide +kernel
 have g:∀z∈zsK x,(∀u∈z.2,Gb u)/\(z.2.map (·.length)).sum+z.2.length<=95000:=by
  have p1:(fN x.cm).length<=200:=by unfold fN;rw[bB,jO,(bW _).length_eq];have:=h.cl;show 2+_<=_;lia
  have p2:(fN x.wn).length<=200:=by unfold fN;rw[bB,jO,(bW _).length_eq];have:=h.wl;show 2+_<=_;lia
  intro z m;unfold zsK at m
  k_dat m "D"
  rcases m with rfl|rfl|rfl|rfl|rfl|rfl|rfl|rfl
  ·show#[JG,gA h.k tb_g%]
  ·show#[JG,gA h.cn p1]
  ·show#[JG,gA h.ws p2]
  ·show#[gb_r,Ja h.u2 h.u3 h.u4 h.u5]
  ·show#[gb_r,Ja h.d2 h.d3 h.d4 h.d5]
  ·show#[JG,gA h.i1 (by rw[bh,tH,g8];have:=h.i2;lia)]
  ·show#[JG,gA h.s1 (by rw[bB];have:=h.s2;show 2+_<=_;lia)]
  ·show#[JG,gA h.b tb_g%]
 intro z m;have cz:=c _ (FQ (f:=(·.1)) m);show#[fun u mu=>?_,cz.1,(g z m).2];rcases aO.mp mu with rfl|mu
 ·show#[cz.2.1,cz.2.2]
 ·exact(g z m).1 u mu
theorem agF{x:KS}(h:Kx x):Gz (zsK x):=fun z m=>#[(JH h z m).1,(JH h z m).2.1,bQ (JH h z m).2.2 tb_g%]
theorem zl0{zs:Zs}(gz:Gz zs){k:Nat}{z:Str × List Str}(h:zs[k]? = some z):lF (bZ sp1 (z.1::z.2)) sp1=z.1::z.2/\(bZ sp1 (z.1::z.2)).length<=1048576:=by
 obtain⟨g1,g2,g3⟩:=gz z (xj h);show#[by rw[atv];exact Py (eZ _ _) fun u m=>(g1 u m).s,?_];have:=mK g2 g3;unfold ln at this;lia
theorem agG{zs:Zs}(g:Gz zs)(ne:zs≠[]):lF (bZ nl1 (lns zs)) nl1=lns zs:=by
 rw[atw];refine Py (fun e=>ne (Vx.mp e)) fun t m=>?_
 k_dat (z,mz,cX.mp,m) "G"
 have g1:=(g z mz).1;show 10∉cL (bZ sp1 (z.1::z.2));rw[jW];intro m
 walk_at "v"
 ·exact(g1 _ bV).n m
 ·obtain⟨u,mu,m⟩:=VB.mp m
  walk_at "v"
  ·exact absurd m tb_g%
  ·exact(g1 u (cB _ mu)).n m
theorem text_len{zs:Zs}(g:Gz zs)(h:zs.length<=9):(bZ nl1 (lns zs)).length<=1048576:=by
 have h1:=yM nl1 (lns zs);have h2:nl1.length=1:=by decide +kernel
 have h3:∀zs:Zs,Gz zs->((lns zs).map (·.length)).sum<=96017*zs.length:=by
  intro zs
  induction zs with
  |nil=>intro _;exact aJ _
  |cons z zs ih =>
   intro g;have k1:=ih fun y m=>g y (cB _ m);have k2:=mK (g z bV).2.1 (g z bV).2.2;show(ln z.1 z.2).length+((lns zs).map (·.length)).sum<=96017*(zs.length+1);lia
 have h4:=h3 zs g;have h5:(lns zs).length=zs.length:=aC _;rw[h2,h5]at h1;lia
structure Sf(room:Nat)(f:Fq):Prop where
 n:∀n∈fN f,0<=n/\n<10 ^ 60
 u:(keys (gF f.c)).Pairwise (· < ·)
 k:∀k∈keys (gF f.c),k<1152921504606846976
 v:∀p∈gF f.c,1<=p.2
 r:(gF f.c).length<=room
 s:(vals (gF f.c)).sum+((room:Int)+1)*f.l<=f.t
structure Sd(x:KS):Prop where
 kx:Kx x
 k:x.room % 2=0/\2<=x.room/\x.room<=64
 r:1<=x.reach/\x.reach<=1000000000
 p:1<=x.span/\x.span<=1000000000
 cm:Sf x.room x.cm
 wn:Sf x.room x.wn
 up:Rl x.up.x
 ur:x.up.x.r=x.room
 dn:Rl x.dn.x
 dr:x.dn.x.r=x.room
 wn1:∀n∈x.wi.c::(bx x.wi.ps).flatMap bI,0<=n/\n<10 ^ 60
 wp:Pl x.wi.c x.reach 0 (bx x.wi.ps)
 ws:Su x.room 0 0 (bx x.wi.ps).reverse
 dn1:∀n∈[x.di.n,x.di.v]++srt (My.up x.di.v x.di.C),0<=n/\n<10 ^ 60
 dv:x.di.v<=60
 du:(srt (My.up x.di.v x.di.C)).Pairwise (· < ·)
 dm:∀k∈srt (My.up x.di.v x.di.C),k<1152921504606846976/\∀h:Nat,tE (k*770093176312745717 % 1152921504606846976) h->x.di.v<=h
 dl:((srt (My.up x.di.v x.di.C)).length:Int)<=x.room
 d0:x.di.v=0->((srt (My.up x.di.v x.di.C)).length:Int)<=x.di.n
 d1:x.di.v≠0->(x.room:Int)+1<=x.di.n
 ba:∀n∈L4 x.ba.q,n.natAbs<10 ^ 60
noncomputable def rdK(x:KS):KS:={ x with cm:={ x.cm with c:=gF x.cm.c },wn:={ x.wn with c:=gF x.wn.c } }
theorem mm{ns:List Int}{H:Hp}{a:Addr}(h:H a=some (.lst ((ns.map sI).map V.str))):H a=some (.lst (ns.map fun n=>V.str (sI n))):=by
 rwa[fj]at h
theorem eN{H G J:Hp}{p:Addr}(s:Same H G)(n:H p=none)(b:But p G J):Same H J:=fun c o e=>b c o (s c o e) (ak e n)
theorem z8{zs:Zs}(gz:Gz zs){k:Nat}{z:Str × List Str}(h:zs[k]? = some z):(lns zs)[k]? = some (bZ sp1 (z.1::z.2))/\lF (bZ sp1 (z.1::z.2)) sp1=z.1::z.2/\(bZ sp1 (z.1::z.2)).length<=1048576:=
 #[by unfold lns;rw[dF,h];rfl,zl0 gz h]
abbrev Nl(ns:List Nat):Prop:=(∀n∈ns,n<10 ^ 60)/\ns.length<=900
def Fn(P:Nat->Prop)(ws:List Str):Prop:=Bg ws\/∃ns:List Nat,ws=ns.map (fun n=>Dec.tx (Dec.dg n))/\Nl ns/\P ns.length
theorem Fn.bad{P:Nat->Prop}{ws:List Str}{J:Hp}{W:Addr}(h:Fn P ws)(e:J W=some (.lst (ws.map V.str))):Bl J W\/∃ns:List Nat,J W=some (.lst (ns.map wN))/\(∀n∈ns,n<10 ^ 60)/\ns.length<=900/\P ns.length:=by
 rcases h with h|⟨ns,rfl,⟨h1,h2⟩,h3⟩
 ·exact .inl (h.bl e)
 ·exact .inr #[ns,by rw[e,fj];rfl,h1,h2,h3]
def Fr(r:Int)(ws:List Str):Prop:=ws.length<=9000/\((∃g gs,prt [] ws=g::gs/\Bg g)\/∃(y:Rs) (gs:List (List Str)),prt [] ws=(rN y).map sI::gs/\(∀n∈rN y,0<=n/\n<10 ^ 60)/\((y.tt=0/\(rN y).length=5)\/∃tl,gs=y.ls.map (·.map sI)++tl/\y.r=r/\Rq y/\(tl=[]/\Sx y\/∃g gs,tl=g::gs/\Bg g)))
def Fs(ws:List Str):Prop:=ws.length≠4\/∃(ns:List Int)(w:Str)(r:List Str),ws=ns.map sI++w::r/\ns.length+(r.length+1)=4/\(∀n∈ns,n.natAbs<10 ^ 60)/\Bz w
def Fw(r:Int):Nat->List Str->Prop
 |0,ws=>Fn (· ≠ 3) ws
 |1,ws=>Fn (· % 2=1) ws
 |2,ws=>Fn (· % 2=1) ws
 |3,ws=>Fr r ws
 |4,ws=>Fr r ws
 |5,ws=>Fn (· % 3≠1) ws
 |6,ws=>Bg ws
 |7,ws=>Fs ws
 |_,_=>False
def Fl(y:KS)(k:Nat)(z:Str × List Str):Prop:=∃z0,(zsK y)[k]? = some z0/\(z.1=z0.1->Fw y.room k z.2)
structure Fau(y:KS)(k:Nat)(zs:Zs):Prop where
 p:∀i,i<k->zs[i]? = (zsK y)[i]?
 f:(k<8/\(zs.length<=k\/∃z,zs[k]? = some z/\Fl y k z))\/(k=8/\zs.length≠8)
def Ou(y:KS)(zs:Zs)(G:Prop)(B:Nat->Prop)(n:Nat):Prop:=(zs=zsK y/\G)\/∃k,n<=k/\Fau y k zs/\B k
theorem Ou.step{y:KS}{zs:Zs}{G:Prop}{B:Nat->Prop}{n:Nat}(h:Ou y zs G B n)(h8:n<8):(zs[n]? = (zsK y)[n]? /\ Ou y zs G B (n+1))\/((zs.length<=n\/∃z,zs[n]? = some z/\Fl y n z)/\B n):=by
 rcases h with⟨rfl,g⟩|⟨k,nk,f,b⟩
 ·exact .inl #[rfl,.inl #[rfl,g]]
 ·by_cases lt:n<k
  ·exact .inl #[f.p n lt,.inr #[k,lt,f,b]]
  ·obtain rfl:k=n:=by lia
   rcases f.f with⟨_,f⟩|⟨f,_⟩
   ·exact .inr #[f,b]
   ·lia
theorem Ou.last{y:KS}{zs:Zs}{G:Prop}{B:Nat->Prop}(h:Ou y zs G B 8):(zs=zsK y/\G)\/(zs.length≠8/\B 8):=by
 rcases h with h|⟨k,nk,f,b⟩
 ·exact .inl h
 ·rcases f.f with⟨z,_⟩|⟨rfl,g⟩
  ·lia
  ·exact .inr #[g,b]
theorem Fr.bad{A:Ad}{l:Int}{E:XK}{r:Int}{x:Rs}{ws:List Str}{J:Hp}{p:Addr}{G:Rs->Prop}(h:Fr r ws)(er:x.r=r)(b1:Bt A l E (Same J))(b2:Bt A l E (But p J)):
  (∃g gs,prt [] ws=g::gs/\Bg g/\Bt A l E (Same J))\/∃(y:Rs) (gs:List (List Str)),prt [] ws=(rN y).map sI::gs/\(∀n∈rN y,0<=n/\n<10 ^ 60)/\((y.tt=0/\(rN y).length=5/\Bt A l E (But p J))\/∃tl,gs=y.ls.map (·.map sI)++tl/\y.r=x.r/\Rq y/\((tl=[]/\Sr y/\G y)\/((tl=[]/\Sx y\/∃g gs,tl=g::gs/\Bg g)/\Bt A l E (But p J)))):=by
 rcases h.2 with⟨g,gs,e,b⟩|⟨y,gs,e,n,h⟩
 ·exact .inl #[g,gs,e,b,b1]
 ·refine .inr #[y,gs,e,n,?_];rcases h with⟨t,c⟩|⟨tl,e,r,q,h⟩
  ·exact .inl #[t,c,b2]
  ·exact .inr #[tl,e,r.trans er.symm,q,.inr #[h,b2]]
theorem Fs.bad{A:Ad}{l:Int}{E:XK}{ws:List Str}{J:Hp}{W:Addr}{G:List Int->List V->Prop}(h:Fs ws)(e:J W=some (.lst (ws.map V.str)))(b:Bt A l E (Same J)):
  (∃ws:List V,J W=some (.lst ws)/\ws.length≠4/\Bt A l E (Same J))\/∃(ns:List Int)(tl:List V),J W=some (.lst (ns.map (fun n=>V.str (sI n))++tl))/\ns.length+tl.length=4/\(∀n∈ns,n.natAbs<10 ^ 60)/\(G ns tl\/∃w r,tl=.str w::r/\Bz w/\Bt A l E (Same J)):=by
 rcases h with h|⟨ns,w,r,rfl,h,n,z⟩
 ·exact .inl #[_,e,by rwa[aC],b]
 ·exact .inr #[ns,.str w::r.map V.str,by rw[e,bG,fj];rfl,by rwa[bh,aC],n,.inr #[w,_,rfl,z,b]]
def spRd(A:Ad):Sp:=fun vs H Q E=>Ex2 fun(zs:Zs) (y:KS)=>abz (vs=[.str (bZ nl1 (lns zs))]) (Gz zs) ((zs≠[]/\zs.length<=9)) (Sd y) (Ou y zs (∀(x:KS)(H':Hp),Kp A H' x->Eqp x (rdK y)->(∀b∈x.all,H b=none)->(∀b∈x.ems,H b=none)->Same H H'->Q (.ref x.k) H') (fun k=>Bt A (k+1:Nat) E (Same H)) 0)
theorem uJ(T:Tx K mg A):FnK P w base T.fC (CXE P w) 11 (spRd A):=by
 k_dat (T.fC,T.fC.okE,uz) "a"
 ·obtain⟨_,_,rfl,_⟩:=h;rfl
 ·obtain⟨zs,y,rfl,gz,⟨nz,l9⟩,S,ou⟩:=h;have few:(lns zs).length<=900:=by unfold lns;rw[aC];lia
  obtain⟨_,apz,apA⟩:=T.aoY;show#[_,by k_dat ([],[uz.nd,mR wD Xa Xb DY ?_ ?_,aB (abO T) ?_,aB (ZF T) ?_,aB (Jb T) ?_,aB (Tw T) ?_,aB (Rr T) ?_,aB (Jc T) ?_,aB (ZG T) ?_,aB (jX T) ?_],[dU (v:=.int 8) rfl apz apA]) "p",?_];refine sq fun R hR=>#[_,rfl,rfl,_,_,rfl,rfl,by decide +kernel,text_len gz l9,fun D hD=>?_];rw[agG gz nz]
  k_dat (nwA hD,H1,s0,lD) "n"
  refine hR _ _ (sq fun R hR=>#[_,rfl,D,lns zs,0,aD "keep",rfl,lD,few,?_]);have S1:=S.k;have S2:=S.r;have S3:=S.p
  walk_at "t"
  rotate_left
  ·have bt:=bt.same s0
   walk_at "C"
   ·walk_at "u"
   have wa:=z8 gz ez;obtain rfl:=bN e0;exact .inl #[_,_,_,wa.1,wa.2.1,wa.2.2,fun en W J nW sJ wJ=>#[W,1,rfl,.inr #[(show Fn (· ≠ 3) z.2 from fl en).bad wJ,bt.same sJ]],fun _=>bt]
  have wa:=z8 gz e
  walk_at "d"
  clear wa e;show#[W,1,rfl,.inl #[y.room,y.reach.toNat,y.span.toNat,?_,S1.1,S1.2.1,S1.2.2,by lia,by lia,by lia,by lia,fun x G kG eq0 fr _ sG=>?_]]
  ·exact(mm wJ).trans (congrArg (fun l=>some (HO.lst l)) (uI (ns:=[(y.room:Int),y.reach,y.span]) (by simp;lia)).symm)
  have fr:=fun b m=>sJ.free (fr b m);replace sG:=sJ.trans sG;clear sJ nW wJ;obtain⟨k,dk,room,reach,span,cm,wn,up,dn,wi,di,ba⟩:=x;obtain rfl:room=y.room:=eq0.room;obtain rfl:reach=y.reach:=eq0.reach.trans (GQ tb_g%);obtain rfl:span=y.span:=eq0.span.trans (GQ tb_g%);obtain⟨-,-,-,-,-,eu,ed,-,-,-⟩:=eq0;have eur:up.x.r=y.room:=eu.r;have edr:dn.x.r=y.room:=ed.r;refine hR _ _ (sq fun R hR=>#[_,rfl,rdG kG.o (Zj T) #[_,rfl,D,lns zs,1,aD "came",rfl,sG _ _ lD,few,?_]])
  walk_at "t"
  rotate_left
  ·skip
   walk_at "b"
   have bt:=bt.same (s0.trans sG)
   walk_at "C"
   ·walk_at "u"
   have wa:=z8 gz ez;obtain rfl:=bN e0
   walk_at "j"
   have bt:=bt.same sJ;have kJ:=kG.same sJ;have fw:=fl en;show#[cm,W,2,rfl,.inr #[(show Fn (· % 2=1) z.2 from fw).bad wJ,bt]]
  have wa:=z8 gz e
  walk_at "d"
  clear wa e;have kJ:=kG.same sJ;show#[cm,W,2,rfl,.inl #[gF y.cm.c,y.cm.t,y.cm.l,y.room,kJ.cm,mm wJ,S.cm.n,S.cm.u,S.cm.k,S.cm.v,S.cm.r,S1.2.2,S.cm.s,fun d G2 hF bF=>?_]]
  k_dat 1 "m"
  have kG2:=(kJ.pp.setC (f:=#[cm.p,cm.dx,d,y.cm.t,y.cm.l,gF y.cm.c]) rfl bF hF).kp (bF _ _ kJ.o (Kp.ap kJ).k1) kJ.nk
  skip
  clear kG sG kJ sJ wJ nW bF hF;have kG:=kG2;have sG:=sG2;clear kG2 sG2;dsimp only at kG;refine hR _ _ (sq fun R hR=>#[_,rfl,rdG kG.o (Zk T) #[_,rfl,D,lns zs,2,aD "went",rfl,sG _ _ lD,few,?_]])
  walk_at "t"
  rotate_left
  ·skip
   walk_at "b"
   have bt:=bt.same (s0.trans sG)
   walk_at "C"
   ·walk_at "u"
   have wa:=z8 gz ez;obtain rfl:=bN e0
   walk_at "j"
   have bt:=bt.same sJ;have kJ:=kG.same sJ;have fw:=fl en;show#[wn,W,3,rfl,.inr #[(show Fn (· % 2=1) z.2 from fw).bad wJ,bt]]
  have wa:=z8 gz e
  walk_at "d"
  clear wa e;have kJ:=kG.same sJ;show#[wn,W,3,rfl,.inl #[gF y.wn.c,y.wn.t,y.wn.l,y.room,kJ.wn,mm wJ,S.wn.n,S.wn.u,S.wn.k,S.wn.v,S.wn.r,S1.2.2,S.wn.s,fun d G2 hF bF=>?_]]
  k_dat 2 "m"
  have kG2:=(kJ.pp.setW (f:=#[wn.p,wn.dx,d,y.wn.t,y.wn.l,gF y.wn.c]) rfl bF hF).kp (bF _ _ kJ.o (Kp.ap kJ).k2) kJ.nk
  skip
  clear kG sG kJ sJ wJ nW bF hF;have kG:=kG2;have sG:=sG2;clear kG2 sG2;dsimp only at kG;refine hR _ _ (sq fun R hR=>#[_,rfl,rdG kG.o (anE T) #[_,rfl,D,lns zs,3,aD "up",rfl,sG _ _ lD,few,?_]])
  walk_at "t"
  rotate_left
  ·skip
   walk_at "b"
   have bt:=bt.same (s0.trans sG)
   walk_at "C"
   ·walk_at "u"
   have wa:=z8 gz ez;obtain rfl:=bN e0
   walk_at "j"
   have bt:=bt.same sJ;have kJ:=kG.same sJ;have fw:=fl en;show#[up.p,up.x,W,4,z.2,rfl,kJ.up,#[eu.mi,eu.ma],wJ,fw.1,Fr.bad fw eur bt (btB _ _ (fr _ (xj (i:=3) rfl)) (sG.trans sJ))]
  have wa:=z8 gz e
  walk_at "d"
  clear wa e;have kJ:=kG.same sJ;show#[up.p,up.x,W,4,rT y.up.x,rfl,kJ.up,#[eu.mi,eu.ma],wJ,S.up.f,.inr #[y.up.x,_,S.up.prt,S.up.n,.inr #[[],(iH _).symm,S.ur.trans eur.symm,S.up.rq,.inl #[rfl,S.up.s,fun du bu G2 nd nb hF bF=>?_]]]]
  k_dat 3 "m"
  have kG2:=(kJ.pp.setU (f:=#[up.p,#[up.x.dx,du,bu,y.up.x.r,y.up.x.tt,y.up.x.ov,y.up.x.un,y.up.x.tn,y.up.x.mi,y.up.x.ma,y.up.x.ls]]) rfl bF hF).kp (bF _ _ kJ.o (Kp.ap kJ).k3) kJ.nk;have nu:=And.intro ((sG.trans sJ).free nd) fun b m=>(sG.trans sJ).free (nb b m);clear kG sG kJ sJ wJ nW bF nd nb hF;have kG:=kG2;have sG:=sG2;clear kG2 sG2;dsimp only at kG;refine hR _ _ (sq fun R hR=>#[_,rfl,rdG kG.o (Zm T) #[_,rfl,D,lns zs,4,aD "down",rfl,sG _ _ lD,few,?_]])
  walk_at "t"
  rotate_left
  ·skip
   walk_at "b"
   have bt:=bt.same (s0.trans sG)
   walk_at "C"
   ·walk_at "u"
   have wa:=z8 gz ez;obtain rfl:=bN e0
   walk_at "j"
   have bt:=bt.same sJ;have kJ:=kG.same sJ;have fw:=fl en;show#[dn.p,dn.x,W,5,z.2,rfl,kJ.dn,#[ed.mi,ed.ma],wJ,fw.1,Fr.bad fw edr bt (btB _ _ (fr _ (xj (i:=4) rfl)) (sG.trans sJ))]
  have wa:=z8 gz e
  walk_at "d"
  clear wa e;have kJ:=kG.same sJ;show#[dn.p,dn.x,W,5,rT y.dn.x,rfl,kJ.dn,#[ed.mi,ed.ma],wJ,S.dn.f,.inr #[y.dn.x,_,S.dn.prt,S.dn.n,.inr #[[],(iH _).symm,S.dr.trans edr.symm,S.dn.rq,.inl #[rfl,S.dn.s,fun dd bd G2 nd nb hF bF=>?_]]]]
  k_dat 4 "m"
  have kG2:=(kJ.pp.setD (f:=#[dn.p,#[dn.x.dx,dd,bd,y.dn.x.r,y.dn.x.tt,y.dn.x.ov,y.dn.x.un,y.dn.x.tn,y.dn.x.mi,y.dn.x.ma,y.dn.x.ls]]) rfl bF hF).kp (bF _ _ kJ.o (Kp.ap kJ).k4) kJ.nk;have nv:=And.intro ((sG.trans sJ).free nd) fun b m=>(sG.trans sJ).free (nb b m);clear kG sG kJ sJ wJ nW bF nd nb hF;have kG:=kG2;have sG:=sG2;clear kG2 sG2;dsimp only at kG;refine hR _ _ (sq fun R hR=>#[_,rfl,rdG kG.o (uF T) #[_,rfl,D,lns zs,5,aD "window",rfl,sG _ _ lD,few,?_]])
  walk_at "t"
  rotate_left
  ·skip
   walk_at "b"
   have bt:=bt.same (s0.trans sG)
   walk_at "C"
   ·walk_at "u"
   have wa:=z8 gz ez;obtain rfl:=bN e0
   walk_at "j"
   have bt:=bt.same sJ;have kJ:=kG.same sJ;have fw:=fl en;show#[wi.p,W,6,rfl,.inr #[(show Fn (· % 3≠1) z.2 from fw).bad wJ,bt]]
  have wa:=z8 gz e
  walk_at "d"
  clear wa e;have kJ:=kG.same sJ;show#[wi.p,W,6,rfl,.inl #[wi.dx,wi.l,y.room,y.reach,wi.c,y.wi.c,wi.ps,bx y.wi.ps,kJ.wi,mm wJ,S.wn1,by rw[g8];have:=S.kx.i2;lia,S.wp,S.ws,by lia,by lia,fun dw ps G2 eW nd nb hF bF=>?_]]
  k_dat 5 "m"
  have kG2:=(kJ.pp.setI (f:=#[wi.p,wi.dx,dw,y.wi.c,ps]) rfl bF hF).kp (bF _ _ kJ.o (Kp.ap kJ).k5) kJ.nk;have nw:=(sG.trans sJ).free nd;clear kG sG kJ sJ wJ nW bF nd nb hF;have kG:=kG2;have sG:=sG2;clear kG2 sG2;dsimp only at kG;refine hR _ _ (sq fun R hR=>#[_,rfl,rdG kG.o (Fi T) #[_,rfl,D,lns zs,6,aD "seen",rfl,sG _ _ lD,few,?_]])
  walk_at "t"
  rotate_left
  ·skip
   walk_at "b"
   have bt:=bt.same (s0.trans sG)
   walk_at "C"
   ·walk_at "u"
   have wa:=z8 gz ez;obtain rfl:=bN e0
   walk_at "j"
   have bt:=bt.same sJ;have kJ:=kG.same sJ;have fw:=fl en;show#[di.p,W,7,rfl,.inr #[Bg.bl fw wJ,bt]]
  have wa:=z8 gz e
  walk_at "d"
  clear wa e;have kJ:=kG.same sJ;show#[di.p,W,7,rfl,.inl #[di.dx,di.l,y.room,di.n,di.v,y.di.n,y.di.v,_,_,kJ.di,mm wJ,S.dn1,S.dv,S.du,S.dm,S.dl,by lia,S.d0,S.d1,fun ds G2 nd hF bF=>?_]]
  k_dat 6 "m"
  have kG2:=(kJ.pp.setS (f:=#[di.p,di.dx,ds,y.di.n,y.di.v,y.di.C]) rfl bF hF).kp (bF _ _ kJ.o (Kp.ap kJ).k6) kJ.nk;have nx:=(sG.trans sJ).free nd;clear kG sG kJ sJ wJ nW bF nd hF;have kG:=kG2;have sG:=sG2;clear kG2 sG2;dsimp only at kG;refine hR _ _ (sq fun R hR=>#[_,rfl,rdG kG.o (wz T) #[_,rfl,D,lns zs,7,aD "sums",rfl,sG _ _ lD,few,?_]])
  walk_at "t"
  rotate_left
  ·skip
   walk_at "b"
   have bt:=bt.same (s0.trans sG)
   walk_at "C"
   ·walk_at "u"
   have wa:=z8 gz ez;obtain rfl:=bN e0
   walk_at "j"
   have bt:=bt.same sJ;have kJ:=kG.same sJ;have fw:=fl en;show#[ba.p,W,8,rfl,Fs.bad fw wJ bt]
  have wa:=z8 gz e
  walk_at "d"
  clear wa e;have kJ:=kG.same sJ;show#[ba.p,W,8,rfl,.inr #[L4 y.ba.q,[],(mm wJ).trans (by rw[iH]),rfl,S.ba,.inl #[ba.dx,ba.l,y.span,ba.q,y.ba.q,rfl,rfl,kJ.ba,fun d G2 nd hF bF=>?_]]]
  k_dat 7 "m"
  have kG2:=(kJ.pp.setB (f:=#[ba.p,ba.dx,d,y.ba.q]) rfl bF hF).kp (bF _ _ kJ.o (Kp.ap kJ).k7) kJ.nk
  skip
  clear kG sG kJ sJ wJ nW bF nd hF;have kG:=kG2;have sG:=sG2;clear kG2 sG2;dsimp only at kG;rcases ou.last with⟨rfl,q⟩|⟨n8,bt⟩;rotate_left
  ·refine hR _ _ #[_,rfl,cj (.inl (.inl (sG _ _ lD))) #[rfl,_,_,rfl,rfl,9,false,?_,bt.same (s0.trans sG)]];rw[decide_eq_false (by unfold lns;rw[aC,aC];intro z;have:=V.int.inj z;lia)];rfl
  refine hR _ _ #[_,rfl,cj (.inl (.inl (sG _ _ lD))) #[rfl,_,_,rfl,rfl,9,true,rfl,_,rfl,?_]];have fin:=q _ _ kG #[rfl,rfl,rfl,#[rfl,rfl,rfl],#[rfl,rfl,rfl],#[rfl,rfl,rfl,rfl,rfl,rfl,rfl,rfl],#[rfl,rfl,rfl,rfl,rfl,rfl,rfl,rfl],#[rfl,eW],#[rfl,rfl,rfl],rfl] (fun b m=>s0.free (fr b m)) (fun b m=>s0.free (by
   have m:b∈du::dd::dw::ds::(bu++bd):=m;simp only[aO,cF]at m;rcases m with rfl|rfl|rfl|rfl|m|m
   ·exact nu.1
   ·exact nv.1
   ·exact nw
   ·exact nx
   ·exact nu.2 b m
   ·exact nv.2 b m)) (s0.trans sG)
  exact fin
open MK
theorem Jd{a b:Tab}(h:a.Perm b):(keys a).Perm (keys b):=h.map _
theorem anS{a b:Tab}(h:a.Perm b):(vals a).Perm (vals b):=h.map _
theorem abU{a b:Tab}(na:(keys a).Nodup)(h:a.Perm b)(k:Int):low a k=low b k:=by
 have nb:(keys b).Nodup:=(Jd h).nodup_iff.mp na;by_cases m:k∈keys a
 ·k_dat (p,mp,cX.mp,m) "G"
  rw[jF na mp,jF nb (h.mem_iff.mp mp)]
 ·rw[jf m,jf fun z=>m ((Jd h).mem_iff.mpr z)]
theorem apB{c d:Tab}(n:(keys c).Nodup)(e:c.Perm d):gF c=gF d:=by
 refine aqU (le:=fun a b:Int × Int=>a.1<=b.1) (fun p q m1 m2 h1 h2=>?_) (Ml c) (Ml d) ((bW c).trans (e.trans (bW d).symm));have m1:=(bW c).mem_iff.mp m1;have m2:=e.symm.mem_iff.mp ((bW d).mem_iff.mp m2);have k:p.1=q.1:=by lia
 refine rF k ?_;rw[<-jF n m1,<-jF n m2,k]
theorem agH{c:Tab}(n:(keys c).Nodup):gF (gF c)=gF c:=(apB n (bW c).symm).symm
structure Nk(x:KS):Prop where
 c:(keys x.cm.c).Nodup
 w:(keys x.wn.c).Nodup
theorem anT{x:KS}(n:Nk x):gb (rdK x)=gb x:=by
 simp only[gb,fN,rdK,agH n.c,agH n.w]
theorem anU{x y:KS}(e:Eqp x y):gb x=gb y:=by
 unfold gb fN rT rN;rw[e.room,e.reach,e.span,e.cm.t,e.cm.l,e.cm.c,e.wn.t,e.wn.l,e.wn.c,e.up.tt,e.up.ov,e.up.un,e.up.tn,e.up.mi,e.up.ma,e.up.ls,e.dn.tt,e.dn.ov,e.dn.un,e.dn.tn,e.dn.mi,e.dn.ma,e.dn.ls,e.wi.c,e.wi.b,e.di.n,e.di.v,e.di.C,e.ba]
open MK
def Bo(e c:Int)(b:WN.Box):Prop:=0<b.f/\b.f<=b.l/\1<=b.s/\b.l<=c/\e<b.l
structure Wp(r e c:Int)(bs:List WN.Box):Prop where
 b:∀b∈bs,Bo e c b
 o:bs.Pairwise fun x y=>x.l<y.f
 m:WN.Multi r 0 bs.reverse
theorem Fy{r e:Int}:∀{os:List WN.Box}{S:Int},os.Pairwise (fun x y=>y.l<x.f)->(∀b∈os,b.f<=b.l)->WN.Multi r S os->WN.Multi r S (os.filter fun b=>decide (e<b.l))
 |[],_,_,_,_=>trivial
 |b::os,S,o,h,m=>by
  have o:=iG.mp o;rw[qW];split
  ·show#[m.1,Fy o.2 (fun x mx=>h x (cB _ mx)) m.2]
  ·rename_i z;have:os.filter (fun b=>decide (e<b.l))=[]:=Mr.mpr fun x mx=>by
    have h1:=o.1 x mx;have h2:=h b bV;have h3:¬ e<b.l:=fun y=>z (decide_eq_true y);simp only[decide_eq_true_eq];lia
   rw[this];trivial
theorem Rt{r e c:Int}:∀(os:List WN.Box)(S:Int)(b:WN.Box),(b::os).Pairwise (fun x y=>y.l<x.f)->(∀x∈b::os,Bo e c x)->(WN.settle r S b os).Pairwise (fun x y=>y.l<x.f)/\(∀x∈WN.settle r S b os,Bo e c x)/\∀t,(∀x∈b::os,x.l<t)->∀x∈WN.settle r S b os,x.l<t
 |[],S,b,o,h=>#[o,h,fun t g=>g]
 |q::os,S,b,o,h=>by
  obtain⟨o1,o2⟩:=iG.mp o;have hb:=h b bV;have hq:=h q (cB _ bV);have bq:=o1 q bV;rw[WN.fX];split
  ·obtain ⟨p1,p2,p3⟩:=Rt os S #[q.f,b.l,b.s+q.s] (iG.mpr #[(iG.mp o2).1,(iG.mp o2).2]) (fun x m=>by
    walk_at "q"
    ·show#[hq.1,by have:=hq.2.1;have:=hb.2.1;show q.f<=b.l;lia,by have:=hq.2.2.1;have:=hb.2.2.1;show 1<=b.s+q.s;lia,hb.2.2.2.1,hb.2.2.2.2]
    ·exact h x (cB _ (cB _ m)))
   show#[p1,p2,fun t g=>p3 t fun x m=>?_]
   walk_at "q"
   ·exact g b bV
   ·exact g x (cB _ (cB _ m))
  ·obtain⟨p1,p2,p3⟩:=Rt os (S+b.s) q o2 fun x m=>h x (cB _ m);show#[iG.mpr #[p3 b.f o1,p1],fun x m=>?_,fun t g x m=>?_]
   ·walk_at "q"
    ·exact hb
    ·exact p2 x m
   ·walk_at "q"
    ·exact g _ bV
    ·exact p3 t (fun y my=>g y (cB _ my)) x m
structure Wo(r e c:Int)(bs:List WN.Box):Prop where
 p:Wp r e c bs
 n:WN.yN r 0 bs.reverse
theorem Wp.settle{r d e c:Int}{bs:List WN.Box}(h:Wp r d c bs)(r0:0<=r):Wo r e c (gP r e bs):=by
 have f1:∀b∈(bs.filter fun b=>decide (e<b.l)).reverse,Bo e c b:=fun b m=>by
  obtain⟨m1,m2⟩:=nO.mp (qX.mp m);have:=h.b b m1;show#[this.1,this.2.1,this.2.2.1,this.2.2.2.1,of_decide_eq_true m2]
 have f2:(bs.filter fun b=>decide (e<b.l)).reverse.Pairwise fun x y=>y.l<x.f:=ach.mpr (h.o.filter _);have f3:WN.Multi r 0 (bs.filter fun b=>decide (e<b.l)).reverse:=by
  rw[<-List.filter_reverse];exact Fy (ach.mpr h.o) (fun b m=>(h.b b (qX.mp m)).2.1) h.m
 unfold gP;generalize (bs.filter fun b=>decide (e<b.l)).reverse=cs at f1 f2 f3;have k:(WN.settled r cs).Pairwise (fun x y=>y.l<x.f)/\∀x∈WN.settled r cs,Bo e c x:=by
  cases cs with
  |nil=>show#[List.Pairwise.nil,fun _ m=>nomatch m]
  |cons b os =>
   have:=Rt (r:=r) os 0 b f2 f1;show#[this.1,this.2.1]
 show#[#[fun b m=>k.2 b (qX.mp m),ach.mpr k.1,by rw[aij];exact WN.RX f3],by rw[aij];exact WN.RZ r0 fun x m=>by have:=(f1 x m).2.2.1;lia]
theorem Wp.le{r e c d:Int}{bs:List WN.Box}(h:Wp r e c bs)(l:c<=d):Wp r e d bs:=#[fun b m=>by have:=h.b b m;show#[this.1,this.2.1,this.2.2.1,by have:=this.2.2.2.1;lia,this.2.2.2.2],h.o,h.m]
theorem Wp.snoc{r e c w:Int}{bs:List WN.Box}(h:Wp r e c bs)(c0:0<=c)(w1:1<=w):Wp r 0 (c+1) (bs++[#[c+1,c+1,w]]):=by
 show#[fun b m=>?_,aif.mpr #[h.o,ah9 ..,fun x mx y my=>?_],?_]
 ·walk_at "v"
  ·obtain⟨a1,a2,a3,a4,-⟩:=h.b b m;show#[a1,a2,a3,by lia,by lia]
  ·rw[cI.mp m];show#[by show 0<c+1;lia,cQ _,w1,cQ _,by show 0<c+1;lia]
 ·rw[cI.mp my];have:=(h.b x mx).2.2.2.1;show x.l<c+1;lia
 ·rw[Vy];show#[fun z=>absurd rfl z,WN.Multi.mono (by show 0<=0+w;lia) h.m]
theorem aqk{c k:Int}:∀{bs:List WN.Box}{a:Int},(∀b∈bs,a<b.f/\Bo (c-k) c b)->bs.Pairwise (fun x y=>x.l<y.f)->Pl c k a bs
 |[],_,_,_=>trivial
 |b::_,_,h,o=>by
  obtain⟨h1,h2⟩:=h b bV;obtain⟨o1,o2⟩:=iG.mp o;show#[h1,h2.2.1,h2.2.2.1,h2.2.2.2.1,h2.2.2.2.2,aqk (fun x m=>#[o1 x m,(h x (cB _ m)).2]) o2]
theorem aql{r:Int}:∀{os:List WN.Box}{S:Int}{b:WN.Box},WN.Multi r (S+b.s) os->WN.yN r S (b::os)->Su r (S+b.s) b.s os
 |[],_,_,_,_=>trivial
 |o::os,S,b,m,n=>by
  show#[?_,by have:=n.1;rw[Int.add_comm o.s];lia,aql m.2 n.2];by_cases z:o.f=o.l
  ·exact .inl z
  ·exact .inr (m.1 z)
theorem Wo.su{r e c:Int}{bs:List WN.Box}(h:Wo r e c bs)(r1:1<=r):Su r 0 0 bs.reverse:=by
 have hb:∀x∈bs.reverse,1<=x.s:=fun x m=>(h.p.b x (qX.mp m)).2.2.1;have hm:=h.p.m;have hn:=h.n;generalize bs.reverse=cs at hb hm hn;cases cs with
 |nil=>trivial
 |cons b os =>
  show#[?_,?_,aql hm.2 hn]
  ·by_cases z:b.f=b.l
   ·exact .inl z
   ·exact .inr (hm.1 z)
  ·have:=adi (hb b bV) r1 tb_g% (by have:=hb b bV;lia);rw[ajY];lia
structure Ws(x:KS):Prop where
 c0:0<=x.wi.c
 w:Wo x.room (x.wi.c-x.reach) x.wi.c (bx x.wi.ps)
theorem Ws.row{r:R3}{x x':KS}(h:Ws x)(ok:r.ok)(s:SR r x x'):Ws x':=by
 have w1:=ok.w1;have c0:=h.c0;have b:=s.sb;have key:∀{c:Int}{bs:List WN.Box},WS x.room x.reach c bs x'.wi->0<=c->Wp x.room 0 c bs\/Wp x.room (x.wi.c-x.reach) c bs->Ws x':=fun {c bs} w z p=>by
  show#[by rwa[w.1],?_];rw[b.room,b.reach,w.2,w.1];exact p.elim (fun p=>p.settle tb_g%) fun p=>p.settle tb_g%
 unfold SR at s;split at s
 ·exact key s.wi tb_g% (.inl (h.w.p.snoc c0 w1))
 ·split at s
  ·exact key s.wi tb_g% (.inr (h.w.p.le tb_g%))
  ·exact key s.wi tb_g% (.inr (h.w.p.le tb_g%))
open MK
structure Gv(f:Rs):Prop where
 t:f.tt=0->f.tn=0
 b:∀lo hi,f.mi=some lo->f.ma=some hi->lo<=hi/\∀l∈f.ls,∀z∈l,lo<=z/\z<=hi
theorem abV{room:Nat}{f:Rs}{n:Nat}(k:Gr room f n)(h:f.tt=0):f.ls=[]:=aqS fun z=>by
 have h1:=RG.X4 k.g.fl z;have h2:=k.g.vl;have h3:0<2 ^ (f.ls.length-1):=ajG tb_g%;lia
theorem Gv.add{room:Nat}{f g:Rs}{n:Nat}{th w:Int}(h:Gv f)(km:Km f)(k:Gr room f n)(s:RS th w f g)(w1:1<=w):Gv g:=by
 have v:=k.g.vl;show#[fun z=>by rw[s.tt]at z;lia,fun lo hi e1 e2=>?_];rw[s.mi]at e1;rw[s.ma]at e2;rcases km with⟨z,m1,m2⟩|⟨_,a,b,m1,m2⟩
 ·rw[m1]at e1;rw[m2]at e2;obtain rfl:=bN e1;obtain rfl:=bN e2;show#[cQ _,s.st.mem (P:=fun z=>th<=z/\z<=th) (RG.HS th #[cQ _,cQ _] _ _ (by rw[abV k z];exact fun _ m=>nomatch m))]
 ·obtain⟨h1,h2⟩:=h.b a b m1 m2;rw[m1]at e1;rw[m2]at e2;obtain rfl:=bN e1;obtain rfl:=bN e2;show#[by lia,s.st.mem (P:=fun z=>min a th<=z/\z<=max b th) (RG.HS th tb_g% _ _ fun l m z mz=>by have:=h2 l m z mz;lia)]
theorem Th.ten{z:Int}(h:Th z):0<=z/\z<10 ^ 60:=#[h.1,Int.lt_trans h.2 tb_g%]
theorem Gu.rl{room:Nat}{f:Rs}{n m:Nat}(u:Gu f m)(fm:m<=1000)(g:Gr room f n)(few:n<=63)(v:Gv f):Rl f:=by
 have gl:=ql g.g g.t few;have r2:=g.g.r2;have r64:=g.g.r64;have vl:=g.g.vl;have o0:=g.g.ov0;have u0:=g.g.un0;have zz:f.tt=0->f.ls=[]/\f.ov=0/\f.un=0/\f.tn=0:=fun z=>by
  have e:=abV g z;have pt:=g.g.pt;rw[e]at pt;have h2:(f.ov+f.un)*f.r<=0:=pt;have h3:(f.ov+f.un)*2<=(f.ov+f.un)*f.r:=NQ r2 tb_g%;show#[e,by lia,by lia,v.t z]
 show#[fun z mz=>(u.nums fm g few z mz).ten,fun l ml=>#[fun z mz=>(u.ls l ml z mz).ten,by have:=g.g.small l ml;lia],fun z=>?_,?_,zz,fun z=>?_,vl,by have:=gl.1;lia,fun l ml=>#[g.g.sm l ml,?_,g.g.sd l ml],?_,by lia,r64]
 ·rcases u.km with⟨_,a,b⟩|⟨a,_⟩
  ·show#[a,b]
  ·exact absurd z a
 ·unfold rT;have:=Ri g.g.small;have:(rN f).length<=6:=by
   unfold rN;cases f.mi <;> cases f.ma <;> (show _<=6;simp)
  rw[bB,aC];have:=gl.1;lia
 ·rcases u.km with⟨a,_⟩|⟨_,lo,hi,m1,m2⟩
  ·exact absurd a z
  ·obtain⟨b1,b2⟩:=v.b lo hi m1 m2;show#[fun e=>?_,g.g.fl,lo,hi,m1,m2,b1,(u.ma hi m2).2,b2];rw[e]at vl;exact z vl.symm
 ·have e:=g.r;have:=g.g.sm l ml;rcases g.sm with h|h
  ·lia
  ·have:=h l ml;lia
 ·by_cases z:f.tt=0
  ·exact .inr z
  ·refine .inl (g.g.near fun e=>z ?_);rw[e]at vl;exact vl.symm
theorem aqm{v:Int}{C:List Int}(h:C.Nodup):(up v C).Nodup:=h.filter _
theorem apC{C:List Int}{k:Int}(h:C.Nodup):(came C k).Nodup:=by
 unfold came;split
 ·exact h
 ·rename_i z;exact FW.mpr #[h,by simp,fun a m b n e=>z (by rw[cI.mp n]at e;exact e ▸ m)]
theorem dz{z j:Int}(z0:0<=z)(z1:z<1152921504606846976)(e:z=1152921504606846976*j):z=0:=by lia
theorem up60{C:List Int}(nd:C.Nodup)(h:∀z∈C,Th z):(up 60 C).length<=1:=by
 have a:∀z∈up 60 C,z=0:=fun z m=>by
  obtain⟨m1,m2⟩:=nO.mp m;have hz:=h z m1;have m2:60<=mkOf z:=of_decide_eq_true m2;obtain⟨k,mk⟩:=Mi z;have e:=mk_eq mk;rcases mk with⟨r,_⟩|mk
  ·have d:(1152921504606846976:Int) ∣ z*(770093176312745717*556681644477181277):=by
    rw[<-BW];exact ajX (Int.dvd_of_emod_eq_zero r) (ajT _ _)
   rw[show(770093176312745717*556681644477181277:Int)=1+1152921504606846976*371835145825147308 from rfl,ado,adl]at d;obtain⟨j,e⟩:=(Int.dvd_add_left (ajX (ajT _ _) (Int.dvd_mul_left z _))).mp d;exact dz hz.1 hz.2 e
  ·have:=mk.lt (yc _ tb_g%) (xZ _ tb_g%);lia
 have n:=aqm (v:=60) nd;generalize up 60 C=l at a n
 match l with
 |[]=>exact cJ _
 |[_]=>exact aJ _
 |x::y::_=>exact absurd ((a x bV).trans (a y (cB _ bV)).symm) fun e=>(iR.mp n).1 (e ▸ bV)
theorem Fe.sixty{r v:Int}{C:List Int}(h:Fe r v C)(r1:1<=r)(nd:C.Nodup)(th:∀z∈C,Th z):v<=60:=by
 have:=h.le tb_g%;rcases(show v<=60\/60<v by lia)with z|z
 ·exact z
 ·have:=h.2.2 60 tb_g% z;have:=up60 nd th;lia
structure Kz(x:KS):Prop where
 up:Gv x.up.x
 dn:Gv x.dn.x
 wi:Ws x
 nd:x.di.C.Nodup
 n:(x.di.C.length:Int)<=x.di.n
 rc:1<=x.reach/\x.reach<=1000000000
 sp:1<=x.span
theorem Kz.row{r:R3}{x x':KS}{n m:Nat}(h:Kz x)(k:Kh x n)(b:Nb x m)(ok:r.ok)(s:SR r x x'):Kz x':=by
 have w:=h.wi.row ok s;have w1:=ok.w1;have sb:=s.sb;have rc:1<=x'.reach/\x'.reach<=1000000000:=by rw[sb.reach];exact h.rc
 have sp:1<=x'.span:=by rw[sb.span];exact h.sp
 unfold SR at s;split at s
 ·show#[h.up.add b.up.km k.up s.up w1,by rw[s.dn];exact h.dn,w,by rw[s.di.2.1];exact apC h.nd,?_,rc,sp];rw[s.di.1,s.di.2.1];have:=(abF x.di.C r.th).2;have:=h.n;lia
 ·split at s
  ·show#[by rw[s.up];exact h.up,h.dn.add b.dn.km k.dn s.dn w1,w,by rw[s.di];exact h.nd,by rw[s.di];exact h.n,rc,sp]
  ·show#[by rw[s.up];exact h.up,by rw[s.dn];exact h.dn,w,by rw[s.di];exact h.nd,by rw[s.di];exact h.n,rc,sp]
theorem Gf.sf{room:Nat}{f:Fq}{n:Nat}(g:Gf room f n)(few:n<=63)(h:∀k∈keys f.c,Th k):Sf room f:=by
 obtain⟨W,ok⟩:=g.ok;have p:=bW f.c;show#[fun z m=>(g.nums few h z m).ten,?_,fun k m=>(h k ((Jd p).mem_iff.mp m)).2,fun q m=>ok.pos q (p.mem_iff.mp m),by rw[p.length_eq];exact ok.len,by rw[DN (anS p)];exact ok.sum];have n1:(keys (gF f.c)).Nodup:=(Jd p).nodup_iff.mpr ok.nd;have n2:(keys (gF f.c)).Pairwise (· <= ·):=ais.mpr (Ml f.c);exact(n2.and n1).imp fun h=>by have:=h.1;have:=h.2;lia
theorem Kz.sd{x:KS}{n m:Nat}(h:Kz x)(k:Kh x n)(b:Nb x m)(fm:m<=1000):Sd x:=by
 have few:=k.few;have r2:=k.r2;have ur:=k.up.r;have ev:=k.up.g.ev;have sn:=b.sn;have c0:=h.wi.c0;have w:=h.wi.w;have lt:=b.dn1;have n1:(srt (My.up x.di.v x.di.C)).Nodup:=(fU _).nodup_iff.mpr (aqm h.nd);have l1:=fZ (My.up x.di.v x.di.C);have l2:∀v,(My.up v x.di.C).length<=x.di.C.length:=fun v=>Dg _ _;have l3:=h.n;show#[b.kx fm k,#[by lia,r2,k.r64],h.rc,#[h.sp,sn.2],k.cm.sf few b.cm,k.wn.sf few b.wn,b.up.rl fm k.up few h.up,ur,b.dn.rl fm k.dn few h.dn,k.dn.r,fun z m=>(b.wins fm z m).ten,aqk (fun o mo=>#[(w.p.b o mo).1,w.p.b o mo]) w.p.o,w.su tb_g%,fun z m=>(b.seen fm k z m).ten,k.dl.sixty tb_g% h.nd b.dc,((vH _).and n1).imp fun h=>by have:=h.1;have:=h.2;lia,fun z m=>?_,by rw[l1];exact k.dl.2.1,fun _=>?_,fun z=>?_,fun z m=>?_]
 ·obtain⟨m1,m2⟩:=nO.mp ((fU _).mem_iff.mp m);show#[(b.dc z m1).2,fun k mk=>by rw[mk_eq mk];exact of_decide_eq_true m2]
 ·have:=l2 x.di.v;lia
 ·have v0:=k.dl.1;have:=k.dl.2.2 (x.di.v-1) tb_g% tb_g%;have:((My.up (x.di.v-1) x.di.C).length:Int)<=x.di.C.length:=by have:=l2 (x.di.v-1);lia
  lia
 ·exact nZ (bQ (b.ba z m) (Dj _ fm)) tb_g%
open MK
theorem Nb.eq{x y:KS}{n:Nat}(h:Nb y n)(e:Eqp x y):Nb x n:=by
 have gu:∀{f g:Rs},ER f g->Gu g n->Gu f n:=fun {f g} e1 g1=>#[by have:=g1.km;unfold Km at *; rwa[e1.tt,e1.mi,e1.ma],by rw[e1.mi];exact g1.mi,by rw[e1.ma];exact g1.ma,by rw[e1.ls];exact g1.ls,by rw[e1.tn];exact g1.t0,by rw[e1.tn];exact g1.tn];show#[by rw[e.reach];exact h.rc,by rw[e.span];exact h.sn,by rw[e.cm.c];exact h.cm,by rw[e.wn.c];exact h.wn,gu e.up h.up,gu e.dn h.dn,by rw[e.wi.c];exact h.c0,by rw[e.wi.c];exact h.c1,by rw[e.wi.c,e.wi.b];exact h.wi,by rw[e.di.n];exact h.dn0,by rw[e.di.n];exact h.dn1,by rw[e.di.v];exact h.dv,by rw[e.di.C];exact h.dc,by rw[e.ba];exact h.ba]
theorem Gf.srt{room:Nat}{f:Fq}{n:Nat}(g:Gf room f n):Gf room { f with c:=gF f.c } n:=by
 obtain⟨W,ok⟩:=g.ok;have p:=bW f.c;have nd:(keys (gF f.c)).Nodup:=(Jd p).nodup_iff.mpr ok.nd;show#[#[W,nd,fun q m=>ok.pos q (p.mem_iff.mp m),by rw[p.length_eq];exact ok.len,ok.l0,by rw[DN (anS p)];exact ok.sum,fun k=>by rw[abU nd p k];exact ok.lo k,fun k=>by rw[abU nd p k];exact ok.hi k],g.t,by rw[p.length_eq];exact g.k]
theorem Ws.eq{x y:KS}(h:Ws y)(e:Eqp x y):Ws x:=#[by rw[e.wi.c];exact h.c0,by rw[e.room,e.reach,e.wi.c,e.wi.b];exact h.w]
theorem Kz.eq{x y:KS}(h:Kz y)(e:Eqp x y):Kz x:=by
 have gv:∀{f g:Rs},ER f g->Gv g->Gv f:=fun {f g} e g=>#[by rw[e.tt,e.tn];exact g.t,by rw[e.mi,e.ma,e.ls];exact g.b];show#[gv e.up h.up,gv e.dn h.dn,h.wi.eq e,by rw[e.di.C];exact h.nd,by rw[e.di.C,e.di.n];exact h.n,by rw[e.reach];exact h.rc,by rw[e.span];exact h.sp]
structure Al(x:KS)(n m:Nat):Prop where
 kh:Kh x n
 nb:Nb x m
 kz:Kz x
theorem Al.eq{x y:KS}{n m:Nat}(h:Al y n m)(e:Eqp x y):Al x n m:=#[h.kh.eq e,h.nb.eq e,h.kz.eq e]
theorem Al.nk{x:KS}{n m:Nat}(h:Al x n m):Nk x:=by
 obtain⟨_,o1⟩:=h.kh.cm.ok;obtain⟨_,o2⟩:=h.kh.wn.ok;show#[o1.nd,o2.nd]
theorem Al.rd{x:KS}{n m:Nat}(h:Al x n m):Al (rdK x) n m:=by
 have k:=h.kh;have b:=h.nb;have z:=h.kz;have t:∀{c:Tab},(∀k∈keys c,Th k)->∀k∈keys (gF c),Th k:=fun {c} h k m=>h k ((Jd (bW c)).mem_iff.mp m);show#[#[k.r2,k.r64,k.rr,k.cm.srt,k.wn.srt,k.up,k.dn,k.wl,k.dl,k.dc,k.few],#[b.rc,b.sn,t b.cm,t b.wn,b.up,b.dn,b.c0,b.c1,b.wi,b.dn0,b.dn1,b.dv,b.dc,b.ba],#[z.up,z.dn,#[z.wi.c0,z.wi.w],z.nd,z.n,z.rc,z.sp]]
structure Sh(room:Nat)(reach span:Int):Prop where
 r2:2<=room
 r64:room<=64
 ev:room % 2=0
 rr:room<=15\/room=64
 rc:1<=reach/\reach<=1000000000
 sp:1<=span/\span<=1000000000
structure Is3(room:Nat)(reach span:Int)(x:KS):Prop where
 a:x.room=room
 b:x.reach=reach
 c:x.span=span
def Rc(room:Nat)(reach span:Int):List R3->KS->Prop
 |[],x=>Eqp x (K0 room reach span)
 |r::rs,x'=>∃x,Rc room reach span rs x/\SR r x x'
section
variable{room:Nat}{reach span:Int}
theorem Rc.al(s:Sh room reach span):∀{rs:List R3}{x:KS},Rc room reach span rs x->(∀r∈rs,r.ok)->rs.length<=63->Al x rs.length rs.length/\Is3 room reach span x
 |[],x,h,_,_=>by
  have rc:=s.rc;have sp:=s.sp;have k0:=kh0 reach span s.r2 s.r64 s.ev s.rr;have g0:Gv (R0 room):=⟨fun _=>rfl,fun _ _ e=>(nomatch e)⟩;have w0:Ws (K0 room reach span):=⟨cQ _,⟨⟨fun _ m=>(nomatch m),List.Pairwise.nil,trivial⟩,trivial⟩⟩;exact⟨Al.eq ⟨k0,nb0 ⟨by lia,by lia⟩ ⟨⟨by lia,by lia⟩,sp.2⟩,⟨g0,g0,w0,FZ,cQ _,rc,sp.1⟩⟩ h,⟨h.room,h.reach,h.span⟩⟩
 |r::rs,x',h,ok,l=>by
  obtain⟨x,h1,h2⟩:=h;rw[bh]at l;obtain⟨a,i⟩:=Rc.al s h1 (fun q m=>ok q (cB _ m)) tb_g%;have o:=ok r bV;have k:=a.kh.row tb_g% o h2;have sb:=h2.sb;show#[#[k,a.nb.row a.kh k o h2,a.kz.row a.kh a.nb o h2],#[sb.room.trans i.a,sb.reach.trans i.b,sb.span.trans i.c]]
end
open MK
def spRef(A:Ad):Sp:=fun vs H Q _=>Ex3 fun(zs:Zs) (y:KS) (k:Nat)=>KQ (vs=[.str (bZ nl1 (lns zs)),.int (k+1:Nat)]) (Gz zs) ((zs≠[]/\zs.length<=9)) (Sd y) (Fau y k zs) (∀H',Same H H'->Q (.bl true) H')
theorem ZJ(T:Tx K mg A):FnK P w base T.zf CX0 12 (spRef A):=by
 k_dat (T.zf,T.zf.ok,nH) "f"
 ·obtain ⟨zs,y,k,rfl,gz,nz,S,F,q⟩:=h;show#[_,(uc (psS 2 nH.nd (Xr cR))
   (uc (aoC (i:=3) (B:=A.C'6) rfl rfl rfl T.Vh nH.nd rfl rfl (aoB (uJ T).2 tb_g% rfl T.fC.g T.fC.kp T.fC.b .nil (aM (pv 0) cR)) (fun _=>(uc (psS 2 nH.nd (Xr (aM (amU (pv 3) rfl) (aM (cV Qa (by rfl) T.jm NZ (aM (pv 3) (aM (dU (v:=.ref A.C'7) (by rfl) T.Js (by rfl)) cR))) (aM (cV Qa (by rfl) T.jm NZ (aM (pv 3) (aM (Xn (v:=.ty "ValueError") rfl T.YW PyProof.Rows.Boot.«ValueError» rfl) cR))) cR)))))
   (Dt (Xo (asD N8 akr aks Hy (pv 2) (aM (cV abb (by rfl) T.jm NZ (aM (pv 3) (aM (alD (aM (dU (v:=.ref A.C'8) (by rfl) T.YL (by rfl)) (aM (dU (v:=.ref A.C'9) (by rfl) T.ahG (by rfl)) (aM (dU (v:=.ref A.Xj) (by rfl) T.YM (by rfl)) (aM (dU (v:=.ref A.Xk) (by rfl) T.am9 (by rfl)) cR))))) cR))) cR)))))))
   (uc (apK (PW.pt (pw_or (zL apL (cV Uo (by rfl) T.ap6 ajh (aM (pv 2) cR)) Hv (vB _)) (pw_or (ali (ad2 (cV call_isinstance (by rfl) T.jm NZ (aM (aat (ixG (alN hr)) (pv 2) Hv (fun _ _=>rfl)) (aM (Xn (v:=.ty "int") rfl T.ap5 akd rfl) cR))))) (pw_or1 (ad2 (cV call_isinstance (by rfl) T.jm NZ (aM (aat (ixG (alN hr)) (pv 2) Hv (fun _ _=>rfl)) (aM (Xn (v:=.ty "bool") rfl T.asL aqs rfl) cR)))))))) (Dt (ad3 aak)) afG)
   (Dt (ad3 (Du (amx hr.units) (pv 2) (Xr (aM (pv 1) (aM aak (aM aak (aM aak cR))))) (vB _))))))),?_]
  show#[tb_g%,fun D hD=>?_]
  k_dat (nwA hD,H1,s1,fH1) "n"
  show#[_,rfl,zs,y,rfl,gz,nz,S,.inr #[k,cJ _,F,fun d H2 s2 x2=>#[A.C'6,rfl,T.CG,fun e he=>?_]]];have ne:d≠e:=ak x2 he;have s3:=s2.trans (Same.new (o:=Cm e A.C'6 (some d)) he);have ee:(upd H2 e (Cm e A.C'6 (some d))) e=some (Cm e A.C'6 (some d)):=aj;have xd:(upd H2 e (Cm e A.C'6 (some d))) d=some (.xd [("line",.int (k+1:Nat))]):=by rwa[ao ne]
  generalize upd H2 e (Cm e A.C'6 (some d))=H3 at s3 ee xd ⊢;show#[_,rfl,e,A.C'6,d,_,_,rfl,ee,xd,T.vO,T.Cz.na,T.Cz.hd,rfl,?_];show#[_,rfl,#[e,A.C'6,_,_,_,true,rfl,ee,T.vO,rfl,(fun _ h=>h),T.cT,?_]];show#[_,rfl,#[e,A.C'6,_,_,_,true,rfl,ee,T.vO,rfl,(fun _ h=>h),T.cN,?_]];show#[tb_g%,fun L hL=>?_]
  k_dat (nwA hL,H4,s4,l4) "n"
  show#[_,rfl,.inl #[rfl,_,.inl (.inl l4)],_,rfl,tb_g%,fun tp htp=>?_]
  k_dat (nwA htp,H5,s5,t5) "n"
  show#[e,A.C'6,tp,_,[A.C'8,A.C'9,A.Xj,A.Xk],false,rfl,s5 _ _ (s4 _ _ ee),T.vO,t5,T.jE,?_];show#[L,_,_,rfl,rfl,s5 _ _ l4,tb_g%,?_];have nL:H3 L=none:=hL;have s6:Same H3 (upd H5 L (.lst ([.int (k+1:Nat),.bl true,.bl true]++[.bl false]))):=fun b o z=>by rw[ao (ak z nL)];exact s5 _ _ (s4 b o z)
  have l6:(upd H5 L (.lst ([.int (k+1:Nat),.bl true,.bl true]++[.bl false]))) L=some (.lst [.int (k+1:Nat),.bl true,.bl true,.bl false]):=aj;generalize upd H5 L (.lst ([.int (k+1:Nat),.bl true,.bl true]++[.bl false]))=H6 at s6 l6 ⊢;have sL:SqL K H6 L [.int (k+1:Nat),.bl true,.bl true,.bl false]:=.inl (.inl l6);show#[_,rfl,cj sL #[rfl,_,rfl,aaB rfl ?_]];show#[_,rfl,cH sL (v:=.int (k+1:Nat)) rfl (al4 T.ahI #[_,rfl,qm ?_])];show#[_,rfl,cH sL (v:=.int (k+1:Nat)) rfl (al4 T.afc #[_,rfl,qm ?_])];show#[_,rfl,_,rfl,tb_g%,fun M hM=>?_];have s7:=Same.new (o:=.lst [.int (k+1:Nat),.bl true,.bl true,.bl false]) hM;show#[1,L,M,rfl,rfl,by decide,.lst (.inl (.inl (s7 _ _ l6))) (.inl (.inl aj)) rfl (fun i x y h1 h2=>?_),q _ (s1.trans (s3.trans (s6.trans s7)))];obtain rfl:=bN (h1.symm.trans h2);have m:=xj h1
  k_dat m "D"
  rcases m with rfl|rfl|rfl|rfl <;> exact .flat rfl
open MK
abbrev tN(n:Nat):Str:=Dec.tx (Dec.dg n)
theorem aqn{n:Int}(h:0<=n):sI n=tN n.toNat:=by
 unfold sI;rw[show n=(n.toNat:Int) by lia,Dec.jV,adg]
theorem ZL{ns:List Int}{w:Str}{r:List Str}(h:∀n∈ns,0<=n/\n<10 ^ 60)(l:ns.length<=900)(b:Bw w):Bg (ns.map sI++w::r):=by
 show#[ns.map rC,w,r,?_,fun n m=>?_,by rwa[aC],b]
 ·rw[fj];congr 1;exact wB fun n m=>aqn (h n m).1
 ·k_dat (k,mk,cX.mp,m) "G"
  have:=h k mk;lia
theorem apD{P:Nat->Prop}{ns:List Int}(h:∀n∈ns,0<=n/\n<10 ^ 60)(l:ns.length<=900)(p:P ns.length):Fn P (ns.map sI):=by
 refine .inr #[ns.map rC,?_,#[fun n m=>?_,by rwa[aC]],by rwa[aC]]
 ·rw[fj];exact wB fun n m=>aqn (h n m).1
 ·k_dat (k,mk,cX.mp,m) "G"
  have:=h k mk;lia
theorem Rv:∀(ws cur:List Str),∃m gs,prt cur ws=(cur++m)::gs
 |[],cur=>#[[],[],by rw[iH];rfl]
 |w::ws,cur=>by
  by_cases e:w=sl1
  ·show#[[],prt [] ws,by rw[iH];show(if w=sl1 then _ else _)=_;rw[if_pos e]]
  ·obtain⟨m,gs,h⟩:=Rv ws (cur++[w]);show#[w::m,gs,by show(if w=sl1 then _ else prt (cur++[w]) ws)=_;rw[if_neg e,h,dO];rfl]
abbrev fg(gs:List (List Str)):List Str:=gs.flatMap fun g=>sl1::g
theorem agI:∀(gs:List (List Str)),(∀g∈gs,∀w∈g,w≠sl1)->∀cur u,prt cur (fg gs++sl1::u)=cur::(gs++prt [] u)
 |[],_,cur,u=>by
  show(if sl1=sl1 then cur::prt [] u else _)=_;rw[if_pos rfl];rfl
 |g::gs,h,cur,u=>by
  rw[fg,tO,dO,qU];show(if sl1=sl1 then cur::prt [] (g++(fg gs++sl1::u))else _)=_;rw[if_pos rfl,kZ (h g bV),nM,agI gs (fun k m=>h k (cB _ m))];rfl
theorem agJ:∀(gs:List (List Str)) (k:Nat),(fg gs).take k=[]\/∃i j g,gs[i]? = some g/\(fg gs).take k=fg (gs.take i)++sl1::g.take j
 |[],k=>.inl (by rw[fg,List.flatMap_nil,VF])
 |_::_,0=>.inl rfl
 |g::gs,k+1=>by
  refine .inr ?_;have e:(fg (g::gs)).take (k+1)=sl1::(g.take k++(fg gs).take (k-g.length)):=by
   rw[fg,tO,qU,Vw,aiw]
  rcases agJ gs (k-g.length)with z|⟨i,j,g',h1,h2⟩
  ·show#[0,k,g,rfl,by rw[e,z,iH];rfl]
  ·show#[i+1,j,g',h1,?_];have l:g.length<=k:=WL fun lt=>by
    rw[show k-g.length=0 by lia]at h2;have:=congrArg gZ h2;rw[bB,bh]at this;simp at this
   rw[e,Jj l,h2];show _=fg (g::gs.take i)++_;rw[fg,fg,tO,qU,qU,dO]
theorem anV(y:Rs):rT y=(rN y).map sI++fg (y.ls.map (·.map sI)):=by
 unfold rT rW;rw[fg,aiv]
theorem Vm{y:Rs}(L:Rl y){k:Nat}{w:Str}{r:List Str}(b:Bw w)(nw:w≠sl1)(l:((rT y).take k++w::r).length<=9000):Fr y.r ((rT y).take k++w::r):=by
 show#[l,?_];have f1:∀n,∀u∈((rN y).take n).map sI,u≠sl1:=fun n u m=>by
  k_dat (n,mn,cX.mp,m) "G"
  exact JF n (L.n n (tM mn)).1
 have f2:∀g∈y.ls.map (·.map sI),∀u∈g,u≠sl1:=fun g m u mu=>by
  k_dat (l,ml,cX.mp,m) "G"
  k_dat (n,mn,cX.mp,mu) "G"
  exact JF n ((L.l l ml).1 n mn).1
 have n6:(rN y).length<=6:=by
  unfold rN;cases y.mi <;> cases y.ma <;> (show _<=6;simp)
 have one:∀c:List Str,prt c (w::r)=prt (c++[w]) r:=fun c=>by
  show(if w=sl1 then _ else _)=_;rw[if_neg nw]
 rw[anV,aiw,aC];rcases agJ (y.ls.map (·.map sI)) (k-(rN y).length)with z|⟨i,j,g,h1,h2⟩
 ·refine .inl ?_;rw[z,iH,<-iT,kZ (f1 k),nM,one];obtain⟨m,gs,h⟩:=Rv r (((rN y).take k).map sI++[w]);rw[h,dO];show#[_,_,rfl,ZL (fun n m=>L.n n (tM m)) (by rw[d8];lia) b]
 ·refine .inr #[{ y with ls:=y.ls.take i },?_];obtain⟨lg,hl,rfl⟩:∃lg,y.ls[i]? = some lg/\g=lg.map sI:=by
   rw[dF]at h1;obtain⟨lg,a,b⟩:=j6.mp h1;show#[lg,a,b.symm]
  have lt:(rN y).length<=k:=WL fun lt=>by
   rw[show k-(rN y).length=0 by lia]at h2;have:=congrArg gZ h2;rw[bB,bh]at this;simp at this
  have Lg:=L.l lg (xj hl);rw [<- iT,<- iT] at h2;rw [<- iT,Jj lt,h2,dO,dO,qU,kZ (fun u m=>f1 (rN y).length u (by rw [nJ];exact m)),nM,
   agI _ (fun g m=>f2 g (tM (by rw [<- iT];exact m))),kZ (fun u m=>by
    k_dat (n,mn,cX.mp,m) "G"
    exact JF n (Lg.1 n (tM mn)).1),nM,one]
  obtain⟨m,gs,h⟩:=Rv r ((lg.take j).map sI++[w]);rw[h,dO];have q:=L.rq;show#[_,rfl,L.n,.inr #[_,rfl,rfl,#[fun l m=>q.l l (tM m),q.z,q.w,by show(y.ls.take i).length<=900;rw[d8];have:=q.k;lia],.inr #[_,_,rfl,?_]]];exact ZL (fun n m=>Lg.1 n (tM m)) (by rw[d8];have:=Lg.2;lia) b
theorem abW(l:List Int)(z:Int):∀ls:RG.Ls,RG.val (ls++[l++[z]])=RG.val (ls++[l])+2 ^ ls.length
 |[]=>by
  show(l++[z]).length+2*0=l.length+2*0+1;rw[bB];rfl
 |k::ls=>by
  show k.length+2*RG.val (ls++[l++[z]])=k.length+2*RG.val (ls++[l])+2 ^ (ls.length+1);rw[abW l z ls,mQ];lia
theorem Rw{y:Rs}(L:Rl y)(f:(rT y).length<=8999):Fr y.r (rT y++[sI 1]):=by
 show#[by rw[bB];show _+1<=_;lia,.inr ?_];by_cases h:y.tt=0
 ·obtain⟨m1,m2⟩:=L.z h;obtain⟨z,_⟩:=L.s.z h;have e:rT y++[sI 1]=(rN { y with mi:=some 1 }).map sI:=by
   rw[anV,z];unfold rN;rw[m1,m2];rfl
  have n:∀n∈rN { y with mi:=some 1 },0<=n/\n<10 ^ 60:=fun n m=>by
   have m:n∈rN y\/n=1:=by
    unfold rN at m ⊢;rw[m1,m2];rw[m2]at m;simpa[or_assoc]using m
   rcases m with m|rfl
   ·exact L.n n m
   ·decide
  show#[{ y with mi:=some 1 },[],?_,n,.inl #[h,?_]]
  ·have:=kZ (hs:=(rN { y with mi:=some 1 }).map sI) (fun u m=>by
    k_dat (k,mk,cX.mp,m) "G"
    exact JF k (n k mk).1) [] []
   rw[iH]at this;rw[e,this];rfl
  ·unfold rN;show(_++([(1:Int)]++y.ma.toList)).length=5;rw[m2];rfl
 ·obtain⟨ne,fl,lo,hi,m1,m2,lh,hm,bd⟩:=L.s.n h;obtain⟨ls,l,e⟩:∃(ls:List (List Int)) (l:List Int),y.ls=ls++[l]:=#[y.ls.dropLast,y.ls.getLast ne,(List.dropLast_concat_getLast ne).symm];have ml:l∈y.ls:=by rw[e];simp
  have ew:rT y++[sI 1]=(rN y).map sI++fg ((ls++[l++[1]]).map fun k:List Int=>k.map sI):=by
   rw[anV,e,fg,fg,dO,bG,bG,Ax,Ax,dO];simp
  have Ll:=L.l l ml;have rg:∀k∈ls++[l++[1]],(∀n∈k,0<=n/\n<10 ^ 60)/\k.length<=900:=fun k m=>by
   walk_at "v"
   ·exact L.l k (by rw[e];exact Ms _ m)
   ·rw[cI.mp m];have:=(L.s.d l ml).2.1;show#[fun n mn=>?_,by rw[bB];show _+1<=_;lia];rcases cF.mp mn with mn|mn
    ·exact Ll.1 n mn
    ·rw[cI.mp mn];decide
  show#[{ y with ls:=ls++[l++[1]] },((ls++[l++[1]]).map fun k:List Int=>k.map sI),?_,L.n,.inr #[[],by rw[iH],rfl,#[rg,L.z,fun _=>#[lo,hi,m1,m2],?_],.inl #[rfl,h,#[?_,?_,lo,hi,m1,m2,lh,hm],?_,?_]]]
  ·rw [ew,kZ (fun u m=>by
    k_dat (k,mk,cX.mp,m) "G"
    exact JF k (L.n k mk).1),nM,Dc _ fun g m u mu=>by
    k_dat (k,mk,cX.mp,m) "G"
    k_dat (n,mn,cX.mp,mu) "G"
    exact JF n ((rg k mk).1 n mn).1]
   rfl
  ·show(ls++[l++[1]]).length<=900;have:=L.s.l;rw[e,bB]at this;rwa[bB]
  ·simp
  ·intro a ha;have ha:(ls++[l++[1]]).getLast? = some a:=ha;rw[List.getLast?_append]at ha;have ha:l++[1]=a:=bN ha;rw[<-ha];simp
  ·show ¬ ((RG.val (ls++[l++[1]]):Nat):Int)=y.tt;have v:=L.s.v;rw[e]at v;rw[abW];have:0<2 ^ ls.length:=ajG tb_g%;lia
  ·show(ls++[l++[1]]).length<=900;have:=L.s.l;rw[e,bB]at this;rwa[bB]
open MK
def bads:List Str:=[aD "x",aD "01",aD "+1",aD "1.0",#[(gY 61 49).toArray],aD "",aD "1/",aD "-0",aD "-",aD "--1",aD "0x1"]
def bz(c:List Nat):Bool:=match c with
 |45::t=>!gw t || t == [48]
 |c=>!gw c
structure Bd(w:Str):Prop where
 b:Bw w
 z:Bz w
 g:Gb w
 s:w≠sl1
 l:w.length<=61
theorem atx{w:Str}(h:(!gw w.cps.toList && bz w.cps.toList && !w.cps.toList.contains 32 && !w.cps.toList.contains 10 && decide (w.length<=61) && w.cps.toList != [47])=true):Bd w:=by
 simp only[adb,ajJ,decide_eq_true_eq,bne_iff_ne,ne_eq]at h;obtain⟨⟨⟨⟨⟨h1,h2⟩,h3⟩,h4⟩,h5⟩,h6⟩:=h;have bw:Bw w:=#[by lia,h1];show#[bw,?_,#[fun m=>ajK (h3.symm.trans (aie.mpr m)),fun m=>ajK (h4.symm.trans (aie.mpr m))],fun e=>h6 (by rw[e];decide +kernel),h5];have ew:w=#[w.cps.toList.toArray]:=by cases w;simp
 cases e:w.cps.toList with
 |nil=>exact .inl #[by rw[ew,e];decide +kernel,bw]
 |cons c t =>
  by_cases z:c=45
  ·subst z;rw[e]at h2 ew;refine .inr #[t,ew,?_];have h2:(!gw t || t == [48])=true:=h2;rcases Bool.or_eq_true_iff.mp h2 with g|g
   ·refine .inl #[?_,by simpa using g];have:w.cps.toList.length=w.length:=tU;rw[e,bh]at this;show t.length<=1000;lia
   ·exact .inr (by simpa using g)
  ·exact .inl #[by rw[z45,Fp e,decide_eq_false z],bw]
theorem agK{w:Str}(h:w∈bads):Bd w:=by
 have:∀w∈bads,(!gw w.cps.toList && bz w.cps.toList && !w.cps.toList.contains 32 && !w.cps.toList.contains 10 && decide (w.length<=61) && w.cps.toList != [47])=true:=by decide +kernel
 exact atx (this w h)
theorem aty{xs:List V}{i:Int}(h0:0<=i)(h1:i<xs.length):∃v∈xs,atI xs i=some v:=by
 have hl:i.toNat<xs.length:=by lia
 obtain⟨n,rfl⟩:∃n:Nat,i=n:=#[i.toNat,by lia];show#[_,acp hl,cZ (eU hl)]
def atz:Sp:=fun vs H Q _=>Ex2 fun(c a:Int)=>vs=[.int c,.int a]/\∀w H',w∈bads->Same H H'->Q (.str w) H'
theorem Tz(T:Tx K mg A):FnK P w base T.v9 CX0 1 atz:=by
 k_dat (T.v9,T.v9.ok,Ar) "f"
 ·obtain⟨c,a,rfl,q⟩:=h;show#[_,by k_dat ([aeW],[Ar.nd],[]) "p",?_];show#[_,_,#[(gY 61 49).toArray],rfl,rfl,#[by decide,by decide],#[by decide +kernel,by decide +kernel],by decide +kernel,by decide +kernel,?_];show#[tb_g%,fun L hL=>?_];obtain⟨v,mv,e⟩:=aty (xs:=bads.map V.str) (i:=c % 11) tb_g% (by show c % 11<11;lia)
  k_dat (w,mw,cX.mp,mv) "G"
  show#[_,rfl,_,rfl,_,_,rfl,rfl,(by show(0:Int)<11;decide),cH (.inl (.inl aj)) (v:=.str w) e (q w _ mw (Same.new hL))]
open MK
theorem ZM{f:Rs}(h4:f.ls.length<=60)(h5:∀l∈f.ls,l.length<=64):(rT f).length<=4000:=by
 have key:∀ls:RG.Ls,(∀l∈ls,l.length<=64)->(rW ls).length<=65*ls.length:=by
  intro ls
  induction ls with
  |nil=>intro _;exact aJ _
  |cons l ls ih =>
   intro h;have:=ih fun k m=>h k (cB _ m);have h1:=h l bV;unfold rW at this ⊢;rw[tO,bB,bh,bh,aC];lia
 have n6:(rN f).length<=6:=by
  unfold rN;cases f.mi <;> cases f.ma <;> (show _<=6;simp)
 have:=key f.ls h5;unfold rT;rw[bB,aC];lia
theorem ZP{y:KS}(S:Kx y):∀z∈zsK y,z.2.length<=4000/\z.2≠[]:=by
 have c1:(fN y.cm).length<=200:=by unfold fN;rw[bB,jO,(bW _).length_eq];have:=S.cl;show 2+_<=_;lia
 have c2:(fN y.wn).length<=200:=by unfold fN;rw[bB,jO,(bW _).length_eq];have:=S.wl;show 2+_<=_;lia
 intro z m;unfold zsK at m
 k_dat m "D"
 rcases m with rfl|rfl|rfl|rfl|rfl|rfl|rfl|rfl
 ·show#[tb_g%,eZ _ _]
 ·show#[by rw[aC];lia,eZ _ _]
 ·show#[by rw[aC];lia,eZ _ _]
 ·show#[ZM S.u4 S.u5,eZ _ _]
 ·show#[ZM S.d4 S.d5,eZ _ _]
 ·show#[by rw[aC,bh,tH,g8];have:=S.i2;lia,eZ _ _]
 ·show#[by rw[aC,bB];have:=S.s2;show 2+_<=_;lia,eZ _ _]
 ·show#[tb_g%,eZ _ _]
theorem Fz{ns:List Int}{p:Nat}{w:Str}{r:List Str}(h:∀n∈ns,0<=n/\n<10 ^ 60)(l:ns.length<=900)(b:Bw w):Bg ((ns.map sI).take p++w::r):=by
 rw[<-iT];exact ZL (fun n m=>h n (tM m)) (by rw[d8];lia) b
theorem abX{y:KS}(S:Sd y){k:Nat}{z:Str × List Str}(h:(zsK y)[k]? = some z)(p:Nat){w:Str}(r:List Str)(b:Bd w)(l:(z.2.take p++w::r).length<=9000):Fw y.room k (z.2.take p++w::r):=by
 have kx:=S.kx;have c:∀z∈zsK y,z.2.length<=4000:=fun z m=>(ZP kx z m).1;have c1:(fN y.cm).length<=900:=by unfold fN;rw[bB,jO,(bW _).length_eq];have:=kx.cl;show 2+_<=_;lia
 have c2:(fN y.wn).length<=900:=by unfold fN;rw[bB,jO,(bW _).length_eq];have:=kx.wl;show 2+_<=_;lia
 have S1:=S.k;have S2:=S.r;have S3:=S.p
 match k,h with
 |0,h =>
  obtain rfl:=bN h;exact .inl (Fz (ns:=[(y.room:Int),y.reach,y.span]) (by simp;lia) tb_g% b.b)
 |1,h =>
  obtain rfl:=bN h;exact .inl (Fz S.cm.n c1 b.b)
 |2,h =>
  obtain rfl:=bN h;exact .inl (Fz S.wn.n c2 b.b)
 |3,h =>
  obtain rfl:=bN h;have:=Vm S.up (k:=p) (r:=r) b.b b.s l;rwa[S.ur]at this
 |4,h =>
  obtain rfl:=bN h;have:=Vm S.dn (k:=p) (r:=r) b.b b.s l;rwa[S.dr]at this
 |5,h =>
  obtain rfl:=bN h;exact .inl (Fz S.wn1 (by rw[bh,tH,g8];have:=kx.i2;lia) b.b)
 |6,h =>
  obtain rfl:=bN h;exact Fz S.dn1 (by rw[bB];have:=kx.s2;show 2+_<=_;lia) b.b
 |7,h =>
  obtain rfl:=bN h;by_cases e:(((L4 y.ba.q).map sI).take p++w::r).length=4
  ·refine .inr #[(L4 y.ba.q).take p,w,r,by rw[iT],?_,fun n m=>S.ba n (tM m),b.z];rwa[bB,bh,<-iT,aC]at e
  ·exact .inl e
 |k+8,h =>
  rw[Vr (by show 8<=k+8;lia)]at h;exact absurd h (by simp)
theorem apE{y:KS}(S:Sd y){k:Nat}{z:Str × List Str}(h:(zsK y)[k]? = some z)(k6:k≠6):Fw y.room k (z.2++[sI 1]):=by
 have kx:=S.kx;have c1:(fN y.cm).length=2+2*(gF y.cm.c).length/\(fN y.cm).length<=400:=by unfold fN;rw[bB,jO,(bW _).length_eq];have:=kx.cl;show 2+_=_/\2+_<=_;lia
 have c2:(fN y.wn).length=2+2*(gF y.wn.c).length/\(fN y.wn).length<=400:=by unfold fN;rw[bB,jO,(bW _).length_eq];have:=kx.wl;show 2+_=_/\2+_<=_;lia
 have c3:(y.wi.c::(bx y.wi.ps).flatMap bI).length=3*y.wi.ps.length+1:=by rw[bh,tH,g8]
 have S1:=S.k;have S2:=S.r;have S3:=S.p;have nm:∀{P:Nat->Prop}{ns:List Int},(∀n∈ns,0<=n/\n<10 ^ 60)->ns.length<=800->P (ns.length+1)->Fn P (ns.map sI++[sI 1]):=fun {P ns} h l p=>by
  have:=apD (P:=P) (ns:=ns++[1]) (fun n m=>by
   walk_at "v"
   ·exact h n m
   ·rw [cI.mp m];decide) (by rw [bB];show _+1<=_;lia) (by rw [bB];exact p)
  rwa[bG]at this
 match k,h with
 |0,h =>
  obtain rfl:=bN h;exact nm (P:=(· ≠ 3)) (ns:=[(y.room:Int),y.reach,y.span]) (by simp;lia) tb_g% (by show 4≠3;decide)
 |1,h =>
  obtain rfl:=bN h;exact nm (P:=(· % 2=1)) S.cm.n tb_g% (by show(_+1) % 2=1;lia)
 |2,h =>
  obtain rfl:=bN h;exact nm (P:=(· % 2=1)) S.wn.n tb_g% (by show(_+1) % 2=1;lia)
 |3,h =>
  obtain rfl:=bN h;have:=Rw S.up (bQ (ZM kx.u4 kx.u5) tb_g%);rwa[S.ur]at this
 |4,h =>
  obtain rfl:=bN h;have:=Rw S.dn (bQ (ZM kx.d4 kx.d5) tb_g%);rwa[S.dr]at this
 |5,h =>
  obtain rfl:=bN h;have:=kx.i2;exact nm (P:=(· % 3≠1)) S.wn1 tb_g% (by show(_+1) % 3≠1;lia)
 |6,h=>exact absurd rfl k6
 |7,h =>
  obtain rfl:=bN h;exact .inl (by show 5≠4;decide)
 |k+8,h =>
  rw[Vr (by show 8<=k+8;lia)]at h;exact absurd h (by simp)
structure Ls(y:KS)(k:Nat)(z:Str × List Str):Prop where
 g:∀u∈z.1::z.2,Gb u
 h:z.1.length<=16
 s:(z.2.map (·.length)).sum+z.2.length<=96000
 f:Fl y k z
theorem ZQ(a b:List Str):((a++b).map (·.length)).sum=(a.map (·.length)).sum+(b.map (·.length)).sum:=by rw[bG,Mv]
theorem Ls.word{y:KS}(S:Sd y){k:Nat}{z:Str × List Str}(h:(zsK y)[k]? = some z){p:Nat}(hp:p<z.2.length){w:Str}(b:Bd w):Ls y k (z.1,z.2.take p++w::z.2.drop (p+1)):=by
 obtain⟨g1,g2,g3⟩:=JH S.kx z (xj h);have l1:=(ZP S.kx z (xj h)).1;have e:(z.2.take p).length+(z.2.drop (p+1)).length+1=z.2.length:=by rw[d8,uL];lia
 have e2:((z.2.take p).map (·.length)).sum+((z.2.drop (p+1)).map (·.length)).sum<=(z.2.map (·.length)).sum:=by
  have h1:=ZQ (z.2.take p) (z.2.drop p);rw[aic,Mp hp,cP,gG]at h1;lia
 show#[fun u m=>?_,g2,?_,z,h,fun _=>abX S h p _ b ?_]
 ·walk_at "q"
  ·exact g1 _ bV
  ·walk_at "v"
   ·exact g1 u (cB _ (tM m))
   ·walk_at "q"
    ·exact b.g
    ·exact g1 u (cB _ (Mt m))
 ·have:=b.l;show((z.2.take p++w::z.2.drop (p+1)).map (·.length)).sum+(z.2.take p++w::z.2.drop (p+1)).length<=96000;rw[ZQ,cP,gG,bB,bh];lia
 ·rw[bB,bh];lia
theorem Ls.head{y:KS}(S:Sd y){k:Nat}{z:Str × List Str}(h:(zsK y)[k]? = some z){w:Str}(n:w≠z.1)(b:Gb w)(l:w.length<=16):Ls y k (w,z.2):=by
 obtain⟨g1,g2,g3⟩:=JH S.kx z (xj h);show#[fun u m=>?_,l,bQ g3 tb_g%,z,h,fun e=>absurd e n]
 walk_at "q"
 ·exact b
 ·exact g1 u (cB _ m)
theorem gb0:Gb (aD ""):=#[by decide +kernel,by decide +kernel]
theorem Ls.lead{y:KS}(S:Sd y){k:Nat}{z:Str × List Str}(h:(zsK y)[k]? = some z):Ls y k (aD "",z.1::z.2):=by
 obtain⟨g1,g2,g3⟩:=JH S.kx z (xj h);have n0:∀z∈zsK y,aD "" ≠ z.1:=fun z m e=>by
  have:∀s∈[aD "keep",aD "came",aD "went",aD "up",aD "down",aD "window",aD "seen",aD "sums"],aD "" ≠ s:=by decide +kernel
  exact this _ (FQ (f:=(·.1)) m) e
 show#[fun u m=>?_,(by show(aD "").length<=16;decide +kernel),?_,z,h,fun e=>absurd e (n0 z (xj h))]
 ·walk_at "q"
  ·exact gb0
  ·exact g1 u m
 ·show((z.1::z.2).map (·.length)).sum+(z.1::z.2).length<=96000;rw[cP,gG,bh];lia
theorem Ls.more{y:KS}(S:Sd y){k:Nat}{z:Str × List Str}(h:(zsK y)[k]? = some z){w:Str}(hw:w.length<=61/\Gb w)(b:w=sI 1/\k≠6\/Bd w):Ls y k (z.1,z.2++[w]):=by
 obtain⟨g1,g2,g3⟩:=JH S.kx z (xj h);have l1:=(ZP S.kx z (xj h)).1;show#[fun u m=>?_,g2,?_,z,h,fun _=>?_]
 ·walk_at "q"
  ·exact g1 _ bV
  ·walk_at "v"
   ·exact g1 u (cB _ m)
   ·rw[cI.mp m];exact hw.2
 ·have:=hw.1;show((z.2++[w]).map (·.length)).sum+(z.2++[w]).length<=96000;rw[ZQ,bB];show _+(w.length+0)+(_+1)<=_;lia
 ·rcases b with⟨rfl,k6⟩|b
  ·exact apE S h k6
  ·have:=abX S h z.2.length [] b (by rw[bB,d8];show _+1<=_;lia);rwa[nJ]at this
open MK
theorem ifor{t u:TT}{a w:TS}{D:Ends}{σ:St}{H:Hp}(h:∀R:Bool->Hp->Prop,(∀z G,(if z=true then a { D with nx:=w D } σ G else w D σ G)->R z G)->tOr t u σ H R):Ds (tIfS (tOr t u) a alj) w D σ H:=h _ fun _ _ z=>z
theorem ifand{t u:TT}{a w:TS}{D:Ends}{σ:St}{H:Hp}(h:∀R:Bool->Hp->Prop,(∀z G,(if z=true then a { D with nx:=w D } σ G else w D σ G)->R z G)->tAnd t u σ H R):Ds (tIfS (tAnd t u) a alj) w D σ H:=h _ fun _ _ z=>z
theorem ZR{xs:List Str}{i:Int}(h0:0<=i)(h1:i<xs.length):∃w,xs[i.toNat]? = some w/\atI (xs.map V.str) i=some (.str w):=by
 have hl:i.toNat<xs.length:=by lia
 obtain⟨n,rfl⟩:∃n:Nat,i=n:=#[i.toNat,by lia];show#[_,eU hl,cZ ?_];rw[dF,eU tb_g%];rfl
theorem agL{a b:Str}(e:cL b=cL sp1++cL a)(h:Str)(ts:List Str):ln h ts++b=ln h (ts++[a]):=by
 apply Zq;unfold ln;rw[afm,jW,jW,fm,fm,Ax,e];simp
theorem apF(h:Str)(ts:List Str):sp1++ln h ts=ln (aD "") (h::ts):=by
 apply Zq;unfold ln;rw[afm,jW,jW,fm,fm,tO,show cL (aD "")=[] by decide +kernel,nM,dO]
def hds:List Str:=[aD "keep",aD "came",aD "went",aD "up",aD "down",aD "window",aD "seen",aD "sums",aD "x",aD "",aD "Keep"]
theorem aqo{w:Str}(h:w∈hds):Gb w/\w.length<=16:=by
 have:∀w∈hds,(32∉cL w/\10∉cL w)/\w.length<=16:=by decide +kernel
 show#[#[(this w h).1.1,(this w h).1.2],(this w h).2]
theorem hd_ne:∀i:Nat,i<11->hds[i]? ≠ hds[(i+1) % 11]?:=by decide +kernel
def spLsp:Sp:=fun vs H Q _=>Ex4 fun(y:KS) (k:Nat) (c:Int) (z:Str × List Str)=>z7 (vs=[.str (ln z.1 z.2),.int k,.int c]) (Sd y) ((zsK y)[k]? = some z) (∀z' H',Ls y k z'->Same H H'->Q (.str (ln z'.1 z'.2)) H')
theorem Je(T:Tx K mg A):FnK P w base T.mJ CX0 2 (spLsp):=by
 k_dat (T.mJ,T.mJ.ok,uD) "f"
 ·obtain⟨y,k,c,z,rfl,S,hz,q⟩:=h;have mz:=xj hz;obtain⟨ss,sl⟩:=zl0 (agF S.kx) hz;obtain⟨g1,g2,g3⟩:=JH S.kx z mz;obtain⟨l4,ne⟩:=ZP S.kx z mz;have np:=Vz.mpr ne;have tot:∀z':Str × List Str,Ls y k z'->((z'.1::z'.2).map (·.length)).sum+(z'.1::z'.2).length<=1048576:=fun z' L=>by
   have h1:=L.h;have h2:=L.s;rw[cP,gG,bh];lia
  have lnl:(ln z.1 z.2).length+2<=sizeLine:=by
   have:=mK g2 g3;exact bQ (show _<=95019 by lia) tb_g%
  show#[_,by (k_dat ([hdA],[uD.nd,mR wD Xa Xb DY ?_ ?_,aB (Tz T) ?_,mR wD Jl Hf DX ?_ ?_],[]) "p"; k_dat je "h"; k_dat pq "h"; k_dat pq "h"; k_dat je "h"; k_dat je "h"; k_dat pq "h"; k_dat eX "h"; k_dat eX "h"; k_dat eX "h"),?_];refine sq fun R hR=>#[_,rfl,rfl,_,_,rfl,rfl,by decide +kernel,sl,fun D hD=>?_];rw[show lF (ln z.1 z.2) (aD " ")=z.1::z.2 from ss]
  k_dat (nwA hD,H1,s1,lD) "n"
  refine hR _ _ (sq fun R hR=>#[_,rfl,_,_,rfl,rfl,(by show(0:Int)<5;decide),hR _ _ (sq fun R hR=>#[_,rfl,_,_,rfl,rfl,#[by decide,by decide],hR _ _ (ifor fun R hR=>?_)])]);have kt:R true H1:=by
   refine hR _ _ (JL ?_);obtain⟨p,hp,ep⟩:∃p:Nat,p<z.2.length/\1+c / 5 % ((((z.1::z.2).map V.str).length:Int)-1)=((p+1:Nat):Int):=by
    rw[aC,bh];have h0:=yc (c / 5) (b:=((z.2.length+1:Nat):Int)-1) tb_g%;have h1:=xZ (c / 5) (b:=((z.2.length+1:Nat):Int)-1) tb_g%;show#[(c / 5 % (((z.2.length+1:Nat):Int)-1)).toNat,by lia,by lia]
   show#[_,rfl,_,rfl,cj (.inl (.inl lD)) #[_,_,rfl,rfl,_,_,rfl,rfl,?_,_,_,rfl,rfl,?_]]
   ·show(0:Int)<(((z.1::z.2).map V.str).length:Int)-1;rw[aC,bh];lia
   rw[ep];show#[rfl,_,rfl,_,rfl,_,rfl,D,_,rfl,.inl (.inl lD),fun a1 h1=>?_];rw[Pu (n:=p+1) (by rw[aC,bh];lia)]
   k_dat (nwA h1,H2,s2,e1) "n"
   show#[_,rfl,_,_,rfl,rfl,#[by decide,by decide],_,rfl,_,_,rfl,fun w H3 mw s3=>#[tb_g%,fun a2 h2=>?_]]
   k_dat (nwA h2,H4,s4,e2) "n"
   show#[a1,a2,_,_,rfl,rfl,s4 _ _ (s3 _ _ e1),e2,?_,fun a3 h3=>?_]
   ·rw[d8,aC,bh];exact bQ (show _<=4003 by show _+1<=_;lia) tb_g%
   k_dat (nwA h3,H5,s5,e3) "n"
   have s15:=s2.trans (s3.trans (s4.trans s5));show#[_,rfl,_,rfl,_,_,rfl,rfl,_,rfl,D,_,rfl,.inl (.inl (s15 _ _ lD)),fun a4 h4=>?_];rw[show rY ((z.1::z.2).map V.str) (some (((p+1:Nat):Int)+1)) none=((z.1::z.2).map V.str).drop (p+2)from yP (n:=p+2) (by rw[aC,bh];lia)]
   k_dat (nwA h4,H6,s6,e4) "n"
   show#[a3,a4,_,_,rfl,rfl,s6 _ _ e3,e4,?_,fun a5 h5=>?_]
   ·rw[bB,d8,uL,aC,bh];exact bQ (show _<=8010 by show _+1+_<=_;lia) tb_g%
   have L:=Ls.word S hz hp (agK mw);have el:((z.1::z.2).map V.str).take (p+1)++[.str w]++((z.1::z.2).map V.str).drop (p+2)=(z.1::(z.2.take p++w::z.2.drop (p+1))).map V.str:=by
    rw[<-iT,<-xH,cP,bG,cP,dO];rfl
   show#[sp1,a5,z.1::(z.2.take p++w::z.2.drop (p+1)),rfl,rfl,.inl (.inl (by rw[aj,el])),by decide +kernel,tot _ L,?_];exact q (z.1,z.2.take p++w::z.2.drop (p+1)) _ L (s1.trans (s15.trans (s6.trans (Same.new h5))))
  have kf:R false H1:=by
   refine hR _ _ (qm ?_);refine sq fun R hR=>#[_,rfl,rfl,_,rfl,cD (fun _=>?_) (fun _=>hR _ _ (ifand fun R hR=>?_))]
   ·refine sq fun R hR=>#[tb_g%,fun L hL=>?_];have s2:=Same.new (o:=.lst (hds.map V.str)) hL;have e2:(upd H1 L (.lst (hds.map V.str))) L=some (.lst (hds.map V.str)):=aj;have go:∀ {P:Hp->Prop},P (upd H1 L (.lst (hds.map V.str)))->P (upd H1 L (.lst [.str (aD "keep"),.str (aD "came"),.str (aD "went"),.str (aD "up"),.str (aD "down"),.str (aD "window"),.str (aD "seen"),.str (aD "sums"),.str (aD "x"),.str (aD ""),.str (aD "Keep")])):=fun h=>h;refine go ?_;generalize upd H1 L (.lst (hds.map V.str))=H2 at s2 e2 ⊢;obtain ⟨w,mw,ew⟩:=ZR (xs:=hds) (i:=c / 5 % 11) tb_g% (by show c / 5 % 11<11;lia);obtain ⟨w',mw',ew'⟩:=ZR (xs:=hds) (i:=(c / 5+1) % 11) tb_g% (by show (c / 5+1) % 11<11;lia);have nww:w≠w':=fun e=>hd_ne (c / 5 % 11).toNat tb_g% (by
     rw [mw,show ((c / 5 % 11).toNat+1) % 11=((c / 5+1) % 11).toNat by lia,mw',e])
    refine hR _ _ (sq fun R hR=>#[_,rfl,_,rfl,_,_,rfl,rfl,(by show(0:Int)<11;decide),cH (.inl (.inl e2)) (v:=.str w) ew (hR _ _ (sq fun R hR=>?_))]);have fin:∀v:Str,v∈hds->v≠z.1->R [some (.str (ln z.1 z.2)),some (.int k),some (.int c),some (.ref D),some (.int (c % 5)),some (.int (c / 5)),none,some (.ref L),some (.str v)] H2:=fun v mv nv=>by
     refine hR _ _ #[rfl,_,rfl,tb_g%,fun a1 h1=>?_]
     k_dat (nwA h1,H3,s3,e3) "n"
     show#[_,rfl,_,rfl,D,_,rfl,.inl (.inl (s3 _ _ (s2 _ _ lD))),fun a2 h2=>?_];rw[show rY ((z.1::z.2).map V.str) (some 1) none=z.2.map V.str from yP (n:=1) (by rw[aC,bh];lia)]
     k_dat (nwA h2,H4,s4,e4) "n"
     show#[a1,a2,_,_,rfl,rfl,s4 _ _ e3,e4,?_,fun a3 h3=>?_]
     ·rw[aC];exact bQ (show _<=4003 by show 1+_<=_;lia) tb_g%
     have L:=Ls.head S hz nv (aqo mv).1 (aqo mv).2;show#[sp1,a3,v::z.2,rfl,rfl,.inl (.inl aj),by decide +kernel,tot _ L,?_];exact q (v,z.2) _ L (s1.trans (s2.trans (s3.trans (s4.trans (Same.new h3)))))
    show#[_,rfl,_,rfl,cH (.inl (.inl (s2 _ _ lD))) (v:=.str z.1) (show atI _ ((0:Nat):Int)=_ from cZ rfl) #[rfl,_,rfl,cD (fun h=>?_) (fun h=>?_)]]
    ·have h:w=z.1:=V.str.inj (of_decide_eq_true h);show#[_,rfl,_,rfl,_,_,rfl,rfl,_,_,rfl,rfl,(by show(0:Int)<11;decide),cH (.inl (.inl e2)) (v:=.str w') ew' ?_];exact fin w' (xj mw') fun e=>nww (h.trans e.symm)
    ·exact fin w (xj mw) fun e=>h (decide_eq_true (congrArg V.str e))
   ·have kl:R false H1:=by
     refine hR _ _ (qm ?_);show#[_,rfl,_,_,rfl,rfl,?_,_,rfl,_,_,rfl,rfl,?_,tb_g%,fun L hL=>#[_,rfl,_,_,rfl,rfl,(by show(0:Int)<2;decide),?_]]
     ·have:(aD " ").length=1:=by decide +kernel
      lia
     ·have:(aD " ").length=1:=by decide +kernel
      lia
     rcases(show c / 5 % 2=0\/c / 5 % 2=1 by lia)with e|e
     ·refine cH (.inl (.inl aj)) (v:=.str (aD " " ++ ln z.1 z.2)) (by rw[e];rfl) ?_;rw[show aD " " ++ ln z.1 z.2=ln (aD "") (z.1::z.2)from apF _ _];exact q (aD "",z.1::z.2) _ (Ls.lead S hz) (s1.trans (Same.new hL))
     ·refine cH (.inl (.inl aj)) (v:=.str (ln z.1 z.2++aD " ")) (by rw[e];rfl) ?_;rw[show ln z.1 z.2++aD " " = ln z.1 (z.2++[aD ""])from agL tb_g% _ _];exact q (z.1,z.2++[aD ""]) _ (Ls.more S hz #[by decide +kernel,gb0] (.inr (agK (xj (i:=5) rfl)))) (s1.trans (Same.new hL))
    show#[_,rfl,rfl,_,rfl,cD (fun _=>#[_,rfl,rfl,_,rfl,?_]) (fun _=>kl)];by_cases h6:k=6
    ·rwa[show(!decide (V.int (k:Nat)=V.int 6))=false by rw[h6];rfl]
    ·rw[show(!decide (V.int (k:Nat)=V.int 6))=true by rw[decide_eq_false fun e=>h6 (by have:=V.int.inj e;lia)];rfl];refine hR _ _ (JL ?_);show#[_,rfl,_,_,rfl,rfl,?_,?_]
     ·have:(aD " 1").length=2:=by decide +kernel
      lia
     rw[show ln z.1 z.2++aD " 1" = ln z.1 (z.2++[sI 1])from agL tb_g% _ _];exact q (z.1,z.2++[sI 1]) _ (Ls.more S hz #[by decide +kernel,gb_i 1] (.inl #[rfl,h6])) s1
  show#[_,rfl,rfl,_,rfl,cD (fun _=>kt) (fun _=>#[_,rfl,rfl,_,rfl,by cases decide (V.int (c % 5)=V.int 1) <;> assumption])]
open MK
theorem ZV{zs:Zs}(g:Gz zs)(h:zs.length<=9):((lns zs).map (·.length)).sum+(lns zs).length<=1048576:=by
 have h3:∀zs:Zs,Gz zs->((lns zs).map (·.length)).sum<=96017*zs.length:=by
  intro zs
  induction zs with
  |nil=>intro _;exact aJ _
  |cons z zs ih =>
   intro g;have k1:=ih fun y m=>g y (cB _ m);have k2:=mK (g z bV).2.1 (g z bV).2.2;show(ln z.1 z.2).length+((lns zs).map (·.length)).sum<=96017*(zs.length+1);lia
 have h4:=h3 zs g;have h5:(lns zs).length=zs.length:=aC _;rw[h5];lia
def exs:Zs:=[(aD "x",[]),(aD "",[]),(aD "sums",[aD "0",aD "0",aD "0",aD "0"]),(aD "sums",[aD "0",aD "0",aD "0"])]
theorem ZW:Gz exs:=by
 have:∀z∈exs,(∀u∈z.1::z.2,32∉cL u/\10∉cL u)/\z.1.length<=16/\(z.2.map (·.length)).sum+z.2.length<=96000:=by decide +kernel
 exact fun z m=>#[fun u mu=>#[((this z m).1 u mu).1,((this z m).1 u mu).2],(this z m).2]
theorem exs_l:lns exs=[aD "x",aD "",aD "sums 0 0 0 0",aD "sums 0 0 0"]:=by decide +kernel
theorem anW{w:Str}(h:w∈[aD "x",aD "",aD "sums 0 0 0 0",aD "sums 0 0 0"]):∃e∈exs,w=ln e.1 e.2:=by
 rw[<-exs_l]at h;obtain⟨e,m,r⟩:=cX.mp h;show#[e,m,r.symm]
theorem Gz.app{a b:Zs}(ha:Gz a)(hb:Gz b):Gz (a++b):=fun z m=>(cF.mp m).elim (ha z) (hb z)
theorem abY(zs:Zs)(e:Str × List Str):(lns zs).map V.str++[.str (ln e.1 e.2)]=(lns (zs++[e])).map V.str:=by
 unfold lns;rw[bG,bG];rfl
structure Sn(y:KS)(n:Nat)(z:Str × List Str)(zs:Zs):Prop where
 g:Gz zs
 l:8<=zs.length/\zs.length<=9
 p:∀i,i<n->zs[i]? = (zsK y)[i]?
 z:zs[n]? = some z
theorem Sn.more{y:KS}{n:Nat}{z e:Str × List Str}{zs:Zs}(h:Sn y n z zs)(l:zs.length=8)(n8:n<8)(m:e∈exs):Sn y n z (zs++[e]):=
 #[h.g.app fun u mu=>by rw[cI.mp mu];exact ZW e m,by rw[bB,l];show#[tb_g%,tb_g%],fun i hi=>by rw[tK tb_g%];exact h.p i hi,by rw[tK tb_g%];exact h.z]
theorem Sn.set{y:KS}{n:Nat}{z e:Str × List Str}{zs:Zs}(h:Sn y n z zs)(n7:n<7)(m:e∈exs):Sn y n z (zs.set 7 e):=
 #[fun u mu=>(z9 mu).elim (h.g u) fun q=>by rw[q];exact ZW e m,by rw[iI];exact h.l,fun i hi=>by rw[Dh tb_g%];exact h.p i hi,by rw[Dh tb_g%];exact h.z]
def spSpo:Sp:=fun vs H Q _=>Ex3 fun(y:KS) (a:Addr) (c:Int)=>z7 (vs=[.ref a,.int c]) (Sd y) (H a=some (.lst ((lns (zsK y)).map V.str))) (∀(t:Addr)(zs:Zs)(k:Nat)(H':Hp),Gz zs->zs≠[]/\zs.length<=9->Fau y k zs->H' t=some (.tup [.str (bZ nl1 (lns zs)),.int (k+1:Nat)])->Same H H'->Q (.ref t) H')
theorem abZ(T:Tx K mg A):FnK P w base T.CT CX0 3 (spSpo):=by
 k_dat (T.CT,T.CT.ok,Jw) "f"
 ·obtain⟨y,D,c,rfl,S,lD,q⟩:=h;obtain⟨n,n8,en⟩:∃n:Nat,n<8/\c % 8=n:=#[(c % 8).toNat,by lia,by lia];have gz:=agF S.kx;have kl:(zsK y).length=8:=rfl;have ll:((lns (zsK y)).map V.str).length=8:=rfl;obtain⟨z,hz⟩:∃z,(zsK y)[n]? = some z:=#[_,eU (by rwa[kl])];show#[_,by (k_dat ([hdA,Oz],[Jw.nd,mR wD Jl Hf DX ?_ ?_,aB (Je T) ?_],[]) "p"; k_dat je "h"; k_dat pq "h"; k_dat pq "h"; k_dat pq "h"; k_dat je "h"; k_dat je "h"),?_];refine sq fun R hR=>#[_,rfl,_,_,rfl,rfl,(by show(0:Int)<8;decide),?_];rw[en];refine hR _ _ (sq fun R hR=>#[_,rfl,_,_,rfl,rfl,#[by decide,by decide],_,_,rfl,rfl,(by show(0:Int)<6;decide),hR _ _ (sq fun R hR=>#[_,rfl,_,_,rfl,rfl,#[by decide,by decide],?_])]);refine hR _ _ (sq fun R hR=>#[_,rfl,rfl,_,rfl,cD (fun _=>?_) (fun _=>hR _ _ (sq fun R hR=>#[_,rfl,rfl,_,rfl,cD (fun _=>?_) (fun _=>hR _ _ ?_)]))])
  ·show#[rfl,_,rfl,_,rfl,_,rfl,D,_,rfl,.inl (.inl lD),fun a1 h1=>?_];have et:((lns (zsK y)).map V.str).take n=(lns ((zsK y).take n)).map V.str:=by unfold lns;rw[iT,iT]
   rw[Pu (n:=n) (by rw[ll];lia),et]
   k_dat (nwA h1,H1,s1,e1) "n"
   have g1:Gz ((zsK y).take n):=fun z m=>gz z (tM m);have l1:((zsK y).take n).length=n:=by rw[d8,kl];lia
   show#[nl1,a1,_,rfl,rfl,.inl (.inl e1),by decide +kernel,ZV g1 tb_g%,?_];show#[_,rfl,_,_,rfl,rfl,_,rfl,cD (fun h=>#[_,rfl,_,_,rfl,rfl,tb_g%,fun t ht=>?_]) (fun h=>#[tb_g%,fun t ht=>?_])]
   ·have h:(0:Int)<n:=of_decide_eq_true h;refine q t ((zsK y).take n) n _ g1 #[fun e=>by rw[e]at l1;have:0=n:=l1;lia,by lia] #[fun i hi=>by rw[ab9 hi],.inl #[n8,.inl tb_g%]] aj (s1.trans (Same.new ht))
   ·have h:¬ (0:Int)<n:=fun z=>h (decide_eq_true z);obtain rfl:n=0:=by lia
    refine q t [(aD "",[])] 0 _ (fun z m=>ZW z (by rw[cI.mp m];exact xj (i:=1) rfl)) #[eZ _ _,tb_g%] #[fun i hi=>absurd hi (Nat.not_lt_zero _),.inl #[by decide,.inr #[_,rfl,_,rfl,fun e=>?_]]] ?_ (s1.trans (Same.new ht))
    ·exact absurd (show aD "" = aD "keep" from e) tb_g%
    ·rw[show bZ nl1 (lns [(aD "",[])])=bZ nl1 (lns ((zsK y).take 0)) by rw[acs];decide +kernel];exact aj
  ·show#[rfl,_,rfl,tb_g%,fun a1 h1=>?_];have s1:=Same.new (o:=.lst ([aD "x",aD "",aD "sums 0 0 0 0"].map V.str)) h1;obtain ⟨w,mw,ew⟩:=ZR (xs:=[aD "x",aD "",aD "sums 0 0 0 0"]) (i:=c / 48 % 3) tb_g% (by show c / 48 % 3<3;lia);obtain ⟨e,me,rfl⟩:=anW (w:=w) (by
    have:=xj mw;simp only [aO,gB,or_false] at this ⊢;rcases this with h | h | h <;> simp [h])
   show#[_,rfl,_,_,rfl,rfl,(by show(0:Int)<3;decide),cH (.inl (.inl aj)) (v:=.str (ln e.1 e.2)) ew #[tb_g%,fun a2 h2=>?_]];have s2:=s1.trans (Same.new (o:=.lst [.str (ln e.1 e.2)]) h2);show#[D,a2,_,_,rfl,rfl,s2 _ _ lD,aj,tb_g%,fun a3 h3=>?_];rw[abY];have s3:=s2.trans (Same.new (o:=.lst ((lns (zsK y++[e])).map V.str)) h3);have g1:Gz (zsK y++[e]):=gz.app fun u mu=>by rw[cI.mp mu];exact ZW e me
   show#[nl1,a3,lns (zsK y++[e]),rfl,rfl,.inl (.inl aj),by decide +kernel,ZV g1 tb_g%,tb_g%,fun t ht=>?_];exact q t (zsK y++[e]) 8 _ g1 #[eZ _ _,tb_g%] #[fun i hi=>by rw[tK (by rwa[kl])],.inr #[rfl,by show 9≠8;decide]] aj (s3.trans (Same.new ht))
  refine sq fun R hR=>#[_,rfl,_,rfl,_,rfl,D,_,rfl,.inl (.inl lD),fun a1 h1=>?_];rw[Pu (n:=n) (by rw[ll];lia)]
  k_dat (nwA h1,H1,s1,e1) "n"
  have ea:atI ((lns (zsK y)).map V.str) (n:Int)=some (.str (ln z.1 z.2)):=cZ (by unfold lns;rw[dF,dF,hz];rfl);show#[_,rfl,_,rfl,cH (.inl (.inl (s1 _ _ lD))) (v:=.str (ln z.1 z.2)) ea #[_,rfl,_,rfl,y,n,c / 48,z,rfl,S,hz,fun z' H2 L s2=>#[tb_g%,fun a2 h2=>?_]]]
  k_dat (nwA h2,H3,s3,e2) "n"
  show#[a1,a2,_,_,rfl,rfl,s3 _ _ (s2 _ _ e1),e2,?_,fun a3 h3=>?_]
  ·rw[d8,ll];exact bQ (show _<=20 by show _+1<=_;lia) tb_g%
  k_dat (nwA h3,H4,s4,e3) "n"
  have s14:=s1.trans (s2.trans (s3.trans s4));show#[_,rfl,_,rfl,_,_,rfl,rfl,_,rfl,D,_,rfl,.inl (.inl (s14 _ _ lD)),fun a4 h4=>?_];rw[show rY ((lns (zsK y)).map V.str) (some ((n:Int)+1)) none=((lns (zsK y)).map V.str).drop (n+1)from yP (n:=n+1) (by rw[ll];lia)]
  k_dat (nwA h4,H5,s5,e4) "n"
  show#[a3,a4,_,_,rfl,rfl,s5 _ _ e3,e4,?_,fun a5 h5=>?_]
  ·rw[bB,d8,uL,ll];exact bQ (show _<=20 by show _+1+_<=_;lia) tb_g%
  have el:((lns (zsK y)).map V.str).take n++[.str (ln z'.1 z'.2)]++((lns (zsK y)).map V.str).drop (n+1)=(lns ((zsK y).take n++z'::(zsK y).drop (n+1))).map V.str:=by
   unfold lns;rw[bG,bG,cP,cP,iT,iT,xH,xH,dO];rfl
  rw[el];have sn:Sn y n z' ((zsK y).take n++z'::(zsK y).drop (n+1)):=by
   have lt:((zsK y).take n).length=n:=by rw[d8,kl];lia
   show#[fun u m=>?_,?_,fun i hi=>?_,?_]
   ·walk_at "v"
    ·exact gz u (tM m)
    ·walk_at "q"
     ·show#[L.g,L.h,L.s]
     ·exact gz u (Mt m)
   ·rw[bB,lt,bh,uL,kl];lia
   ·rw[tK tb_g%,ab9 hi]
   ·rw[xr tb_g%,lt,xY];rfl
  have l8:((zsK y).take n++z'::(zsK y).drop (n+1)).length=8:=by
   rw[bB,d8,bh,uL,kl];lia
  generalize (zsK y).take n++z'::(zsK y).drop (n+1)=zs at sn l8 ⊢
  k_dat (nwA h5,H6,zH6,e5) "n"
  have s6:=s14.trans (s5.trans zH6);have n5:H a5=none:=(s14.trans s5).free h5;refine hR _ _ (sq fun R hR=>?_);have tail:∀(zs:Zs)(G:Hp),Sn y n z' zs->zs.length=8->G a5=some (.lst ((lns zs).map V.str))->Same H G->R [some (.ref D),some (.int c),some (.int n),some (.int (c / 8 % 6)),some (.int (c / 48)),some (.ref a5)] G:=fun zs G sn l8 eG sG=>by
   refine hR _ _ (sq fun R hR=>?_);have last:∀(zs:Zs)(G:Hp),Sn y n z' zs->G a5=some (.lst ((lns zs).map V.str))->Same H G->R [some (.ref D),some (.int c),some (.int n),some (.int (c / 8 % 6)),some (.int (c / 48)),some (.ref a5)] G:=fun zs G sn eG sG=>by
    refine hR _ _ #[rfl,_,rfl,nl1,a5,lns zs,rfl,rfl,.inl (.inl eG),by decide +kernel,ZV sn.g sn.l.2,_,rfl,_,_,rfl,rfl,tb_g%,fun t ht=>?_];exact q t zs n _ sn.g #[fun e=>by have:=sn.l.1;rw[e]at this;exact absurd this tb_g%,sn.l.2] #[sn.p,.inl #[n8,.inr #[z',sn.z,L.f]]] aj (sG.trans (Same.new ht))
   show#[_,rfl,rfl,_,rfl,cD (fun _=>?_) (fun _=>last zs G sn eG sG)];show#[_,rfl,.inl #[rfl,_,.inl (.inl eG)],tb_g%,fun L2 hL2=>?_];obtain ⟨w,mw,ew⟩:=ZR (xs:=[aD "x",aD ""]) (i:=c / 48 % 2) tb_g% (by show c / 48 % 2<2;lia);obtain ⟨e,me,rfl⟩:=anW (w:=w) (by
    have:=xj mw;simp only [aO,gB,or_false] at this ⊢;rcases this with h | h <;> simp [h])
   have s7:=Same.new (o:=.lst ([aD "x",aD ""].map V.str)) hL2;show#[_,rfl,_,_,rfl,rfl,(by show(0:Int)<2;decide),cH (.inl (.inl aj)) (v:=.str (ln e.1 e.2)) ew #[a5,_,_,rfl,rfl,s7 _ _ eG,?_,?_]]
   ·unfold lns;rw[aC,aC,l8];decide
   ·refine last (zs++[e]) _ (sn.more l8 n8 me) ?_ ?_
    ·rw[abY];exact aj
    ·exact eN (sG.trans s7) n5 fun b o h nb=>by rwa[ao nb]
  show#[_,rfl,rfl,_,rfl,cD (fun _=>#[_,rfl,_,_,rfl,rfl,_,rfl,cD (fun h=>?_) (fun _=>tail zs H6 sn l8 e5 s6)]) (fun _=>qm (tail zs H6 sn l8 e5 s6))];have h:(n:Int)<7:=of_decide_eq_true h;obtain⟨e,me,ee⟩:=anW (w:=aD "sums 0 0 0") (xj (i:=3) rfl);show#[_,rfl,.inl #[a5,_,_,7,rfl,rfl,e5,?_,?_]]
  ·unfold lns;rw[aC,aC,l8];rfl
  refine tail (zs.set 7 e) _ (sn.set tb_g% me) (by rwa[iI]) ?_ ?_
  ·rw[aj,ee];unfold lns;rw[acu,acu]
  ·exact eN s6 n5 fun b o h nb=>by rwa[ao nb]
open MK
theorem Kp.apart{A:Ad}{H:Hp}{x:KS}{b:Addr}{xs:List V}(h:Kp A H x)(hb:H b=some (.lst xs)):b∉x.pts:=fun m=>by
 unfold KS.pts at m
 k_dat m "D"
 rcases m with rfl|rfl|rfl|rfl|rfl|rfl|rfl
 ·k_dat (h.cm.o,hb) "I"
 ·k_dat (h.wn.o,hb) "I"
 ·k_dat (h.up.o,hb) "I"
 ·k_dat (h.dn.o,hb) "I"
 ·k_dat (h.wi.o,hb) "I"
 ·k_dat (h.di.o,hb) "I"
 ·k_dat (h.ba.o,hb) "I"
structure W1(A:Ad)(room:Nat)(reach span:Int)(H0 H:Hp)(l:Addr)(ms:List Int)(x:KS)(n:Nat):Prop where
 scr:Same H0 H
 kp:Kp A H x
 z:H l=some (.lst (ms.map V.int))
 fx:∀b∈x.pts,H0 b=none
 rc:∃rs,Rc room reach span rs x/\(∀r∈rs,r.ok)/\rs.length=n
theorem W1.same{A:Ad}{room:Nat}{reach span:Int}{H0 H H':Hp}{z:Addr}{ms:List Int}{x:KS}{n:Nat}(h:W1 A room reach span H0 H z ms x n)(s:Same H H'):W1 A room reach span H0 H' z ms x n:=#[h.scr.trans s,h.kp.same s,s _ _ h.z,h.fx,h.rc]
theorem W1.row{A:Ad}{room:Nat}{reach span:Int}{H0 H H1:Hp}{z:Addr}{ms:List Int}{x x':KS}{n:Nat}{r:R3}(h:W1 A room reach span H0 H z ms x n)(ok:r.ok)(k1:Kp A H1 x')(s1:SR r x x')(f1:Far A x.pts H H1):W1 A room reach span H0 H1 z ms x' (n+1):=by
 obtain⟨rs,h1,h2,h3⟩:=h.rc;show#[fun b o e=>f1.pb _ _ (h.scr b o e) fun m=>?_,k1,f1.pb _ _ h.z (h.kp.apart h.z),by rw[s1.sb.pts];exact h.fx,r::rs,#[x,h1,s1],fun q m=>?_,by rw[bh,h3]]
 ·have:=h.fx b m;rw[e]at this;cases this
 ·walk_at "q"
  ·exact ok
  ·exact h2 q m
theorem W1.al{A:Ad}{room:Nat}{reach span:Int}{H0 H:Hp}{z:Addr}{ms:List Int}{x:KS}{n:Nat}(h:W1 A room reach span H0 H z ms x n)(s:Sh room reach span)(l:n<=63):Al x n n:=by
 obtain⟨rs,h1,h2,rfl⟩:=h.rc;exact(Rc.al s h1 h2 l).1
theorem Al.back{x x2:KS}{n:Nat}(a:Al x n n)(l:n<=63)(e:Eqp x2 (rdK x)):Kx x2/\gb x2=gb x:=by
 have b:=a.rd.eq e;show#[(b.kz.sd b.kh b.nb tb_g%).kx,(anU e).trans (anT a.nk)]
theorem atA(T:Tx K mg A):FnK P w base T.anb CX0 13 (anl K):=by
 k_dat (T.anb,T.anb.ok,ank) "f"
 ·obtain⟨a,ns,rfl,hS,hlen,q⟩:=h;show#[_,by k_dat ([fM,aam],[ank.nd,cV (Uw rfl) (by rfl) T.ap7 ake ?_,aB (Tr T) ?_,pC T.adY T.QD (uG T) ?_,aB (abI T) ?_,aB (ahX T) ?_,aB (afq T) ?_,mR wD Xa Xb DY ?_ ?_,aB (abH T) ?_,aB (abZ T) ?_,aB (ZJ T) ?_,aB (uJ T) ?_],[]) "p",?_];obtain⟨cs,ecs,lcs,_⟩:=aaV ns none (some 1);show#[_,rfl,_,rfl,a,_,rfl,hS,fun z hz=>?_];rw[ecs];show#[z,_,rfl,.inl (.inl aj),?_]
  k_dat (nwA hz,H0,s0,fH0) "n"
  show#[_,rfl,fun t room reach span H1 r2 r64 ev rr hre hsp ht s1=>?_];show#[t,_,rfl,.inl (.inl ht),rfl,_,_,rfl,_,_,rfl,_,_,rfl,rfl,?_];have sh:Sh room reach span:=#[r2,r64,ev,rr,hre,hsp];have s01:=s0.trans s1;show#[_,rfl,_,rfl,_,rfl,fun k dk n1 n2 n3=>#[k,dk,room,reach,span,rfl,aj,r2,r64,ev,fun x H2 kp eqx ek hpts _ bt=>#[rfl,?_]]];have up2:Same H1 (upd (upd H1 dk (.own k)) k (.ins A.C'5 dk [])):=fun b o e=>by rwa[ao (ak e n1),ao (ak e n2)]
  have s2:Same H1 H2:=fun b o e=>bt b o (up2 b o e) (ak e n1);have fx0:∀b∈x.pts,H b=none:=fun b m=>(s01.trans up2).free (hpts b m);have s02:=s01.trans s2;clear n1 n2 n3 up2 bt hpts;obtain⟨ms,ems,lms,_⟩:=aaV ns none (some 70);show#[_,rfl,_,rfl,a,_,rfl,s02.seq hS,fun z1 hz1=>?_];rw[ems]
  k_dat (nwA hz1,H3,t1,fH3) "n"
  have W0:W1 A room reach span H H3 z1 ms x 0:=⟨s02.trans t1,kp.same t1,fH3,fx0,[],eqx,fun _ m=>(nomatch m),rfl⟩;refine⟨z1,rfl,⟨_,.inl (.inl W0.z)⟩,o9 (K:=K) (a:=z1) (xs:=ms.map V.int) (fun i σ G=>Ex5 fun(x':KS) (y1 y2 y3 y4:Option V)=>tD (σ=[some (.ref a),some (.int room),some (.int reach),some (.int span),some (.ref k),y1,y2,y3,y4]) (W1 A room reach span H G z1 ms x' i) (x'.k=k)) ⟨x,none,none,none,none,rfl,W0,ek⟩ (fun i σ G _ ⟨_,_,_,_,_,_,h,_⟩=>.inl (.inl h.z)) ?_ ?_⟩
  ·rintro i v σ G hi ⟨x1,y1,y2,y3,y4,rfl,W,hk⟩;have hi63:i<63:=by
    have:=(fu.mp hi).1;rw[aC]at this;lia
   obtain⟨cell,_,rfl⟩:=int_at hi;show#[_,rfl,_,rfl,cell,rfl,fun tr G1 nt htr s1=>?_];have V1:=W.same s1;show#[x1,i,tr,rowF cell,by rw[hk];rfl,V1.kp,(V1.al sh tb_g%).kh,by lia,htr,agx cell,fun x3 G2 k3 sr3 f3 _=>?_];have W3:=V1.row (agx cell) k3 sr3 f3;have hk3:x3.k=k:=sr3.sb.k.trans hk;have al:=W3.al sh tb_g%;have sd:=al.kz.sd al.kh al.nb tb_g%;have gz:=agF sd.kx;have tl:(bZ nl1 (gb x3)).length<=1048576:=by
    rw[lk];exact text_len gz tb_g%
   have es:lF (bZ nl1 (gb x3)) nl1=lns (zsK x3):=by
    rw[lk];exact agG gz (eZ _ _)
   clear W V1 k3 sr3 f3 hk;show#[_,rfl,_,_,rfl,rfl,#[by decide,by decide],_,_,rfl,rfl,(by show(0:Int)<3;decide),rfl,_,rfl,cD (fun _=>?_) (fun _=>?_)]
   ·show#[x3,_,_,_,_,rfl,W3,hk3]
   show#[_,rfl,x3,by rw[hk3];rfl,W3.kp,sd.kx,fun G3 s3=>?_];show#[_,rfl,rfl,_,_,rfl,rfl,by decide +kernel,tl,fun D hD=>?_];rw[es]
   k_dat (nwA hD,G4,s4,eD) "n"
   show#[_,rfl,_,_,_,rfl,by decide,by decide,by decide,?_];show#[x3,D,_,rfl,sd,eD,fun t zs kk G5 gz5 nz fau ht5 s5=>?_];show#[t,_,rfl,.inl (.inl ht5),rfl,_,_,rfl,_,_,rfl,rfl,?_];show#[_,rfl,_,rfl,zs,x3,kk,rfl,gz5,nz,sd,fau,fun G6 s6=>#[_,rfl,qm ?_]];have W6:=W3.same (s3.trans (s4.trans (s5.trans s6)));show#[_,rfl,_,_,rfl,rfl,#[by decide,by decide],_,_,rfl,rfl,(by show(0:Int)<4;decide),rfl,_,rfl,cD (fun _=>?_) (fun _=>qm #[x3,_,_,_,_,rfl,W6,hk3])];show#[_,rfl,zsK x3,x3,congrArg (fun l=>[V.str (bZ nl1 l)]) (lk x3),gz,#[eZ _ _,tb_g%],sd,.inl #[rfl,fun x2 G7 k2 e2 _ _ s7=>?_]];obtain⟨kx2,l2⟩:=al.back tb_g% e2;show#[x2,rfl,k2,kx2,fun G8 s8=>#[_,rfl,rfl,_,rfl,aaB (congrArg (fun l=>V.str (bZ (aD "\n") l)) l2) #[x3,_,_,_,_,rfl,W6.same (s7.trans s8),hk3]]]
  ·rintro σ G ⟨x1,y1,y2,y3,y4,rfl,W,hk⟩;have l63:(ms.map V.int).length<=63:=by rw[aC];lia
   have al:=W.al sh l63;have sd:=al.kz.sd al.kh al.nb tb_g%;show#[_,rfl,x1,by rw[hk];rfl,W.kp,sd.kx,fun G1 s1=>#[zsK x1,x1,congrArg (fun l=>[V.str (bZ nl1 l)]) (lk x1),agF sd.kx,#[eZ _ _,tb_g%],sd,.inl #[rfl,fun x2 G2 k2 e2 _ _ s2=>?_]]];obtain⟨kx2,l2⟩:=al.back l63 e2;show#[x2,rfl,k2,kx2,fun G3 s3=>#[_,rfl,x1,by rw[hk];rfl,(W.kp.same s1).same (s2.trans s3),sd.kx,fun G4 s4=>#[rfl,?_]]];have e:decide (V.str (bZ nl1 (gb x2))=V.str (bZ nl1 (gb x1)))=true:=decide_eq_true (by rw[l2]);rw[e];exact q _
theorem bOf0{K:aG}{x q:Str}{st:Stmt}{f:Addr}{fd:FuncData}(F:Fun K x q st f fd)(h:∀(kV dc pm:Value)(an:Option Addr)(cd ct:Value),Bu (jw x q (iW st) (gQ st) (aq st) .none kV dc pm an cd ct) #[[],[]]=pure []):Binds K fd [] []:=
 F.binds fun _ _ _ _ _ _ us hl=>match us,hl with | [],_=>h _ _ _ _ _ _
theorem bOf1{K:aG}{x q:Str}{st:Stmt}{f:Addr}{fd:FuncData}{p0:Str}(F:Fun K x q st f fd)(h:∀(kV dc pm:Value)(an:Option Addr)(cd ct u0:Value),Bu (jw x q (iW st) (gQ st) (aq st) .none kV dc pm an cd ct) #[[u0],[]]=pure [(p0,u0)]):Binds K fd [p0] []:=
 F.binds fun _ _ _ _ _ _ us hl=>match us,hl with | [u0],_=>h _ _ _ _ _ _ u0
theorem bOf2{K:aG}{x q:Str}{st:Stmt}{f:Addr}{fd:FuncData}{p0 p1:Str}(F:Fun K x q st f fd)(h:∀(kV dc pm:Value)(an:Option Addr)(cd ct u0 u1:Value),Bu (jw x q (iW st) (gQ st) (aq st) .none kV dc pm an cd ct) #[[u0,u1],[]]=pure [(p0,u0),(p1,u1)]):Binds K fd [p0,p1] []:=
 F.binds fun _ _ _ _ _ _ us hl=>match us,hl with | [u0,u1],_=>h _ _ _ _ _ _ u0 u1
theorem bOf3{K:aG}{x q:Str}{st:Stmt}{f:Addr}{fd:FuncData}{p0 p1 p2:Str}(F:Fun K x q st f fd)(h:∀(kV dc pm:Value)(an:Option Addr)(cd ct u0 u1 u2:Value),Bu (jw x q (iW st) (gQ st) (aq st) .none kV dc pm an cd ct) #[[u0,u1,u2],[]]=pure [(p0,u0),(p1,u1),(p2,u2)]):Binds K fd [p0,p1,p2] []:=
 F.binds fun _ _ _ _ _ _ us hl=>match us,hl with | [u0,u1,u2],_=>h _ _ _ _ _ _ u0 u1 u2
theorem bOf4{K:aG}{x q:Str}{st:Stmt}{f:Addr}{fd:FuncData}{p0 p1 p2 p3:Str}(F:Fun K x q st f fd)(h:∀(kV dc pm:Value)(an:Option Addr)(cd ct u0 u1 u2 u3:Value),Bu (jw x q (iW st) (gQ st) (aq st) .none kV dc pm an cd ct) #[[u0,u1,u2,u3],[]]=pure [(p0,u0),(p1,u1),(p2,u2),(p3,u3)]):Binds K fd [p0,p1,p2,p3] []:=
 F.binds fun _ _ _ _ _ _ us hl=>match us,hl with | [u0,u1,u2,u3],_=>h _ _ _ _ _ _ u0 u1 u2 u3
theorem LK.fn{K:aG}{n q:Str}{s:Stmt}{f:Addr}(h:LK K n q s f):∃fd,Fun K n q s f fd:=by
 obtain⟨oc,od,an,sl,kV,dc,pm,cd,ct,l,c,k⟩:=h;show#[_,asd l c k]
noncomputable def fdOf{K:aG}{n q:Str}{s:Stmt}{f:Addr}(h:LK K n q s f):FuncData:=akP h.fn
theorem ah2{K:aG}{n q:Str}{s:Stmt}{f:Addr}(h:LK K n q s f):Fun K n q s f (fdOf h):=akO h.fn
theorem CK.cl{K:aG}{C:Addr}(h:CK K C):Cls K C:=#[h.1,h.2.1,h.2.2.1,h.2.2.2.1]
theorem CK.mk{K:aG}{C f:Addr}{q:Str}{s:Stmt}(h:CK K C)(m:MeK K C "__init__" q s f):Mk K C f:=#[h.2.2.2.2.1,m.1,m.2.1,h.2.2.2.2.2]
theorem MeK.mt{K:aG}{C f:Addr}{n q:Str}{s:Stmt}{fd:FuncData}(m:MeK K C n q s f)(F:Fun K n q s f fd):Meth K C n f:=#[m.1,m.2.1,F.kp]
theorem gOf{K:aG}{h:Heap}{mg:Str->Option Value}{x:Str}{st:Stmt}{f:Addr}{ps:List Str}(X:K.In h)(G:h.Ns cu mg)(a:GK K x st f)(b:Fun K x x st f (fdOf a.2)->Binds K (fdOf a.2) ps []:=by first|exact fun F=>bOf0 F (by intros;rfl)|exact fun F=>bOf1 F (by intros;rfl)|exact fun F=>bOf2 F (by intros;rfl)|exact fun F=>bOf3 F (by intros;rfl)):Fg K mg x st f (fdOf a.2) ps:=#[ah2 a.2,b (ah2 a.2),fP X G a.1]
theorem XJ.xi{K:aG}{C f:Addr}{bmB:List Value}{newId:String}(h:XJ K C bmB newId)(m:fD K (.ref C) "__init__" = some (some (.ref f))):XI K C f bmB newId:=by
 obtain⟨nm,q,N,bs,bm,hd,sn,sub,ab,col,dd,k0,k1,k2,k3,k5,l,t,o,i⟩:=h;show#[#[nm,q,N,bs,bm,hd,sn,sub,ab,col,dd,k0,k1,k2,k3,k5,l,t,o,i.trans m]]
theorem mOf{K:aG}{C:Addr}{x q:Str}{st:Stmt}{f:Addr}{ps:List Str}(a:MeK K C x q st f)(b:Fun K x q st f (fdOf a.2.2)->Binds K (fdOf a.2.2) ps []:=by first|exact fun F=>bOf2 F (by intros;rfl)|exact fun F=>bOf3 F (by intros;rfl)|exact fun F=>bOf4 F (by intros;rfl)):Mg K C x q st f (fdOf a.2.2) ps:=#[ah2 a.2.2,b (ah2 a.2.2),a.mt (ah2 a.2.2)]
def RR(w:World)(K:aG)(mg:Str->Option Value)(fa:Addr):Prop:=∃fd:FuncData,(∀(s:Shared)(v:Value),Gw s fd #[[v],[]] [("_law_script",v)])/\∀base:Heap,K.In base->base.Ns cu mg->nA Jk.prog w K mg base CX0 13 fa fd ["_law_script"] (anl K)
theorem all_mk:ale RR:=by
 intro w K h mg fa C'0 C'1 C'2 C'3 C'4 C'5 C'6 C'7 C'8 C'9 Xj Xk X G hfa aC'0 yx Dm aC'1 tW zF aC'2 j7 qy aC'3 j8 qz aC'4 oZ vq aC'5 j9 qC aC'6 aC'7 aC'8 aC'9 afC afD gM jD qD qF qG qH jP jQ jR fJ fK fL mU mV mW mX mY mZ m5 m6 m7 cT cN jE gk0 gk1 agR agS agT agU agV adY mk'6 zk Ot zH Ae m8 aag Lz afE Xl wF jc tX iu Af m9 Ag nj Dp qI Dq qJ aah LC tY iw Ua Dr;obtain⟨⟨_,ZX⟩,⟨_,TF⟩,⟨_,apG⟩,⟨_,ah3⟩,⟨_,anY⟩,⟨_,anZ⟩,⟨_,an0⟩,⟨_,atB⟩,⟨_,afs⟩,⟨_,an1⟩,⟨_,ah4⟩,⟨_,aft⟩,⟨_,apH⟩,⟨_,Z0⟩,⟨_,Z1⟩,⟨_,TJ⟩,⟨_,afu⟩,⟨_,Z2⟩,⟨_,an2⟩,⟨_,ah5⟩,⟨_,a_row⟩,⟨_,Rx⟩,⟨_,TQ⟩,⟨_,Jf⟩,⟨_,ah6⟩,⟨_,atD⟩,⟨_,ab0⟩,⟨_,Z4⟩,⟨_,Ry⟩,⟨_,ab1⟩,_⟩:=gk0;obtain⟨⟨_,afv⟩,⟨_,ab2⟩,⟨_,an3⟩,⟨_,Li⟩,⟨_,Jg⟩,⟨_,FJ⟩,⟨_,Z6⟩,⟨_,TV⟩,⟨_,Rz⟩,⟨_,Z7⟩,⟨_,RD⟩,⟨_,Jh⟩,⟨_,ab3⟩,⟨_,Lj⟩,⟨_,Z8⟩,⟨_,TY⟩,⟨_,Lp⟩,⟨_,ab4⟩,⟨_,Lq⟩,⟨_,ab5⟩,⟨_,Z9⟩,⟨_,Lr⟩,⟨_,afw⟩,⟨ap4,agM⟩,_⟩:=gk1;obtain⟨⟨_,aac⟩,⟨_,RJ⟩,⟨_,FN⟩,⟨_,ab6⟩,_⟩:=agR;obtain⟨⟨_,Av⟩,⟨_,Lw⟩,⟨_,aad⟩,⟨_,T5⟩,_⟩:=agS;obtain⟨⟨_,wW⟩,⟨_,FP⟩,⟨_,RK⟩,_⟩:=agT;obtain⟨⟨_,wX⟩,⟨_,RL⟩,⟨_,RM⟩,_⟩:=agU;obtain⟨⟨_,zB⟩,⟨_,T6⟩,⟨_,RN⟩,_⟩:=agV;obtain⟨⟨_,RP⟩,⟨_,Lx⟩,⟨_,Ly⟩,⟨_,wY⟩,_⟩:=adY;obtain⟨⟨_,zE⟩,_⟩:=mk'6;have e:=hfa.symm.trans (fP X G agM.1);cases e;obtain⟨af7,U4,U5,U6,Qz,U7,U8,U9,_⟩:=Dm;obtain⟨af8,af9,QB,Va,_⟩:=zF;obtain⟨aga,Vb,Vc,Vd,_⟩:=qy;obtain⟨agb,Ve,Vf,Vg,_⟩:=qz;obtain⟨am8,QC,_⟩:=vq;obtain⟨agc,agd,agf,agg,agh,agi,agj,agk,agl,agm,_⟩:=qC;obtain⟨aae,z_abs,z_all,atE,atF,z_int,aaf,z_len,atG,z_max,z_min,apI,afx,an4,z_str,z_sum,z_zip,_⟩:=zk;have T:Tx K mg #[C'0,C'1,C'2,C'3,C'4,C'5,C'6,C'7,C'8,C'9,Xj,Xk,_,_,_,_,_,_,_,_,_,_,_,_,_,_,_,_,_,_,_,_,_,_,_,_,_,_,_,_,_,_,_,_,_,_,_,_,_,_,_,_,_,_,_,_,_,_,_,_,_,_,_,_,_,_,_,_,_,_,_,_,_,_,_,_,_,_,_,_,_,_,_,_,_,_,_,_,_,_,_,_,_,_,_,_,_,_,_,_,_,_,_,_,_,_,_,_,_,_,_,_,_,_,_,_,_,_,_,_,_,_,_,_,_,_,_,_,_,_,_,_,_,_,_,_,_,_,_,_,_,_,_,_,_,_,_,_,_,_,_,_,_,_,_,_,_,_,_,_,_,_,_,_]:=#[yx.cl,fP X G aC'0,yx.mk FN,af7,U4,U5,U6,Qz,U7,U8,U9,tW.cl,fP X G aC'1,tW.mk Av,af8,af9,QB,Va,j7.cl,fP X G aC'2,j7.mk wW,aga,Vb,Vc,Vd,j8.cl,fP X G aC'3,j8.mk wX,agb,Ve,Vf,Vg,oZ.cl,fP X G aC'4,oZ.mk zB,am8,QC,j9.cl,fP X G aC'5,j9.mk wY,agc,agd,agf,agg,agh,agi,agj,agk,agl,agm,fP X G aC'6,fP X G aC'7,fP X G aC'8,fP X G aC'9,fP X G afC,fP X G afD,gM.xi zE.1,jD,#[qD,qF,qG,qH],#[jP,jQ,jR],#[fJ,fK,fL],#[mU,mV,mW,m6,m7,mX,mY,m5,mZ],cT,cN,jE,gOf X G ZX,gOf X G TF,gOf X G apG,mOf aac,mOf RJ,gOf X G ah3,gOf X G anY,mOf FN,mOf ab6,gOf X G anZ,mOf Av,mOf Lw,mOf aad,mOf T5,gOf X G an0,gOf X G atB,mOf wW,gOf X G afs,mOf FP,mOf RK,mOf wX,gOf X G an1,gOf X G ah4,mOf RL,mOf RM,gOf X G aft,mOf zB,mOf T6,mOf RN,mOf RP,mOf Lx,mOf Ly,mOf wY,gOf X G apH,gOf X G Z0,gOf X G Z1,gOf X G TJ,gOf X G afu,gOf X G Z2,gOf X G an2,gOf X G ah5,gOf X G a_row,gOf X G Rx,gOf X G TQ,gOf X G Jf,gOf X G ah6,mOf zE,gOf X G atD,gOf X G ab0,gOf X G Z4,gOf X G Ry,gOf X G ab1,gOf X G afv,gOf X G ab2,gOf X G an3,gOf X G Li,gOf X G Jg,gOf X G FJ,gOf X G Z6,gOf X G TV,gOf X G Rz,gOf X G Z7,gOf X G RD,gOf X G Jh,gOf X G ab3,gOf X G Lj,gOf X G Z8,gOf X G TY,gOf X G Lp,gOf X G ab4,gOf X G Lq,gOf X G ab5,gOf X G Z9,gOf X G Lr,gOf X G afw,gOf X G agM,jY X G aae,jY X G z_abs,jY X G z_all,jY X G atE,jY X G atF,jY X G z_int,jY X G aaf,jY X G z_len,jY X G atG,jY X G z_max,jY X G z_min,jY X G apI,jY X G afx,jY X G an4,jY X G z_str,jY X G z_sum,jY X G z_zip,#[_,fP X G zH,_,rfl],#[_,fP X G m8,_,rfl],#[_,fP X G Lz,_,rfl],#[_,fP X G Xl,_,rfl],#[_,fP X G jc,_,rfl],#[_,fP X G iu,_,rfl],#[_,fP X G m9,_,rfl],#[_,fP X G nj,_,rfl],#[_,fP X G qI,_,rfl],#[_,fP X G qJ,_,rfl],#[_,fP X G LC,_,rfl],#[_,fP X G iw,_,rfl],#[_,fP X G Dr,_,rfl],al5 _ _ tb_g%,asn tb_g% tb_g% tb_g%];show#[fdOf agM.2,fun s v=>?_,fun base _ _=>(atA T).2];obtain⟨_,_,_,_,_,_,_,_,_,e,_⟩:=(ah2 agM.2).ex;rw[e];exact .of_eq rfl
theorem walk{q:aH}{loose:List Str}{XP:(Str->Option Value)->Heap->Prop}{YP:World->Heap->Prop}{d:Wz}{K:Gx->aG}(hn:Jk.most=some 63)(hdf:d.params.defaults=[])(hY:∀(w:World)(h:Heap),YP w h->(K w.params).In h)(F:∀(w:World)(mg:Str->Option Value)(fa:Addr)(h:Heap),(K w.params).In h->h.Ns cu mg->mg d.name=some (.ref fa)->RR w (K w.params) mg fa):acH q loose XP YP Jk.row.toRowW d [] (fun f vs=>Wj f vs):=
 L2.aoo (n:=63) (k:=13) (x := "_law_script") (CX:=fun _=>CX0) (sp:=fun w=>anl (K w.params)) hn tb_g% hdf #[rfl,by decide,by decide] hY F (fun _ _ a ns hl _ hS=>#[a,ns,rfl,hS,hl,fun _=>rfl]) fun _ _ _ _ _ z=>z
end My
theorem PySem.Challenge.cw_sketchbounds_k32_words_at_fault_holds : PySem.Challenge.rw_sketchbounds_k32_words_at_fault.Holds := by
  exact My.head My.RR My.all_mk My.walk

