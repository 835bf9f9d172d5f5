import PyProof.Rows.All
import Wide.All
import OpenK.AllK
import Wide.FinOn
import Lean
import PyProof.EqAt
import PyProof.EqKinds
import PyProof.TupleCall
import PyProof.NeKinds
import PyProof.ZipIter
import PyProof.Rows.SumAny
import PyProof.Rows.Range3
import PyProof.AutoIntG2
import KE.KRevIter
import KE.KSortTup
import PyProof.Rows.SetFrom
import PyProof.SetRoads
import PyProof.CollectIter
import PyProof.ForAny
import PyProof.ListRange
import PyProof.ListIndex
import PyProof.Rows.StrWeight2
import PyProof.StrCalls
import PyProof.Rows.RuleN_abs
import PyProof.JoinWalk
import PyProof.Rows.StrDigits
import PyProof.StrBlock
import PyProof.StrBlockL
import KE.KIntText
import PyProof.Rows.StrNews
import PyProof.StrCalls3
import PyProof.Rows.StrSplit
import PyProof.StrLawsTight
import PyProof.StrWalks
import PyProof.ConsumeWalk
import PyProof.SliceStr2
import PyProof.AttrMiss
import PyProof.FactsAll.zip
import KE.KDictOf
import PyProof.CollectWalk
import PyProof.ListNew
import KE.IntTextText
import PySem.Challenge.RW_sketchbounds_k48_whole_holes_and_doubles
set_option compiler.extract_closed false
abbrev Q1:List PySem.Str:=["one","other"]
abbrev Q2:List PySem.Str:=["self","thing","weight"]
abbrev Q3:List PySem.Str:=["self","room"]
abbrev Q10:List PySem.Str:=["words","line"]
abbrev Q11:List PySem.Str:=["window"]
abbrev Q12:List PySem.Str:=["thing"]
abbrev Q13:List PySem.Str:=["word","line"]
abbrev Q14:List PySem.Str:=["things"]
abbrev Q15:List PySem.Str:=["rungs"]
abbrev Q16:List PySem.Str:=["things","rungs"]
abbrev Q17:List PySem.Str:=["things","turns"]
abbrev Q18:List PySem.Str:=["self","stands_for"]
abbrev Q19:List PySem.Str:=["self","room","reach"]
abbrev Q20:List PySem.Str:=["self","weight"]
abbrev Q21:List PySem.Str:=["self","many"]
abbrev Q22:List PySem.Str:=["things","level"]
abbrev Q23:List PySem.Str:=["self","thing"]
abbrev Q24:List PySem.Str:=["self","span"]
abbrev Q25:List PySem.Str:=["self","room","reach","span"]
abbrev Q26:List PySem.Str:=["lists","place"]
abbrev Q27:List PySem.Str:=["rest","bend"]
abbrev Q28:List PySem.Str:=["holds","line"]
abbrev Q29:List PySem.Str:=["room","reach","span"]
abbrev Q30:List PySem.Str:=["balance","words","line"]
abbrev Q31:List PySem.Str:=["_law_cell","_law_factor","_law_prime"]
abbrev Q32:List PySem.Str:=["lists","thing","weight"]
abbrev Q33:List PySem.Str:=["sums","thing","weight"]
abbrev Q34:List PySem.Str:=["pairs","rest","span"]
abbrev Q35:List PySem.Str:=["lines","line","name"]
abbrev Q36:List PySem.Str:=["frequent","things"]
abbrev Q37:List PySem.Str:=["frequent","words","line"]
abbrev Q38:List PySem.Str:=["rungs","words","line"]
abbrev Q39:List PySem.Str:=["window","words","line"]
abbrev Q40:List PySem.Str:=["distinct","words","line"]
abbrev Q41:List PySem.Str:=["_law_script","_law_span","_law_most"]
abbrev Q42:List PySem.Str:=["_law_script","_law_span","_law_more"]
abbrev Q43:List PySem.Str:=["_law_script","_law_rows","_law_span"]
abbrev Q44:List PySem.Str:=["_law_found","_law_due"]
abbrev Q45:List PySem.Str:=["_law_span","_law_sums"]
set_option linter.defProp false
open List renaming length_map->aV,getElem?_eq_getElem->gA,mem_cons_self->dO,length_append->fj,mem_cons_of_mem->fX,mem_cons->cO,mem_singleton->cZ,getElem?_eq_some_iff->gn,size_toArray->dh,map_append->cM,mem_append->dY,getElem?_map->gQ,getD_eq_getElem?_getD->lZ,length_take->iw,map_cons->fU,not_mem_nil->iM,mem_append_right->mj,length_cons->jo,pairwise_cons->kW,nodup_cons->jJ,mem_or_eq_of_mem_set->wz,length_set->kY,take_of_length_le->wA,take_length->m9,mem_map->jq,append_assoc->pL,length_eq_zero_iff->z8,getElem?_eq_none->wX,take_add_one->qM,length->mC,filter_append->Cp,nodup_nil->wB,sum_cons->uc,filterMap_cons->Hj,length_replicate->Ju,length_filter_le->Jv,map_map->mK,getElem_mem->uZ,cons_ne_nil->u9,getElem?_append_right->Jw,length_reverse->Ay,flatMap_cons->wY,getElem?_append_left->Jx,range->jY,filter_cons->wZ,mem_append_left->Ep,getElem?_set_ne->Er,replicate->vd,map_congr_left->Es,mem_range->xg,mem_of_mem_drop->Jy,find?_cons->Az,all_eq_true->Et,getElem?_set_self->Qg,append_nil->Eu,mem_filter->Ew,take_append_drop->Qh,any_cons->Bb,length_range->Jz,length_eraseIdx_of_lt->WM,mem_iff_getElem->Qi,pairwise_append->Qj,getElem?_eq_none_iff->WQ,pairwise_iff_getElem->WR,length_drop->JB,drop_length->JC,map_eq_nil_iff->Qk,pairwise_singleton->WT,eq_getElem_of_length_eq_two->aeg,drop_of_length_le->WW,lookup->Bc,nodup_append->Ql,length_filterMap_eq_countP->aeh,getElem?_toArray->WX,perm_append_comm->WY,map_reverse->Qm,map_drop->JD,drop_set_of_lt->W5,take_succ_cons->W6,mem_map_of_mem->W7,foldl_cons->Qn,flatMap_append->W8,mem_filterMap->W9,map_nil->JF,drop_eq_getElem_cons->aei,take_sublist->Xa,foldl_append->Xb,getElem?_replicate->aej,pairwise_mergeSort->aek,getLast?_cons_cons->ael,getElem?_cons_succ->aem,lookup_cons->Xc,mem_reverse->Xd,filter_eq_nil_iff->aen,pairwise_lt_range->aeo,of_mem_zip->Xe,range_succ->Xf,getElem?_reverse->aep,mem_of_mem_tail->aer,mem_of_mem_take->aes,getElem?_of_mem->aeu,filter_eq_self->aev,mergeSort_perm->aew,drop_succ_cons->aex,take_set_of_le->aey,length_pos_iff->aez,map_filterMap->aeA,take_nil->Xg,filterMap_map->aeB,reverse_cons->aeC,cons_append->aeD,perm_middle->aeE,getElem_map->aeF,nil_append->aeG,sum_append->aeH,forIn_cons->aeI,drop_left->aeJ,drop_zero->aeK,take_zero->aeL,forIn_nil->aeM,all_cons->aeN,nil_perm->aeO,map_take->aeP,map_id'->aeQ,map_set->aeR,map_id->aeS
open PySem renaming wpAny_bind->aJ,wpAny_pure->aU,boot_len->dZ,Program->bh,mainGlobals->dH,starEach->cT,wpAny_mono->fP,Around->bY,wpAny_holding->qN,codeAny_builtin->xq,wpAny_call_entry->z9,wpAny_Call_Name_kw->xr,sliceBounds->jZ,plainId_quiet->nU,wpAny_setField_rec->xu,Builtin->eG,SetTable->gG,compareOp->iQ,wpAny_truthy_bool->xG,wpAny_newObj_type->xH,builtinLookup_eq_fast->Ey,wpAny_ite_split->vf,wpAny_updateSeq->vg,wpAny_callSpecial?_slot->JG,mem_of_lookup->Ez,relabel->gH,wpAny_seqItems->xJ,wpAny_passesOwn->Bd,wpAny_pyIter_list->EY,foldedSetIterable->Fb,codeAny->ig,wpAny_comprehension_free->Qo,wpAny_setState_of->Fd,fits_of_scanBound->Fe,bootBuiltins->vh,codeAny_mono->vm,attributeBase->xK,wpAny_setEntries_of->JH,wpAny_getItem_str_slice->Qp,wpAny_askSetting->Fi,intKind->jj,wpAny_execs_nil->Fj,wpAny_specialOf->Fl,wpAny_of_eq->vo,typeLookup_type->Fo,sysModules->sy,wpAny_isInstance->JK,evalArgs_none->Qq,backTo->iu,importedModules->JL,letOwnedTupleGo->JM,tupleKind_room_in1->Qs,typeLookup->xM,wpAny_Call_method->Qt,wpAny_rule->xO,binaryOp->pN,wpAny_tryCatch->JN,pyNext->jk,wpAny_pyIter_zip->Qu,wpAny_pyIter_revIter->Xh,wpAny_attempt->JQ,call_meets->Bf,treeTable->xP,keywordEach->Fp,argBest->nY,wpAny_letGo->Ft,post_val_or_str->Qv,entryFor->vp,wpAny_typeOf->JR,entryFor_alias->Qw,setAddHashedIn->Qx,isSubtype_type->Qy,wpAny_fieldsOf->Qz,swapsWith->Bg,assign->lA,assignEach->Fv,wpAny_assign_Name->Xi,slot_list_getitem->Xj,typeIs_str->Fw,wpAny_getItem_list_slice->aeT,wpAny_pyIter_slot->Xk,wpAny_standAt->QB,behindInMarks->QC,relayAll->xQ,wpAny_execs_cons->Xl,checkBuiltinCall->Xm,codeAny_compStart_list->aeU,tupleKind->Fx,rawInt->nZ,Result->n8,exec_Assign_Name_used->aeV,updateSeq->Fy,wpAny_call->JT,NameKind->Bh,storeSet->Bj,intItems->Bk,wpAny_newFunctionEnv->aeW,codeAny_call_builtin->aeX,codeAny_extend_loopS->aeY,wpAny_pyNext_zip_end->aeZ,method_meetsIn->Xn,isSubtype_stop->Xo,callType_codes->Xp,holding->xR,sizeLine_eq->QD,length_partsBetween->ae0,wpAny_field->QF,getMethod->JV,bindArgs->Fz,backToKw->FJ,slicePick->JW,wpAny_newList->Xq,argsOk->sH,call_reversed_list->ae1,getattributeRaised->ae2,call->QG,wpAny_Assign_Name->ae3,Keyword->Bl,valueAt->Bm,callerA->Bo,closureFor->QH,wpAny_storeSet_of->ae4,setsByText->QJ,wpAny_setEpoch_of->ae5,Within->Xr,seqIndex_neg->Xu,entryFor_of_tree->ae6,pyIter->xT,BindsTo->FN,seqIndex_of->Xv,subscripted->Xw,pickOrder->QK,codeAny_of_tree->ae7,unsupported->Xx,intItems_at->Xy,am_miss_of_fast->ae8,fitsIndex_both->ae9,fastBuiltinMro->afa,newFunctionEnv->afb,wpAny_runValue->afc,firstArgMember->afd,builtinsNs->Xz,wpAny_Name->XC,checkCount->XD,bltViewBooted->afe,standAt->JX,intBits_le_64->afg,evalPart_none->afh,call_list_seq->afi,compEnvC->QL,newList->JZ,eval_ListComp->afj,comprehension->afk,relayAll_perm->afl,relayAll_fits->afm,nums_intItems->afn,code_list_new->afo,Params->FQ,PassesOwn->XF,cellsFrom->XH,call_meetsIn->afp,DictEntry->XJ,setAddHashed->afq,newFields->XM,strValues->XQ,getItem->QM,ElemsOf->QS,plainId->QT,isTrue->J0,IntMulOk->XR,callWith->XS,layNew->J8,ZipApart->X3,Thread->QV,DefRec->QW,IsPair->QX
open PySem.W renaming Frag->bB,mg_none_of->nu,mg_of->jN,nsIn->jw,findIn->nA,kia_one->xU,emptyDict->Cq,kitOne->xV,fnOf->oh,keepIn->vq,instObj->xW,mroIn->xX,plainGet->FT,hasDictIn->J9,excIn->Bq,hideAll_none->QZ,of_hideAll->Q0,plainOver->Q5,codeIn->Ka,methodCall_KW->X4,makesIn->Q6,hideAll_get->X5,plainGet_of->X6,isFn->Kc,callWith_K->X7,typeIn->Q7,lookIn->Q8,kitCls->Q9,methodObj->X8,cellsFrom_some->afr,takerIn->Yb,callWith_K0->afs,kdu_collect->aft,WalkO->Yc,Looks->Yd,specialIn->afu,kitx_list->afv,kitx_dict->afw,handedIn->afx,kdl_dict->afy,hideAll->afz,kitMeta->afA,kIn_of->amR,KdlSrc->afB,clsIn->afC
open PySem.Heap renaming get?_push_of_some->dX,lt_size->bU,get?_push_size->eE,get?_update_other->xY,get?_update_self->Aa,size_push->qO,SameBut->xZ,get?_none_of_le->Ye,IsList->Ra
open PySem.Str renaming ofString->bK,join->Rb,empty->Yg,length->afD
open Nat renaming le_refl->bG,lt_of_lt_of_le->fJ,ne_of_lt->cH,le_trans->eN,zero_le->eO,lt_of_le_of_lt->mD,lt_or_ge->jO,lt_irrefl->ud,le_of_lt->qP,lt_succ_of_lt->Cr,mul_le_mul_right->Br,lt_succ_self->yc,ne_of_gt->sI,pow_succ->sO,pow_le_pow_right->Kd,strongRecOn->Bs,le_succ->sS,le_add_right->FW,eq_zero_or_pos->Ke,mul_add->Bt,le_succ_of_le->Rf,zero_add->FZ,mul_comm->Ga,mul_assoc->Kf,digitChar->Kg,not_lt_zero->Rg,min_eq_left->Rh,le_of_eq->Ri,lt_trans->Rj,mul_zero->Rk,add_zero->Rm,add_le_add_left->afE,mul_le_mul_left->afF,log2_lt->Ro,lt_trichotomy->afG,succ_le_succ->afH,le_of_not_lt->afI,mul_le_mul->afJ,not_lt->Yh,add_assoc->afK,pow_zero->afL,repr->Yi,mod_lt->afM
open Option.some renaming inj->cN,injEq->Yj
open PySem.Challenge renaming rw_sketchbounds_k48_whole_holes_and_doubles->Hl,pw_sketchbounds_k48_whole_holes_and_doubles->amS
open Ne renaming symm->aX
open Bool renaming false_ne_true->jr,and_eq_true->Kl,eq_iff_iff->Km,false_eq_true->Yk,and_eq_true_iff->afN,or_false->Yl,or_eq_true->afO,false_or->afP
open Array renaming length_toList->mF,getElem?_toList->qQ,toList_append->Kq,getElem?_eq_some_iff->Ym,toArray_toList->Yn,toList_push->Yo,toList_inj->Yp,getElem?_eq_none->afQ,mem_toList_iff->afR,size_replicate->afS,toList->afT
open PySem.F renaming plainAttrs_list->qT,slot_list_append->yd,type_list_append->yg,excBase_ValueError->Kr,plainAttrs_str->Ks,plainAttrs_dict->Rp,slot_dict_get->Yq,slot_int_bit_length->afU,slot_dict_values->afV,slot_list_insert->afW,type_list_insert->afX,args_dict_get_3->afY,slot_dict_items->afZ,entry_dict_get->af0,slot_dict_keys->af2,slot_str_split->af3,type_str_split->af4,slot_str_join->af5,type_str_join->af6
open PySem.PassesOwn renaming never->jK
open PyProof.Rows renaming callWith_type1->Ab,boot_sum->Gb,boot_sorted->Ku,boot_isinstance->Rq,boot_all->Rr,boot_list->Yr,callWith_builtin1->af7,envOfC->j4,expectedOf->af8,plainGoodE->af9,plainGoodD->aga,AllBare->sW,subscriptTail->Rt,subscriptTail_builtinR->agb,boot_dict->agc,entry_list_sort->Ys,boot_max->agd,boot_int->agf,boot_str->agg,drecsOf->agh,slot_list_sort->Yt,sortedHeap_old->Yu,sortedHeap_at->Yv,size_push'->Rv,floordiv_int->Yw,plain_sorted->Yx,entry_sorted->Yy,seqObj->yh,kind_sorted->Yz,list_sort_tree->agi,args_list_sort->agj,Subscript_->YB,Constant_bool->agk,boot_reversed->agl,boot_tuple->amT,boot_bool->amU,args_sorted1->agm,boot_set->amV,tail_any->YC,boot_zip->YD
open PySem.SetTable renaming below->jP,grown->Bu,has->Rx,toList_insertAt->amW,slot->agn,fits->ago,probeStart->amX,orStandIn->amY,sizeAbove->amZ,freeSlot->am0,insertAt->am1,layClean->am2,advance->am3,standIn->am4,relaid->am5,Probe->am6,laid->am7,put->am8
open PySem.Builtin.List renaming listExtendWith->Cu,listSameRef->Oq,listLengthHint->Kv,listItems->Ry,listUpdate->agp,listFitsIndex->am9,listTouch->ana
open PySem.Builtin.Int renaming intBits->uf,intTooBig->agq
open Int renaming le_refl->iW,emod_lt_of_pos->yj,mul_le_mul_of_nonneg_right->Ot,toNat_of_nonneg->Cv,zero_add->pO,emod_nonneg->yp,mul_le_mul->pP,natAbs_ediv_le_natAbs->Kw,fdiv_eq_ediv_of_nonneg->Rz,natCast_pow->Bv,pow_succ->vA,add_mul->vB,zero_mul->Bw,mul_assoc->Gd,natCast_add->Ky,natAbs_add_le->RB,add_zero->Ge,add_assoc->Kz,mul_fdiv_cancel->YF,mul_neg_of_neg_of_pos->agr,add_mul_ediv_right->ags,mul_eq_zero->YG,ofNat_lt->RD,mul_ne_zero->YH,add_comm->RJ,mul_nonneg->YJ,natAbs_mul->YK,one_mul->RK,pow_pos->RL,pow_add->RM,mul_right_comm->agt,mul_comm->YL,mul_zero->YM,mul_add->YQ,le_antisymm->agu,ediv_nonneg->agv,ne_of_gt->agw,lt_or_le->agx,mul_emod->agy,mul_one->agz,neg_neg->agA
open PySem.Txt renaming join->fu,split->sX,slice_le->RN,contains->YS,startswith->agB,slice->agC
open PySem.Around renaming under_plainId->Ac,under->YT
open PySem.Calls renaming spliced_cons->Cw,spliced_nil->yq,callWith_builtin->YW,evalArgs_plain->YX,Name_function_global->agD,call_function_entry->agE
open Option renaming map_eq_some_iff->KC,isSome_iff_exists->YZ,bind_eq_some_iff->agF,getD_none->Y0,isSome_map->agG,map_some->agH,map_map->agI
open False renaming elim->lB
open PySem.Obj renaming mapSeq->mG,putSet->RQ
open PySem.Builtin.SmallTypes renaming ownedTupleIsFree->agJ,nextOf->anb
open PySem.SetTable.below renaming go->RT
open Char renaming toNat->yt
open PySem.Value renaming isInt->Gg,isStrOf->agK
open Prod renaming ext->vC
open PySem.SeqAt.EqAt renaming of_refs->Y4,same->Y5,int_str->agL,str_int->agM,none_bool->anc,bool_none->ane,bool_bool->anf,none_int->ang,none_str->anh,bool_int->ani,bool_str->anj,int_none->ank,int_bool->anl,str_none->anm,str_bool->ano,int_int->anp,str_str->anq
open PySem.Builtin.Str renaming strKind->agN
open PySem.SeqAt renaming EqAt->Gh
open PyProof renaming noPylong_of_log2->agO
open List.cons renaming inj->RV,injEq->anr
open PySem.Builtin.Dict renaming updateFrom->agP,selfAndRest->ant,addKeywords->anu
open PySem.SeqAt.RcAt renaming lists->Y6,tuples->agQ,lists_lengths->anv
open PySem.Heap.IsList renaming push->Y7
open Classical renaming choose_spec->agR,choose->agS
open PySem.Heap.SameBut renaming update->agT,refl->anw
open PySem.AutoSeq1 renaming list_insert_list_int_val_1->anx
open PySem.W.Fast renaming te9446332074065402090->anz
open Prod.mk renaming injEq->Y8
open PySem.Paired renaming length->Y9,snoc->agU
open PySem.Heap.IsSliceOf renaming new->agV
open List.Nodup renaming sublist->agW
open List.Perm renaming cons_inv->agX,append_left->anA
open PySem.SetTable.probe renaming go->agY
open PySem.Walks renaming list->RW
open PySem.Code renaming isFrame->Za,frames->agZ
open PySem.AutoIntG2 renaming int_bit_length_int_0->anB
open List.Sublist renaming map->ag0
open PySem.Builtin.Frozenset renaming updateFrom->anC,newClass->anD,sizeOf->anE
open Eq renaming trans->KD
open PySem.Heap.DictOf renaming new->ag1
open PySem.Builtin.Builtins renaming bindParams->anF
open PySem.Shared renaming heap->Zb,TypeIs->ag2
open PySem.EqNone renaming eq_none_none->anG,eq_none_bool->anH,eq_bool_none->anI,ne_none_none->anJ,ne_none_bool->anK,ne_bool_none->anL,eq_none_int->anM,eq_none_str->anN,eq_int_none->anO,eq_str_none->anP,ne_none_int->anQ,ne_none_str->anR,ne_int_none->anS,ne_str_none->anT
open PySem.EqMixed renaming eq_bool_str->anU,eq_str_bool->anV,ne_bool_str->anW,ne_str_bool->anY,eq_int_str->anZ,eq_str_int->an0,ne_int_str->an1,ne_str_int->an2
open PySem.Bind renaming checkArgs->ag3
open PySem.SetTable.Met.empty renaming injEq->an3
open PySem.Builtin.Range renaming rangeSize->an4
open List.Pairwise renaming filterMap->an5
open PySem.Heap.UpToSlots renaming of_keeps->an6
open PySem.W.KIN renaming call_text->an7
open PySem.MeetsSeq renaming list_pop_at->an8
open Sum.inl renaming inj->ag4
open PySem.ItemsOf renaming nil->ag5
open PySem.SC renaming startswith->an9
open PySem.W.Looks renaming here->aoa,ld->aob
open PySem.Within renaming cons->aoc
open PySem.Heap.Ns1 renaming of_empty->aod
open PySem.DictEntry renaming refKey->aoe
open PySem.IsL renaming update->aof
open Int.ofNat renaming inj->aog
set_option hygiene false
local macro_rules | `(term| tb_g%) => `(by first | decide +kernel | lia | exact hr.mono (by decide))
local macro_rules | `(tactic| k_dat ($x0,$x1:ident) "a") => `(tactic| (refine $x0:term $x1:ident (fun vs H Q E h=>?_) (fun cdv B outer s H vs Q E hr h=>?_)))
set_option hygiene true
set_option maxRecDepth 100000
set_option maxHeartbeats 0
namespace L2
open PySem
def inClass(s:Stmt)(j:Nat):Stmt:=match s with
 | .ClassDef _ _ _ body _ _ _ _ _ _ _=>body.getD j (.Pass ⟨0,0,0,0⟩)
 |_=>.Pass ⟨0,0,0,0⟩
def m7(s:Stmt):Arguments:=match s with
 | .FunctionDef _ a _ _ _ _ _ _ _ _=>a
 |_=>{ posonlyargs:=[],args:=[],vararg:=none,kwonlyargs:=[],kw_defaults:=[],kwarg:=none,defaults:=[] }
def jU(s:Stmt):List Stmt:=match s with
 | .FunctionDef _ _ b _ _ _ _ _ _ _=>b
 |_=>[]
def aF(s:Stmt):Scope:=match s with
 | .FunctionDef _ _ _ _ _ _ sc _ _ _=>sc
 |_=>{ kind:=.function,names:=[],isGenerator:=false,isCoroutine:=false }
end L2
namespace My
open PySem PySem.W PyProof.Rows
def qU(tb:String->Option eG)(p:bh)(w:World)(n₀:Nat)(ann:Option Value):Nat->SharedT->QV->Option SharedT
 |0,_,_=>none
 |n+1,s,t=>match through t with
  |true=>some s
  |false=>match stepOk n₀ ann t with
   |false=>none
   |true=>match stepT (denote tb) p w s t with
    |some (s',t')=>qU tb p w n₀ ann n s' t'
    |none=>none
theorem KH{tb:String->Option eG}{p:bh}{w:World}{n₀:Nat}{ann:Option Value}:∀{n:Nat}{s s':SharedT}{t:QV},qU tb p w n₀ ann n s t=some s'->topRun tb p w n₀ ann n s.abs t=some s'.abs
 |0,_,_,_,h=>by cases h
 |n+1,s,s',t,h=>by
  unfold qU at h;unfold topRun;cases ht:through t with
  |true =>
   rw[ht]at h;obtain rfl:=cN h;rfl
  |false =>
   rw[ht]at h;dsimp only at h ⊢;cases hs:stepOk n₀ ann t with
   |false=>rw[hs]at h;cases h
   |true =>
    rw[hs]at h;dsimp only at h ⊢;cases hq:stepT (denote tb) p w s t with
    |none=>rw[hq]at h;cases h
    |some x =>
     obtain⟨s2,t2⟩:=x;rw[hq]at h;rw[stepT_spec hq];exact KH h
def treeOf:List Obj->Nat->BT->Option BT
 |[],_,t=>some t
 |o::r,n,t=>match ((t.ins n o).get n).isSome with
  |true=>treeOf r (n+1) (t.ins n o)
  |false=>none
theorem Ou{life:Life}:∀{l:List Obj}{n:Nat}{t t':BT},treeOf l n t=some t'->absHeap t' (n+l.length) life=⟨((t.list n)++l).toArray,life⟩
 |[],n,t,t',h=>by
  obtain rfl:=cN h;rw[Eu];rfl
 |o::r,n,t,t',h=>by
  unfold treeOf at h;cases g:((t.ins n o).get n).isSome with
  |false=>rw[g]at h;cases h
  |true =>
   rw[g]at h;have e:=Ou (life:=life) h;rw[show n+(o::r).length=n+1+r.length by rw[jo];lia,e];have e2:=absHeap_ins (life:=life) g;have e3:(t.ins n o).list (n+1)=t.list n++[o]:=by
    have:=congrArg (fun h:Heap=>h.objs.toList) e2;simpa[absHeap,Heap.push]using this
   rw[e3,pL];rfl
def RX(h:Heap):Option BT:=treeOf h.objs.toList 0 .nil
theorem abW{h:Heap}{T:BT}(e:RX h=some T):absHeap T h.objs.size h.life=h:=by
 have:=Ou (life:=h.life) e;rw[FZ,mF]at this;rw[this];show Heap.mk (([]++h.objs.toList).toArray) h.life=h;rw[aeG]
def abX(p:bh)(w:World)(N:Nat):Option (Shared × SharedT):=(fencedOpening xP p w N).bind fun s₀ =>
 match s₀.heap.isNs dH && s₀.gens.size == 0 with
 |true=>(RX s₀.heap).bind fun T=>(qU xP p w s₀.heap.objs.size (s₀.heap.nsMap dH "__annotations__") N ⟨T,s₀.heap.objs.size,s₀.heap.life,s₀.gens,s₀.drawn,s₀.toks,s₀.os⟩ (topStub p)).map fun s₁=>(s₀,s₁)
 |false=>none
def okT(p:bh)(x:Shared × SharedT):Bool:=staticsOk (JL p.main.body) x.1.heap x.2.abs.heap && namesBound p x.2.abs.heap && gensDone x.2.abs && laidKept x.1.heap x.2.abs.heap
abbrev Gi(p q:bh)(Xt:Shared->Bool)(x:Shared × SharedT):=openSeen q [] (JL p.main.body) Xt true x.2.abs
theorem akp{p:bh}{w:World}{N:Nat}{x:Shared × SharedT}(h:abX p w N=some x)(ok:okT p x=true):openEnds xP p w N=some x.2.abs:=by
 unfold abX at h;obtain⟨s₀,e0,e1⟩:=agF.mp h;unfold openEnds;rw[e0];show topFrom xP p w N s₀=_;unfold topFrom;cases g:(s₀.heap.isNs dH && s₀.gens.size == 0)with
 |false=>rw[g]at e1;cases e1
 |true =>
  rw[g]at e1;dsimp only at e1 ⊢;obtain⟨T,eT,e2⟩:=agF.mp e1;obtain⟨s₁,e3,e4⟩:=KC.mp e2;subst e4;have r:=KH e3;have ab:(SharedT.mk T s₀.heap.objs.size s₀.heap.life s₀.gens s₀.drawn s₀.toks s₀.os).abs=s₀:=by
   show Shared.mk (absHeap T s₀.heap.objs.size s₀.heap.life) _ _ _ _=s₀;rw[abW eT]
  rw[ab]at r;rw[r]
  show (match staticsOk (JL p.main.body) s₀.heap s₁.abs.heap && namesBound p s₁.abs.heap && gensDone s₁.abs && laidKept s₀.heap s₁.abs.heap with
   |true=>some s₁.abs
   | false=>none)=_
  have ok':(staticsOk (JL p.main.body) s₀.heap s₁.abs.heap && namesBound p s₁.abs.heap && gensDone s₁.abs && laidKept s₀.heap s₁.abs.heap)=true:=ok;rw[ok']
def Look(p:bh)(N:Nat){β:Type}(f:Shared × SharedT->β)(b:World->β):Prop:=∀w:World,(abX p w N).map f=some (b w)
theorem Look.at{p:bh}{N:Nat}{β:Type}{f:Shared × SharedT->β}{b:World->β}(h:Look p N f b){w:World}{x:Shared × SharedT}(e:abX p w N=some x):f x=b w:=by
 have:=h w;rw[e]at this;exact cN this
theorem akq{p q:bh}{Xt:Shared->Bool}{α:Type}{Yf:Shared->α}{Ya:World->α}{N:Nat}
  (h0:Look p N (okT p) fun _=>true)
  (h1:Look p N (fun x=>(Gi p q Xt x).1) fun _=>(openGood q []).1)
  (h2:Look p N (fun x=>(Gi p q Xt x).2.1) fun _=>(openGood q []).2.1)
  (h3:Look p N (fun x=>(Gi p q Xt x).2.2.1) fun _=>(openGood q []).2.2.1)
  (h4:Look p N (fun x=>(Gi p q Xt x).2.2.2.1) fun _=>(openGood q []).2.2.2.1)
  (h5:Look p N (fun x=>(Gi p q Xt x).2.2.2.2.1) fun _=>(openGood q []).2.2.2.2.1)
  (h6:Look p N (fun x=>(Gi p q Xt x).2.2.2.2.2.1) fun _=>(openGood q []).2.2.2.2.2.1)
  (h7:Look p N (fun x=>(Gi p q Xt x).2.2.2.2.2.2.1) fun _=>(openGood q []).2.2.2.2.2.2.1)
  (h8:Look p N (fun x=>(Gi p q Xt x).2.2.2.2.2.2.2.1) fun _=>(openGood q []).2.2.2.2.2.2.2.1)
  (h9:Look p N (fun x=>(Gi p q Xt x).2.2.2.2.2.2.2.2) fun _=>(openGood q []).2.2.2.2.2.2.2.2)
  (hY:Look p N (fun x=>Yf x.2.abs) Ya):LeftO p q [] Xt Yf Ya N:=fun w=>by
 obtain⟨x,e,_⟩:=KC.mp (h0 w);show(openEnds xP p w N).map _=_;rw[akp e (h0.at e)];show some (Gi p q Xt x,Yf x.2.abs)=some (openGood q [],Ya w);have a:=hY.at e;have b:Gi p q Xt x=openGood q []:=vC (h1.at e) (vC (h2.at e) (vC (h3.at e) (vC (h4.at e) (vC (h5.at e) (vC (h6.at e) (vC (h7.at e) (vC (h8.at e) (h9.at e))))))));rw[b];exact congrArg some (vC rfl a)
def ag6(s:SharedT):List Addr->Option (List (Option Obj))
 |[]=>some []
 |a::r=>match Nat.blt a s.n with
  |true=>match s.tree.get a with
   |some o=>match ag6 s r with
    |some l=>some (alive o::l)
    |none=>none
   |none=>none
  |false=>none
theorem aaP{s:SharedT}:∀{as:List Addr} {l:List (Option Obj)},ag6 s as=some l->as.map s.abs.heap.get? = l
 |[],l,h=>cN h
 |a::r,l,h=>by
  unfold ag6 at h;cases hb:Nat.blt a s.n with
  |false=>rw[hb]at h;cases h
  |true =>
   rw[hb]at h;dsimp only at h;cases ho:s.tree.get a with
   |none=>rw[ho]at h;cases h
   |some o =>
    rw[ho]at h;dsimp only at h;cases hl:ag6 s r with
    |none=>rw[hl]at h;cases h
    |some l2 =>
     rw[hl]at h;obtain rfl:=cN h;rw[fU,aaP hl];exact congrArg (· :: l2) (abs_get (Nat.le_of_ble_eq_true hb) ho)
open PySem.W.Fast renaming tw10156331382660048174->alX, te10156331382660048174->ag7, tw6613529449190102663->aaQ, te6613529449190102663->Zc, tw11892475500146522536->aaR, te11892475500146522536->Zd, tw14364793385576792824->ag8, te14364793385576792824->Ov, tw4187177175401517315->abY, te4187177175401517315->RZ
noncomputable def ag9(w:World)(os:OsState):Shared:=⟨boot_heap w.params,Array.mk [],boot_drawn,boot_toks,os⟩
noncomputable def aaS(p:bh)(w:World)(N:Nat)(s₀:Shared):Option (Shared × SharedT):=(RX s₀.heap).bind fun T=>(qU xP p w s₀.heap.objs.size (s₀.heap.nsMap dH "__annotations__") N ⟨T,s₀.heap.objs.size,s₀.heap.life,s₀.gens,s₀.drawn,s₀.toks,s₀.os⟩ (topStub p)).map fun s₁=>(s₀,s₁)
theorem akr(P:FQ):(boot_heap P).isNs dH=true:=by kernel_rfl
theorem abZ{p:bh}{N:Nat}(e:opening p=plainProg p.main.scope.names)(hN:Nat.ble 600 N=true)(f:∀s,fenceModules? p s=some s)(w:World):∃os,abX p w N=aaS p w N (ag9 w os):=by
 obtain⟨s,hs,hv⟩:=KC.mp (boot_open e hN f w);obtain⟨h,g,d,k,os⟩:=s;simp only[Y8]at hv;obtain⟨rfl,rfl,rfl,rfl⟩:=hv;refine⟨os,?_⟩;unfold abX;rw[hs];show(match (boot_heap w.params).isNs dH && _ with|true=>aaS p w N (ag9 w os)|false=>none)=_;rw[akr];rfl
noncomputable def Cy(p:bh)(w:World)(n₀:Nat)(ann:Option Value):Nat->SharedT->QV->Option SharedT
 |0,_,_=>none
 |n+1,s,t=>match through t with
  |true=>some s
  |false=>match aaQ n₀ ann t with
   |false=>none
   |true=>match alX (aaR ag8) p w s t with
    |some (s',t')=>Cy p w n₀ ann n s' t'
    |none=>none
theorem KJ{p:bh}{w:World}{n₀:Nat}{ann:Option Value}:∀{n:Nat}{s:SharedT}{t:QV},qU xP p w n₀ ann n s t=Cy p w n₀ ann n s t
 |0,_,_=>rfl
 |n+1,s,t=>by
  have ih:∀s t,qU xP p w n₀ ann n s t=Cy p w n₀ ann n s t:=fun _ _=>KJ;rw[Ov]at ih;unfold qU Cy;rw[Zc,ag7,Zd,Ov];cases through t with
  |true=>rfl
  |false =>
   dsimp only;cases aaQ n₀ ann t with
   |false=>rfl
   |true =>
    dsimp only;cases alX (aaR ag8) p w s t with
    |none=>rfl
    |some x=>exact ih _ _
noncomputable def aha(p:bh)(w:World)(N:Nat)(s₀:Shared):Option (Shared × SharedT):=(RX s₀.heap).bind fun T=>(Cy p w s₀.heap.objs.size (s₀.heap.nsMap dH "__annotations__") N ⟨T,s₀.heap.objs.size,s₀.heap.life,s₀.gens,s₀.drawn,s₀.toks,s₀.os⟩ (topStub p)).map fun s₁=>(s₀,s₁)
theorem ahb{p:bh}{w:World}{N:Nat}{s₀:Shared}:aaS p w N s₀=aha p w N s₀:=by
 unfold aaS aha;exact congrArg _ (funext fun T=>congrArg _ KJ)
def jx(p:bh)(N:Nat){β:Type}(f:Shared × SharedT->β)(b:World->β):Prop:=∀(w:World)(os:OsState),(aha p w N (ag9 w os)).map f=some (b w)
noncomputable abbrev ug(p q:bh)(Xt:Shared->Bool)(x:Shared × SharedT):=abY q [] (JL p.main.body) Xt true x.2.abs
theorem aks{p q:bh}{Xt:Shared->Bool}:Gi p q Xt=ug p q Xt:=by
 funext x
 unfold Gi ug;rw[RZ]
structure Plain(p:bh)(N:Nat):Prop where
 op:opening p=plainProg p.main.scope.names
 n:Nat.ble 600 N=true
 fe:∀s,fenceModules? p s=some s
theorem jx.look{p:bh}{N:Nat}{β:Type}{f:Shared × SharedT->β}{b:World->β}(h:jx p N f b)(P:Plain p N):Look p N f b:=fun w=>by
 obtain⟨os,e⟩:=abZ P.op P.n P.fe w;rw[e,ahb];exact h w os
theorem ahc{p q:bh}{Xt:Shared->Bool}{as:List Addr}{Ya:World->List (Option Obj)}{N:Nat}(P:Plain p N)
  (h0:jx p N (okT p) fun _=>true)
  (h1:jx p N (fun x=>(ug p q Xt x).1) fun _=>af8 q)
  (h2:jx p N (fun x=>(ug p q Xt x).2.1) fun _=>afe)
  (h3:jx p N (fun x=>(ug p q Xt x).2.2.1) fun _=>true)
  (h4:jx p N (fun x=>(ug p q Xt x).2.2.2.1) fun _=>true)
  (h5:jx p N (fun x=>(ug p q Xt x).2.2.2.2.1) fun _=>pinGoodD (agh q))
  (h6:jx p N (fun x=>(ug p q Xt x).2.2.2.2.2.1) fun _=>af9 q (looseW q []))
  (h7:jx p N (fun x=>(ug p q Xt x).2.2.2.2.2.2.1) fun _=>aga q [])
  (h8:jx p N (fun x=>(ug p q Xt x).2.2.2.2.2.2.2.1) fun _=>wideGood q)
  (h9:jx p N (fun x=>(ug p q Xt x).2.2.2.2.2.2.2.2) fun _=>clsGoodW q [])
  (hY:jx p N (fun x=>ag6 x.2 as) fun w=>some (Ya w)):LeftO p q [] Xt (fun s=>as.map s.heap.get?) Ya N:=by
 rw[<-aks]at h1 h2 h3 h4 h5 h6 h7 h8 h9;refine akq (h0.look P) (h1.look P) (h2.look P) (h3.look P) (h4.look P) (h5.look P) (h6.look P) (h7.look P) (h8.look P) (h9.look P) fun w=>?_;obtain⟨x,e,_⟩:=KC.mp (h0.look P w);rw[e];exact congrArg some (aaP ((hY.look P).at e))
end My
namespace My
open PySem L2
def top(i:Nat):Stmt:=amS.main.body.getD i (.Pass ⟨0,0,0,0⟩)
abbrev s'0:Stmt:=top 36
abbrev s'1:Stmt:=top 37
abbrev s'2:Stmt:=top 38
abbrev s'3:Stmt:=inClass (top 33) 3
abbrev s'4:Stmt:=inClass (top 33) 2
abbrev s'5:Stmt:=top 35
abbrev s'6:Stmt:=top 34
abbrev s'7:Stmt:=inClass (top 33) 0
abbrev s'8:Stmt:=inClass (top 33) 1
abbrev s'9:Stmt:=top 43
abbrev s'10:Stmt:=inClass (top 42) 0
abbrev s'11:Stmt:=inClass (top 42) 3
abbrev s'12:Stmt:=inClass (top 42) 1
abbrev s'13:Stmt:=inClass (top 42) 2
abbrev s'14:Stmt:=top 21
abbrev s'15:Stmt:=top 22
abbrev s'16:Stmt:=inClass (top 24) 0
abbrev s'17:Stmt:=top 25
abbrev s'18:Stmt:=inClass (top 24) 2
abbrev s'19:Stmt:=inClass (top 24) 1
abbrev s'20:Stmt:=inClass (top 28) 0
abbrev s'21:Stmt:=top 29
abbrev s'22:Stmt:=top 30
abbrev s'23:Stmt:=inClass (top 28) 2
abbrev s'24:Stmt:=inClass (top 28) 1
abbrev s'25:Stmt:=top 9
abbrev s'26:Stmt:=inClass (top 8) 0
abbrev s'27:Stmt:=inClass (top 8) 1
abbrev s'28:Stmt:=inClass (top 8) 2
abbrev s'29:Stmt:=inClass (top 46) 1
abbrev s'30:Stmt:=inClass (top 46) 2
abbrev s'31:Stmt:=inClass (top 46) 0
abbrev s'32:Stmt:=top 31
abbrev s'33:Stmt:=top 39
abbrev s'34:Stmt:=top 40
abbrev s'35:Stmt:=top 44
abbrev s'36:Stmt:=top 16
abbrev s'37:Stmt:=top 26
abbrev s'38:Stmt:=top 47
abbrev s'39:Stmt:=top 48
abbrev s'40:Stmt:=top 14
abbrev s'41:Stmt:=top 15
abbrev s'42:Stmt:=top 11
abbrev s'43:Stmt:=top 12
abbrev s'44:Stmt:=top 10
abbrev s'45:Stmt:=top 13
abbrev s'46:Stmt:=inClass (top 8) 3
abbrev s'47:Stmt:=inClass (top 46) 10
abbrev s'48:Stmt:=top 68
abbrev s'49:Stmt:=top 70
abbrev s'50:Stmt:=top 69
abbrev s'51:Stmt:=top 55
abbrev s'52:Stmt:=top 71
abbrev s'53:Stmt:=top 75
abbrev s'54:Stmt:=top 76
abbrev s'55:Stmt:=top 80
abbrev s'56:Stmt:=top 57
abbrev s'57:Stmt:=top 56
abbrev s'58:Stmt:=top 58
abbrev s'59:Stmt:=top 62
abbrev s'60:Stmt:=top 63
abbrev s'61:Stmt:=top 61
abbrev s'62:Stmt:=top 64
abbrev s'63:Stmt:=top 77
abbrev s'64:Stmt:=top 78
abbrev s'65:Stmt:=top 79
abbrev s'66:Stmt:=top 81
abbrev s'67:Stmt:=top 82
abbrev s'68:Stmt:=top 83
abbrev s'69:Stmt:=top 74
abbrev s'70:Stmt:=top 86
abbrev s'71:Stmt:=top 85
abbrev s'72:Stmt:=top 87
abbrev s'73:Stmt:=top 88
abbrev s'74:Stmt:=top 89
abbrev s'75:Stmt:=top 90
abbrev s'76:Stmt:=top 91
abbrev s'77:Stmt:=top 92
abbrev s'78:Stmt:=top 93
abbrev s'79:Stmt:=top 59
abbrev s'80:Stmt:=top 60
abbrev s'81:Stmt:=top 94
def LK(K:bB)(n q:Str)(s:Stmt)(f:Addr):Prop:=∃(oc:Value)(od an:Option Addr) (sl:Array (Option Value)) (kV dc pm cd ct:Value),K.lookup f=some ⟨oc,od,.func (oh n q (m7 s) (jU s) (aF s) .none kV dc pm an cd ct),sl⟩/\Ka K cd q=true/\vq K (.ref f)=true
def GK(K:bB)(n:Str)(s:Stmt)(f:Addr):Prop:=jw K dH n=some (some (.ref f))/\LK K n n s f
def MeK(K:bB)(C:Addr)(n q:Str)(s:Stmt)(f:Addr):Prop:=nA K (.ref C) n=some (some (.ref f))/\Kc K (.ref f)=true/\LK K n q s f
def CK(K:bB)(C:Addr):Prop:=FT K C Yg=true/\J9 K C=true/\Q5 K C=true/\nA K (.ref C) "__setattr__" = some (some (.builtin "object.__setattr__"))/\Q6 K C=true/\vq K (.ref C)=true
def NK(K:bB)(C:Addr):List Str->Prop
 |[]=>True
 |f::r=>nA K (.ref C) f=some none/\NK K C r
def ZK(K:bB):List Str->Prop
 |[]=>True
 |n::r=>jw K dH n=some none/\ZK K r
theorem LK.of{K:bB}{n q:Str}{s:Stmt}{f:Addr}{oc:Value}{od an:Option Addr}{sl:Array (Option Value)}{kV dc pm cd ct:Value}(l:K.lookup f=some ⟨oc,od,.func (oh n q (m7 s) (jU s) (aF s) .none kV dc pm an cd ct),sl⟩)(c:Ka K cd q=true)(k:vq K (.ref f)=true):LK K n q s f:=⟨oc,od,an,sl,kV,dc,pm,cd,ct,l,c,k⟩
theorem GK.of{K:bB}{n:Str}{s:Stmt}{f:Addr}(a:jw K dH n=some (some (.ref f)))(l:LK K n n s f):GK K n s f:=⟨a,l⟩
theorem MeK.of{K:bB}{C:Addr}{n q:Str}{s:Stmt}{f:Addr}(a:nA K (.ref C) n=some (some (.ref f)))(i:Kc K (.ref f)=true)(l:LK K n q s f):MeK K C n q s f:=⟨a,i,l⟩
theorem CK.of{K:bB}{C:Addr}(a:FT K C Yg=true)(b:J9 K C=true)(c:Q5 K C=true)(d:nA K (.ref C) "__setattr__" = some (some (.builtin "object.__setattr__")))(e:Q6 K C=true)(f:vq K (.ref C)=true):CK K C:=⟨a,b,c,d,e,f⟩
theorem NK.nil{K:bB}{C:Addr}:NK K C []:=trivial
theorem NK.cons{K:bB}{C:Addr}{f:Str}{r:List Str}(a:nA K (.ref C) f=some none)(b:NK K C r):NK K C (f::r):=⟨a,b⟩
theorem ZK.nil{K:bB}:ZK K []:=trivial
theorem ZK.cons{K:bB}{f:Str}{r:List Str}(a:jw K dH f=some none)(b:ZK K r):ZK K (f::r):=⟨a,b⟩
abbrev fY:PySem.W.OpenRow:=Hl.row
def view:PySem.Program:={ fY.prog with main:={ fY.prog.main with body:=[top 0,top 2,top 3,top 4,top 5,top 6,top 8,top 9,top 10,top 11,top 12,top 13,top 14,top 15,top 16,top 18,top 19,top 20,top 21,top 22,top 24,top 25,top 26,top 28,top 29,top 30,top 31,top 33,top 34,top 35,top 36,top 37,top 38,top 39,top 40,top 42,top 43,top 44,top 46,top 47,top 48,top 50,top 51,top 52,top 53,top 54,top 55,top 56,top 57,top 58,top 59,top 60,top 61,top 62,top 63,top 64,top 66,top 67,top 68,top 69,top 70,top 71,top 73,top 74,top 75,top 76,top 77,top 78,top 79,top 80,top 81,top 82,top 83,top 85,top 86,top 87,top 88,top 89,top 90,top 91,top 92,top 93,top 94] } }
abbrev Ae:Shared->Bool:=fun s=>PySem.W.xlAt view [] s && PySem.W.recOk fY.records s
theorem seeP:Plain fY.prog 20000:=⟨by kernel_rfl,by kernel_rfl,by intro s;kernel_rfl⟩
theorem seeW:Hl.wellSaid=true:=by
 rw[anz]
 kernel_rfl
theorem see0:jx fY.prog 20000 (okT fY.prog) (fun _=>true):=by intro w os;kernel_rfl
theorem see1:jx fY.prog 20000 (fun x=>(ug fY.prog view Ae x).1) (fun _=>af8 view):=by intro w os;kernel_rfl
theorem see2:jx fY.prog 20000 (fun x=>(ug fY.prog view Ae x).2.1) (fun _=>afe):=by intro w os;kernel_rfl
theorem see3:jx fY.prog 20000 (fun x=>(ug fY.prog view Ae x).2.2.1) (fun _=>true):=by intro w os;kernel_rfl
theorem see4:jx fY.prog 20000 (fun x=>(ug fY.prog view Ae x).2.2.2.1) (fun _=>true):=by intro w os;kernel_rfl
theorem see5:jx fY.prog 20000 (fun x=>(ug fY.prog view Ae x).2.2.2.2.1) (fun _=>pinGoodD (agh view)):=by intro w os;kernel_rfl
theorem see6:jx fY.prog 20000 (fun x=>(ug fY.prog view Ae x).2.2.2.2.2.1) (fun _=>af9 view (PySem.W.looseW view [])):=by intro w os;kernel_rfl
theorem see7:jx fY.prog 20000 (fun x=>(ug fY.prog view Ae x).2.2.2.2.2.2.1) (fun _=>aga view []):=by intro w os;kernel_rfl
theorem see8:jx fY.prog 20000 (fun x=>(ug fY.prog view Ae x).2.2.2.2.2.2.2.1) (fun _=>PySem.W.wideGood view):=by intro w os;kernel_rfl
theorem see9:jx fY.prog 20000 (fun x=>(ug fY.prog view Ae x).2.2.2.2.2.2.2.2) (fun _=>PySem.W.clsGoodW view []):=by intro w os;kernel_rfl
def ahd(R:World->bB->(Str->Option Value)->Addr->Prop):Prop:=∀{w:World}{K:bB}{h:Heap}{mg:Str->Option Value}{fa cV gY gR gB sY iH Gj zX f'0 f'1 f'2 f'3 f'4 f'5 f'6 f'7 f'8 f'9 Ul Ze Zf Zg ab0 ab1 Um ab2 Zh Zi Uo ab3 ab4 Zj Zk ab5 Uq Zm Zn Zo Zq Ur ab6 ab7 ab8 ab9 acd ace acf acg ach aci acj acn aco acp Zr Zt acq acr acs acu acv acw acy acz acA acB acC acD acE acF acG acH acI acJ acK acL acM acN acO acP acQ acR acS acT acU acV acW acX acY ahe:Addr}(X:K.In h)(G:h.Ns dH mg) (hfa:mg "law" = some (.ref fa))
(aaT:jw K dH "Rungs" = some (some (.ref cV))) (yu:CK K cV) (Cz:NK K cV ["room","total","over","under","turns","least","most","rungs"]) (aaU:jw K dH "Window" = some (some (.ref gY))) (uh:CK K gY) (zL:NK K gY ["room","reach","clock","boxes"]) (aaV:jw K dH "Distinct" = some (some (.ref gR))) (nF:CK K gR) (qW:NK K gR ["room","arrivals","level","kept"]) (aaW:jw K dH "Frequent" = some (some (.ref gB))) (nH:CK K gB) (qX:NK K gB ["room","total","lost","counts"]) (aaX:jw K dH "Balance" = some (some (.ref sY))) (pQ:CK K sY) (vD:NK K sY ["span","sums"]) (aaY:jw K dH "Keepsake" = some (some (.ref iH))) (nJ:CK K iH) (qY:NK K iH ["room","reach","span","came","went","up","down","window","seen","balance"]) (aaZ:jw K dH "Unlike" = some (some (.ref Gj))) (aa0:jw K dH "TooManyOff" = some (some (.ref zX))) (jy:Bq K Gj [.type "ValueError",.type "Exception",.type "BaseException",.type "object"] "ValueError.__new__" = true) (jF:Bq K zX [.type "ValueError",.type "Exception",.type "BaseException",.type "object"] "ValueError.__new__" = true) (fB:xX K zX (.ref zX)=some true) (fC:xX K zX (.type "BaseException")=some true) (fH:Q7 K (.ref zX)=some (.type "type")) (a'0:GK K "with_thing" s'0 f'0) (a'1:GK K "left_behind" s'1 f'1) (a'2:GK K "risen" s'2 f'2) (a'3:MeK K cV "turn" "Rungs.turn" s'3 f'3) (a'4:MeK K cV "settle" "Rungs.settle" s'4 f'4) (a'5:GK K "greater" s'5 f'5) (a'6:GK K "lesser" s'6 f'6) (a'7:MeK K cV "__init__" "Rungs.__init__" s'7 f'7) (a'8:MeK K cV "add" "Rungs.add" s'8 f'8) (a'9:GK K "joined" s'9 f'9) (R4:MeK K gY "__init__" "Window.__init__" s'10 Ul) (Us:MeK K gY "settle" "Window.settle" s'11 Ze) (Ut:MeK K gY "add" "Window.add" s'12 Zf) (Uu:MeK K gY "idle" "Window.idle" s'13 Zg) (ahf:GK K "spread" s'14 ab0) (ahg:GK K "mark" s'15 ab1) (R5:MeK K gR "__init__" "Distinct.__init__" s'16 Um) (ahh:GK K "of_marks" s'17 ab2) (Uv:MeK K gR "settle" "Distinct.settle" s'18 Zh) (Uw:MeK K gR "add" "Distinct.add" s'19 Zi) (R6:MeK K gB "__init__" "Frequent.__init__" s'20 Uo) (ahi:GK K "cut_of" s'21 ab3) (ahj:GK K "lowered" s'22 ab4) (Ux:MeK K gB "fit" "Frequent.fit" s'23 Zj) (Uy:MeK K gB "add" "Frequent.add" s'24 Zk) (ahk:GK K "with_row" s'25 ab5) (R7:MeK K sY "__init__" "Balance.__init__" s'26 Uq) (Uz:MeK K sY "put" "Balance.put" s'27 Zm) (UG:MeK K sY "take" "Balance.take" s'28 Zn) (UJ:MeK K iH "put" "Keepsake.put" s'29 Zo) (UL:MeK K iH "take" "Keepsake.take" s'30 Zq) (R9:MeK K iH "__init__" "Keepsake.__init__" s'31 Ur) (ahl:GK K "poured_frequent" s'32 ab6) (ahm:GK K "list_at" s'33 ab7) (ahn:GK K "poured_rungs" s'34 ab8) (aho:GK K "followed" s'35 ab9) (ahp:GK K "poured_balance" s'36 acd) (ahq:GK K "poured_distinct" s'37 ace) (ahr:GK K "empty_like" s'38 acf) (ahs:GK K "poured" s'39 acg) (aht:GK K "due_sums" s'40 ach) (ahu:GK K "root" s'41 aci) (ahv:GK K "one_pair" s'42 acj) (ahw:GK K "two_pairs" s'43 acn) (ahx:GK K "pairs_for" s'44 aco) (ahy:GK K "fits" s'45 acp) (UW:MeK K sY "off" "Balance.off" s'46 Zr) (U0:MeK K iH "off" "Keepsake.off" s'47 Zt) (ahz:GK K "need" s'48 acq) (ahA:GK K "number_of" s'49 acr) (ahB:GK K "numbers_of" s'50 acs) (ahC:GK K "sound_bounds" s'51 acu) (ahD:GK K "bounds_of" s'52 acv) (ahE:GK K "words_of" s'53 acw) (ahF:GK K "signed_of" s'54 acy) (ahG:GK K "parted" s'55 acz) (ahH:GK K "rising_things" s'56 acA) (ahI:GK K "sound_frequent" s'57 acB) (ahJ:GK K "sound_rungs" s'58 acC) (ahK:GK K "sound_places" s'59 acD) (ahL:GK K "sound_sums" s'60 acE) (ahM:GK K "sound_window" s'61 acF) (ahN:GK K "sound_distinct" s'62 acG) (ahO:GK K "read_keep" s'63 acH) (ahP:GK K "read_frequent" s'64 acI) (ahQ:GK K "read_rungs" s'65 acJ) (ahR:GK K "read_window" s'66 acK) (ahS:GK K "read_distinct" s'67 acL) (ahT:GK K "read_sums" s'68 acM) (ahU:GK K "read_keepsake" s'69 acN) (ahV:GK K "_law_mix" s'70 acO) (ahW:GK K "_law_whole" s'71 acP) (ahX:GK K "_law_spoils_by" s'72 acQ) (ahY:GK K "_law_rows_by" s'73 acR) (ahZ:GK K "_law_poured" s'74 acS) (ah0:GK K "_law_told" s'75 acT) (ah1:GK K "_law_pairs" s'76 acU) (ah2:GK K "_law_with_sums" s'77 acV) (ah3:GK K "_law_far" s'78 acW) (ah4:GK K "stand_for_total" s'79 acX) (ah5:GK K "sound_list" s'80 acY) (U3:GK K "law" s'81 ahe) (zk:ZK K ["all","bool","dict","int","isinstance","len","list","max","min","range","reversed","set","sorted","str","sum","tuple","zip"]) {KN:Tok} (zM:jw K dH "FIGURES" = some (some (.str "0123456789" KN))) {Af:Tok} (oR:jw K dH "LEAST_ROOM" = some (some (.int 2 Af))) {U4:Tok} (Jb:jw K dH "LINES" = some (some (.int 8 U4))) {aa1:Tok} (Sg:jw K dH "MOST" = some (some (.int 1152921504606846976 aa1))) {wC:Tok} (lC:jw K dH "MOST_FIGURES" = some (some (.int 60 wC))) {um:Tok} (jV:jw K dH "MOST_HALVINGS" = some (some (.int 60 um))) {Ag:Tok} (oU:jw K dH "MOST_LEVEL" = some (some (.int 60 Ag))) {Ah:Tok} (oW:jw K dH "MOST_REACH" = some (some (.int 1000000000 Ah))) {CG:Tok} (qZ:jw K dH "MOST_ROOM" = some (some (.int 64 CG))) {CJ:Tok} (rm:jw K dH "MOST_SPAN" = some (some (.int 1000000000 CJ))) {Ow:Tok} (CN:jw K dH "SPREAD" = some (some (.int 770093176312745717 Ow))),
  R w K mg fa
end My
section
open PySem PySem.W PyProof.Rows L2
local macro_rules
  | `(tactic| o_head $H) => `(tactic|
    (refine holds_open (r := My.fY) (q := My.view) (loose := []) (N := 20000)
        (Xt := My.Ae) (XP := XL My.view [])
        (Yf := Hook.obs $H) (Ya := Hook.val $H) (YP := Hook.says $H) ?hl (Hook.of $H) (Hook.keeps $H)
        (fun s e => xl_of s (afN.mp e).1) XL.keeps
        (by rfl) (by rfl) (by rfl)
        (fun s e => recFacts_of (afN.mp e).2) (by rfl)
        (by first | assumption | decide +kernel) tb_g%
        ⟨rfl, rfl, rfl, rfl, rfl, by decide +kernel⟩ ?hw ?hc;
     (case hl => exact My.ahc My.seeP My.see0 My.see1 My.see2 My.see3 My.see4 My.see5 My.see6 My.see7 My.see8 My.see9 (by intro w os; kernel_rfl))))
local macro_rules
  | `(tactic| k_is) => `(tactic| first
    | (refine' My.LK.of ?lkl ?lkc ?lkk; (case lkl => k_is); (case lkc => k_is); (case lkk => k_is))
    | (refine' My.GK.of ?gka ?gkl; (case gka => k_is); (case gkl => k_is))
    | (refine' My.MeK.of ?mka ?mki ?mkl; (case mka => k_is); (case mki => k_is); (case mkl => k_is))
    | exact My.NK.nil
    | exact My.ZK.nil
    | (refine' My.NK.cons ?nka ?nkb; (case nka => k_is); (case nkb => k_is))
    | (refine' My.ZK.cons ?zka ?zkb; (case zka => k_is); (case zkb => k_is))
    | (refine' My.CK.of ?ck1 ?ck2 ?ck3 ?ck4 ?ck5 ?ck6; (case ck1 => k_is); (case ck2 => k_is); (case ck3 => k_is); (case ck4 => k_is); (case ck5 => k_is); (case ck6 => k_is))
    | fail)
open My in
set_option maxRecDepth 100000 in
set_option maxHeartbeats 0 in
theorem My.head(R:World->bB->(Str->Option Value)->Addr->Prop)(mk:My.ahd R)
  (wk:∀{q:bh}{loose:List Str} {XP:(Str->Option Value)->Heap->Prop} {YP:World->Heap->Prop} {d:QW} {K:FQ->bB},Hl.most=some 63->d.params.defaults=[]->(∀(w:World)(h:Heap),YP w h->(K w.params).In h)->(∀(w:World)(mg:Str->Option Value)(fa:Addr)(h:Heap),(K w.params).In h->h.Ns dH mg->mg d.name=some (.ref fa)->R w (K w.params) mg fa)->Yc q loose XP YP Hl.row.toRowW d [] (fun f vs=>QG f vs)):Hl.Holds:=by
 w_on;refine PySem.W.holds_law My.seeW fun said=>?_;k_head;(case hw=>w_witness2)
 k_fill
 refine wk rfl rfl (fun w h Y=>amR Y) ?F
 case F =>
  intro w mg fa h KX G hmg;refine' mk KX G hmg ?aaT ?yu ?Cz ?aaU ?uh ?zL ?aaV ?nF ?qW ?aaW ?nH ?qX ?aaX ?pQ ?vD ?aaY ?nJ ?qY ?aaZ ?aa0 ?jy ?jF ?fB ?fC ?fH ?a'0 ?a'1 ?a'2 ?a'3 ?a'4 ?a'5 ?a'6 ?a'7 ?a'8 ?a'9 ?R4 ?Us ?Ut ?Uu ?ahf ?ahg ?R5 ?ahh ?Uv ?Uw ?R6 ?ahi ?ahj ?Ux ?Uy ?ahk ?R7 ?Uz ?UG ?UJ ?UL ?R9 ?ahl ?ahm ?ahn ?aho ?ahp ?ahq ?ahr ?ahs ?aht ?ahu ?ahv ?ahw ?ahx ?ahy ?UW ?U0 ?ahz ?ahA ?ahB ?ahC ?ahD ?ahE ?ahF ?ahG ?ahH ?ahI ?ahJ ?ahK ?ahL ?ahM ?ahN ?ahO ?ahP ?ahQ ?ahR ?ahS ?ahT ?ahU ?ahV ?ahW ?ahX ?ahY ?ahZ ?ah0 ?ah1 ?ah2 ?ah3 ?ah4 ?ah5 ?U3 ?zk ?zM ?oR ?Jb ?Sg ?lC ?jV ?oU ?oW ?qZ ?rm ?CN
  (case aaT=>k_is)
  (case yu=>k_is)
  (case Cz=>k_is)
  (case aaU=>k_is)
  (case uh=>k_is)
  (case zL=>k_is)
  (case aaV=>k_is)
  (case nF=>k_is)
  (case qW=>k_is)
  (case aaW=>k_is)
  (case nH=>k_is)
  (case qX=>k_is)
  (case aaX=>k_is)
  (case pQ=>k_is)
  (case vD=>k_is)
  (case aaY=>k_is)
  (case nJ=>k_is)
  (case qY=>k_is)
  (case aaZ=>k_is)
  (case aa0=>k_is)
  (case jy=>k_exc)
  (case jF=>k_exc)
  (case fB=>k_is)
  (case fC=>k_is)
  (case fH=>k_is)
  (case a'0=>k_is)
  (case a'1=>k_is)
  (case a'2=>k_is)
  (case a'3=>k_is)
  (case a'4=>k_is)
  (case a'5=>k_is)
  (case a'6=>k_is)
  (case a'7=>k_is)
  (case a'8=>k_is)
  (case a'9=>k_is)
  (case R4=>k_is)
  (case Us=>k_is)
  (case Ut=>k_is)
  (case Uu=>k_is)
  (case ahf=>k_is)
  (case ahg=>k_is)
  (case R5=>k_is)
  (case ahh=>k_is)
  (case Uv=>k_is)
  (case Uw=>k_is)
  (case R6=>k_is)
  (case ahi=>k_is)
  (case ahj=>k_is)
  (case Ux=>k_is)
  (case Uy=>k_is)
  (case ahk=>k_is)
  (case R7=>k_is)
  (case Uz=>k_is)
  (case UG=>k_is)
  (case UJ=>k_is)
  (case UL=>k_is)
  (case R9=>k_is)
  (case ahl=>k_is)
  (case ahm=>k_is)
  (case ahn=>k_is)
  (case aho=>k_is)
  (case ahp=>k_is)
  (case ahq=>k_is)
  (case ahr=>k_is)
  (case ahs=>k_is)
  (case aht=>k_is)
  (case ahu=>k_is)
  (case ahv=>k_is)
  (case ahw=>k_is)
  (case ahx=>k_is)
  (case ahy=>k_is)
  (case UW=>k_is)
  (case U0=>k_is)
  (case ahz=>k_is)
  (case ahA=>k_is)
  (case ahB=>k_is)
  (case ahC=>k_is)
  (case ahD=>k_is)
  (case ahE=>k_is)
  (case ahF=>k_is)
  (case ahG=>k_is)
  (case ahH=>k_is)
  (case ahI=>k_is)
  (case ahJ=>k_is)
  (case ahK=>k_is)
  (case ahL=>k_is)
  (case ahM=>k_is)
  (case ahN=>k_is)
  (case ahO=>k_is)
  (case ahP=>k_is)
  (case ahQ=>k_is)
  (case ahR=>k_is)
  (case ahS=>k_is)
  (case ahT=>k_is)
  (case ahU=>k_is)
  (case ahV=>k_is)
  (case ahW=>k_is)
  (case ahX=>k_is)
  (case ahY=>k_is)
  (case ahZ=>k_is)
  (case ah0=>k_is)
  (case ah1=>k_is)
  (case ah2=>k_is)
  (case ah3=>k_is)
  (case ah4=>k_is)
  (case ah5=>k_is)
  (case U3=>k_is)
  (case zk=>k_is)
  (case zM=>k_is)
  (case oR=>k_is)
  (case Jb=>k_is)
  (case Sg=>k_is)
  (case lC=>k_is)
  (case jV=>k_is)
  (case oU=>k_is)
  (case oW=>k_is)
  (case qZ=>k_is)
  (case rm=>k_is)
  (case CN=>k_is)
end
set_option Elab.async false
set_option linter.all false
set_option maxRecDepth 100000
namespace L2
open PySem PySem.Spec PyProof.Rows
variable{pins:List (Addr × Obj)}{E Q:Value->Shared->Prop}{w:World}{x name qual m:Str}{u:Value}{A:bY}{us:List Value}{e tg c l:Expr}{mg mA:Str->Option Value}{a b C dx it:Addr}{K:bB}{kindOf:Str->Option Bh}{P prog:bh}{es:List Expr}{h base h':Heap}{f:Value->Value->Sem Value}{kw:List (Str × Value)}{t' i n:Nat}{ps N:List Str}{pl:Sem Bool}{fd:FuncData}{body:List Stmt}{outer:List Env}{ch fp:List Addr}{op:CmpOp}{g':Array GenState}{g:Int->Int->Int}{s':Shared}{scope:Scope}{d':Drawn}{pos' p:Pos}{α:Type}
noncomputable abbrev Key:=Sum Int Str
noncomputable def KQ:Key->Value->Bool
 | .inl k,v=>Gg k v
 | .inr x,v=>agK x v
noncomputable def keyH(w:World):Key->Int
 | .inl k=>hashInt k
 | .inr x=>hashStr w x
theorem gq:∀{k:Key}{v:Value},KQ k v=true->(∃i t,k=Sum.inl i/\v=Value.int i t)\/(∃x t,k=Sum.inr x/\v=Value.str x t)
 | .inl i,v,h=>by
  obtain⟨t,e⟩:=Value.isInt_shape (k:=i) (v:=v) h;exact .inl ⟨i,t,rfl,e⟩
 | .inr x,v,h=>by
  obtain⟨t,e⟩:=Value.isStrOf_shape (x:=x) (v:=v) h;exact .inr ⟨x,t,rfl,e⟩
theorem acZ(i:Int)(t:Tok):KQ (.inl i) (.int i t)=true:=by simp[KQ,Gg]
theorem ac0(x:Str)(t:Tok):KQ (.inr x) (.str x t)=true:=by simp[KQ,agK]
theorem aoh(a b:Int):decide ((Sum.inl a:Key)=Sum.inl b)=(a == b):=by
 by_cases e:a=b
 ·subst e;simp
 ·have h:¬ (Sum.inl a:Key)=Sum.inl b:=fun q=>e (ag4 q);rw[decide_eq_false h];exact(beq_eq_false_iff_ne.mpr e).symm
theorem aoi(a b:Str):decide ((Sum.inr a:Key)=Sum.inr b)=decide (a=b):=by
 by_cases e:a=b
 ·subst e;simp
 ·have h:¬ (Sum.inr a:Key)=Sum.inr b:=fun q=>e (Sum.inr.inj q);rw[decide_eq_false h,decide_eq_false e]
theorem aoj(a:Int)(b:Str):decide ((Sum.inl a:Key)=Sum.inr b)=false:=decide_eq_false (fun q=>nomatch q)
theorem aok(a:Str)(b:Int):decide ((Sum.inr a:Key)=Sum.inl b)=false:=decide_eq_false (fun q=>nomatch q)
noncomputable def cP(prog:bh)(w:World):PySem.KeyKind prog w Key where
 is:=KQ
 hash:=keyH w
 inj:=fun v a b ha hb=>by
  rcases gq ha with⟨i,t,rfl,rfl⟩|⟨x,t,rfl,rfl⟩
  ·rcases gq hb with⟨j,u,rfl,e⟩|⟨y,u,rfl,e⟩
   ·injection e with e1 _;rw[e1]
   ·exact nomatch e
  ·rcases gq hb with⟨j,u,rfl,e⟩|⟨y,u,rfl,e⟩
   ·exact nomatch e
   ·injection e with e1 _;rw[e1]
 byValue:=fun k v h=>by
  rcases gq h with⟨i,t,rfl,rfl⟩|⟨x,t,rfl,rfl⟩ <;> rfl
 pyHash:=fun hv h=>by
  rcases gq hv with⟨i,t,rfl,rfl⟩|⟨x,t,rfl,rfl⟩
  ·exact wpAny_pyHash_int h
  ·exact wpAny_pyHash_str h
 eqBool:=fun hu hv h=>by
  rcases gq hu with⟨i,t,rfl,rfl⟩|⟨x,t,rfl,rfl⟩
  ·rcases gq hv with⟨j,u,rfl,rfl⟩|⟨y,u,rfl,rfl⟩
   ·rw[aoh]at h;exact wpAny_eqBool_int h
   ·rw[aoj]at h;exact agL i t y u _ _ _ _ h
  ·rcases gq hv with⟨j,u,rfl,rfl⟩|⟨y,u,rfl,rfl⟩
   ·rw[aok]at h;exact agM x t j u _ _ _ _ h
   ·rw[aoi]at h;exact wpAny_eqBool_str h
 «strs» := fun k x t v h=>by
  rcases gq h with⟨i,u,rfl,e⟩|⟨y,u,rfl,e⟩
  ·exact nomatch e
  ·injection e with e1 _;subst e1;cases v <;> rfl
theorem U5(prog:bh)(w:World)(i:Int)(t:Tok):(cP prog w).is (.inl i) (.int i t)=true:=acZ i t
theorem U6(prog:bh)(w:World)(x:Str)(t:Tok):(cP prog w).is (.inr x) (.str x t)=true:=ac0 x t
inductive V where
 |non|bl (b:Bool)|int (i:Int)|str (x:Str)|byt (b:Array UInt8)|flt (b:UInt64)|ref (a:Addr)|ty (n:String)
 deriving DecidableEq
variable{v y:V}{vs xs:List V}
noncomputable def RelV:V->Value->Prop
 | .non,u=>u=Value.none
 | .bl b,u=>u=Value.bool b
 | .int i,u=>∃t,u=Value.int i t
 | .str x,u=>∃t,u=Value.str x t
 | .byt b,u=>∃t,u=Value.bytes b t
 | .flt b,u=>∃t,u=Value.float b t
 | .ref a,u=>u=Value.ref a
 | .ty n,u=>u=Value.type n
noncomputable abbrev Vals:List V->List Value->Prop:=Paired RelV
theorem Vals.length(r:Vals xs us):xs.length=us.length:=Y9 r
theorem Vals.get:∀{xs:List V}{us:List Value}{i:Nat}{x:V},Vals xs us->xs[i]? = some x->∃u,us[i]? = some u/\RelV x u
 |_,_,_,_,.nil,e=>by simp at e
 |_,_,0,_,.cons r _,e=>by simp at e;subst e;exact⟨_,rfl,r⟩
 |_,_,i+1,x,.cons _ t,e=>by
  obtain⟨u,h1,h2⟩:=Vals.get (i:=i) (x:=x) t (by simpa using e);exact⟨u,by simpa using h1,h2⟩
theorem Vals.set{x:V}(r:RelV x u):∀{xs:List V}{us:List Value}(i:Nat),Vals xs us->Vals (xs.set i x) (us.set i u)
 |_,_,_,.nil=>.nil
 |_,_,0,.cons _ t=>.cons r t
 |_,_,i+1,.cons q t=>.cons q (Vals.set r i t)
theorem Vals.append:∀{xs ys:List V}{us ws:List Value},Vals xs us->Vals ys ws->Vals (xs++ys) (us++ws)
 |_,_,_,_,.nil,s=>s
 |_,_,_,_,.cons r t,s=>.cons r (Vals.append t s)
theorem Vals.take:∀{xs:List V}{us:List Value}(n:Nat),Vals xs us->Vals (xs.take n) (us.take n)
 |_,_,0,_=>.nil
 |_,_,_+1,.nil=>.nil
 |_,_,n+1,.cons r t=>.cons r (Vals.take n t)
theorem Vals.drop:∀{xs:List V}{us:List Value}(n:Nat),Vals xs us->Vals (xs.drop n) (us.drop n)
 |_,_,0,r=>r
 |_,_,_+1,.nil=>.nil
 |_,_,n+1,.cons _ t=>Vals.drop n t
theorem Vals.none_of:∀{xs:List V}{us:List Value}{i:Nat},Vals xs us->xs[i]? = none->us[i]? = none:=fun {xs us i} r e=>by
 have h1:=r.length;have h2:xs.length<=i:=WQ.mp e;exact WQ.mpr tb_g%
noncomputable def wU:Option V->Option Value->Prop
 |some v,some u=>RelV v u
 |none,none=>True
 |_,_=>False
noncomputable def KV{κ:Type}:List (κ × V)->List (κ × Value)->Prop:=Paired fun(p:κ × V) (q:κ × Value)=>p.1=q.1/\RelV p.2 q.2
noncomputable def kV:Key->V
 | .inl i=>.int i
 | .inr x=>.str x
inductive HO where
 |lst (xs:List V)
 |tup (xs:List V)
 |dK (kvs:List (Key × V))|dT (kvs:List (List Key × V))
 |set (S:Int->Bool) (n:Nat)
 |ins (C dx:Addr) (fs:List (Str × V))
 |own (x:Addr)
 |xd (fs:List (Str × V))
 |met (f x:Addr)
 |rng (lo hi:Int)
 |frz (o:Obj) (u:HO)
 |tbl (ps:Array Value)
 |ext (φ:Heap->Prop)
variable{o:HO}
noncomputable abbrev Hp:=Addr->Option HO
variable{H H':Hp}
noncomputable def upd(H:Hp)(a:Addr)(o:HO):Hp:=fun b=>if b=a then some o else H b
theorem ak:upd H a o a=some o:=by unfold upd;rw[if_pos rfl]
theorem aB(h:b≠a):upd H a o b=H b:=by unfold upd;rw[if_neg h]
theorem cQ{u:HO}:upd (upd H a o) a u=upd H a u:=by
 funext b;unfold upd;split <;> rfl
theorem iY{u:HO}(h:H a=some o)(h':H b=some u)(d:o≠u):a≠b:=by
 intro e;subst e;rw[h]at h';exact d (cN h')
theorem au(h:H a=some o)(h':H b=none):a≠b:=by
 intro e;subst e;rw[h]at h';cases h'
section
variable(P:bh)(w:World)
noncomputable def dR(H:Hp)(h:Heap)(a:Addr):HO->Prop
 | .lst xs=>xs.length<=sizeLine/\∃(its:List Value)(n:Nat),Vals xs its/\h.get? a=some { cls:=.type "list",data:=.seq its.toArray n }
 | .tup xs=>xs.length<=sizeLine/\∃its:List Value,Vals xs its/\IsTup h a its.toArray
 | .dK kvs=>kvs.length<=sizeLine/\(a == sy)=false/\∃vs,KV kvs vs/\h.DictOf (cP P w) a vs
 | .dT kvs=>kvs.length<=sizeLine/\(a == sy)=false/\∃xs:List (List Key × Addr × Value),
   Paired (fun(p:List Key × V) (q:List Key × Addr × Value)=>p.1=q.1/\H q.2.1=some (.tup (p.1.map kV))/\RelV p.2 q.2.2) kvs xs /\
   ∃o es ep,h.get? a=some o/\o.ExactDict/\o.data=.dict es ep/\es.toList=xs.map (entryOfKey (Fx (cP P w)))/\(xs.map (·.1)).Nodup
 | .set S n=>h.SetOf (jj P w) a S n
 | .ins C dx fs=>H dx=some (.own a)/\fs.length<=1000/\dx≠a/\h.get? a=some (xW C dx) /\
   ∃mA,h.Ns1 dx mA/\(∀f,wU (fs.lookup f) (mA f))/\Xr mA (fs.map (·.1))
 | .own _=>∃o,h.get? a=some o
 | .xd fs=>∃mA,h.Ns1 a mA/\∀f,wU (fs.lookup f) (mA f)
 | .rng lo hi=>∃t u v,h.get? a=some { cls:=.type "range",data:=.fields #[.int lo t,.int hi u,.int 1 v] }
 | .frz o u=>h.get? a=some o/\dR H h a u
 | .tbl ps=>h.get? a=some { cls:=.none,data:=.fields ps }
 | .met f x=>h.get? a=some (X8 (.ref f) (.ref x))
 | .ext φ=>φ h/\(∃o,h.get? a=some o)/\∀h1 h2:Heap,φ h1->(∀o,h1.get? a=some o->h2.get? a=some o)->φ h2
noncomputable def HOk(H:Hp)(h:Heap):Prop:=∀a o,H a=some o->dR P w H h a o
end
theorem dR.lt(x:dR P w H h a o):a<h.objs.size:=by
 cases o with
 |lst xs=>obtain⟨_,_,_,_,e⟩:=x;exact bU e
 |tup xs=>obtain⟨_,_,_,p⟩:=x;exact p.lt
 |dK kvs=>obtain⟨_,_,_,_,o,_,_,e,_⟩:=x;exact bU e
 |dT kvs=>obtain⟨_,_,_,_,o,_,_,e,_⟩:=x;exact bU e
 |set S n=>obtain⟨o,_,_,_,e,_⟩:=x;exact bU e
 |ins C dx fs=>obtain⟨_,_,_,e,_⟩:=x;exact bU e
 |own y=>obtain⟨_,e⟩:=x;exact bU e
 |xd fs=>obtain⟨_,⟨_,_,_,e,_⟩,_⟩:=x;exact bU e
 |rng lo hi=>obtain⟨_,_,_,e⟩:=x;exact bU e
 |frz ob u=>obtain⟨e,_⟩:=x;exact bU e
 |tbl ps=>exact bU (show h.get? a=some _ from x)
 |met f y=>exact bU (show h.get? a=some _ from x)
 |ext φ=>obtain⟨_,⟨_,e⟩,_⟩:=x;exact bU e
theorem Paired.mapP{β:Type}{F G:α->β->Prop}:∀{l₁:List α}{l₂:List β},Paired F l₁ l₂->(∀a b,F a b->G a b)->Paired G l₁ l₂
 |_,_,.nil,_=>.nil
 |_,_,.cons r t,f=>.cons (f _ _ r) (Paired.mapP t f)
theorem dR.stay(x:dR P w H h a o)(k:∀b u,(b=a\/H b=some (.own a))->h.get? b=some u->h'.get? b=some u)
  (ho:∀b,H b=some (.own a)->H' b=some (.own a)) (ht:∀b xs,H b=some (.tup xs)->H' b=some (.tup xs)):dR P w H' h' a o:=by
 induction o with
 |lst xs=>obtain⟨z,its,n,r,e⟩:=x;exact⟨z,its,n,r,k _ _ (.inl rfl) e⟩
 |tup xs=>obtain⟨z,its,r,ob,e,c⟩:=x;exact⟨z,its,r,ob,k _ _ (.inl rfl) e,c⟩
 |dK kvs=>obtain⟨z,y,vs,r,ob,es,ep,e,c⟩:=x;exact⟨z,y,vs,r,ob,es,ep,k _ _ (.inl rfl) e,c⟩
 |dT kvs =>
  obtain⟨z,y,xs,r,ob,es,ep,e,c⟩:=x;exact⟨z,y,xs,Paired.mapP r fun p q z=>⟨z.1,ht _ _ z.2.1,z.2.2⟩,ob,es,ep,k _ _ (.inl rfl) e,c⟩
 |set S n=>obtain⟨ob,es,ep,t,e,c⟩:=x;exact⟨ob,es,ep,t,k _ _ (.inl rfl) e,c⟩
 |ins C dx fs =>
  obtain⟨d,z,ne,e,mA,⟨od,es,ep,e2,c⟩,r⟩:=x;exact⟨ho _ d,z,ne,k _ _ (.inl rfl) e,mA,⟨od,es,ep,k _ _ (.inr d) e2,c⟩,r⟩
 |own y=>obtain⟨ob,e⟩:=x;exact⟨ob,k _ _ (.inl rfl) e⟩
 |xd fs=>obtain⟨mA,⟨od,es,ep,e,c⟩,r⟩:=x;exact⟨mA,⟨od,es,ep,k _ _ (.inl rfl) e,c⟩,r⟩
 |rng lo hi=>obtain⟨t,u,v,e⟩:=x;exact⟨t,u,v,k _ _ (.inl rfl) e⟩
 |frz ob u ih=>obtain⟨e,q⟩:=x;exact⟨k _ _ (.inl rfl) e,ih q⟩
 |tbl ps =>
  have e:h.get? a=some { cls:=.none,data:=.fields ps }:=x;show h'.get? a=some { cls:=.none,data:=.fields ps };exact k a _ (.inl rfl) e
 |met f y =>
  have e:h.get? a=some (X8 (.ref f) (.ref y)):=x;show h'.get? a=some (X8 (.ref f) (.ref y));exact k a _ (.inl rfl) e
 |ext φ=>obtain⟨p,⟨o,e⟩,st⟩:=x;exact⟨st _ _ p fun o q=>k _ _ (.inl rfl) q,⟨o,k _ _ (.inl rfl) e⟩,st⟩
theorem HOk.lt(x:HOk P w H h)(e:H a=some o):a<h.objs.size:=(x a o e).lt
theorem HOk.fresh(x:HOk P w H h)(e:h.objs.size<=a):H a=none:=by
 cases q:H a with
 |none=>rfl
 |some u=>exact absurd (fJ (x.lt q) e) (ud _)
theorem HOk.kept(x:HOk P w H h)(k:∀b u,h.get? b=some u->h'.get? b=some u):HOk P w H h':=fun a o e =>
 (x a o e).stay (fun b u _ q=>k b u q) (fun _ q=>q) fun _ _ q=>q
theorem HOk.laid(x:HOk P w H h)(k:∀b u,h.get? b=some u->h'.get? b=some u)(hp:h.objs.size<=a)(new:dR P w (upd H a o) h' a o):HOk P w (upd H a o) h':=fun b u e=>by
 have hn:=x.fresh hp;by_cases hb:b=a
 ·subst hb;rw[ak]at e;cases e;exact new
 ·rw[aB hb]at e;exact(x b u e).stay (fun c v _ q=>k c v q) (fun c q=>by rw[aB (au q hn)];exact q) fun c xs q=>by rw[aB (au q hn)];exact q
noncomputable def Rd(H:Hp)(a:Addr)(u:HO):Prop:=H a=some u\/∃o,H a=some (.frz o u)
theorem Rd.ok{u:HO}(r:Rd H a u)(x:HOk P w H h):dR P w H h a u:=by
 rcases r with r|⟨o,r⟩
 ·exact x a u r
 ·obtain⟨_,q⟩:=x a _ r;exact q
noncomputable def Mut:Option HO->Prop
 |some (.lst _)=>True
 |some (.dK _)=>True
 |some (.dT _)=>True
 |some (.set _ _)=>True
 |some (.ins _ _ _)=>True
 |some (.ext _)=>True
 |_=>False
section
variable{x e:Addr}{o':HO}
theorem HOk.write(ok:HOk P w H h)(mu:Mut (H x))(he:e=x\/H e=some (.own x))(k:∀b u,b≠e->h.get? b=some u->h'.get? b=some u)(heo:∃u,h'.get? e=some u)
  (new:dR P w (upd H x o') h' x o'):HOk P w (upd H x o') h':=fun b u q=>by
 have nown:∀c y,H c=some (.own y)->c≠x:=fun c y r z=>by subst z;rw[r]at mu;exact mu
 have ntup:∀c xs,H c=some (.tup xs)->c≠x:=fun c xs r z=>by subst z;rw[r]at mu;exact mu
 by_cases hb:b=x
 ·subst hb;rw[ak]at q;cases q;exact new
 ·rw[aB hb]at q;by_cases hbe:b=e
  ·have q':H b=some (.own x):=by
    rcases he with z|z
    ·exact absurd (hbe.trans z) hb
    ·rw[hbe];exact z
   rw[q]at q';cases q';obtain⟨v,hv⟩:=heo;exact⟨v,by rw[hbe];exact hv⟩
  ·refine(ok b u q).stay (fun c v hc r=>k c v ?_ r) (fun c r=>by rw[aB (nown c b r)];exact r) fun c xs r=>by rw[aB (ntup c xs r)];exact r
   rcases hc with rfl|hc
   ·exact hbe
   ·rintro rfl;rcases he with z|z
    ·exact nown c b hc z
    ·rw[hc]at z;cases z;exact hb rfl
end
structure Un(fs ex:List Addr)(H H':Hp)(h h':Heap):Prop where
 keep:∀b o,h.get? b=some o->H b=none->b∉fs->b∉ex->h'.get? b=some o
 slot:∀b o,h.get? b=some o->H b=none->b∈fs->b∉ex->∃sl,h'.get? b=some { o with slots:=sl }
 free:∀b o,h.get? b=some o->H b=none->b∉ex->H' b=none
 there:∀b o,h.get? b=some o->b∉ex->∃o',h'.get? b=some o'
 tups:∀b xs,H b=some (.tup xs)->H' b=some (.tup xs)
 CP:∀b o u,H b=some (.frz o u)->H' b=some (.frz o u)
 Ii:∀b ps,H b=some (.tbl ps)->∃more,H' b=some (.tbl (ps++more))
section
variable{fs fs' ex ex':List Addr}{H1 H2:Hp}{h1 h2:Heap}{x e:Addr}
theorem Un.any(u:Un fs ex H H1 h h1){ob:Obj}(q:h.get? b=some ob)(n:H b=none)(hx:b∉ex):∃sl,h1.get? b=some { ob with slots:=sl }:=by
 by_cases hb:b∈fs
 ·exact u.slot b ob q n hb hx
 ·exact⟨ob.slots,u.keep b ob q n hb hx⟩
theorem Un.kept(k:∀b u,h.get? b=some u->h'.get? b=some u):Un fs ex H H h h':=
 ⟨fun b ob q _ _ _=>k b ob q,fun b ob q _ _ _=>⟨ob.slots,k b ob q⟩,fun _ _ _ n _=>n,fun b ob q _=>⟨ob,k b ob q⟩,fun _ _ q=>q,fun _ _ _ q=>q,fun _ ps q=>⟨#[],by rw[q];simp⟩⟩
theorem Un.refl:Un fs ex H H h h:=Un.kept fun _ _ q=>q
theorem Un.laid(k:∀b u,h.get? b=some u->h'.get? b=some u)(hp:h.objs.size<=a)(hn:H a=none):Un fs ex H (upd H a o) h h' where
 keep:=fun b u q _ _ _=>k b u q
 slot:=fun b u q _ _ _=>⟨u.slots,k b u q⟩
 free:=fun b u q n _=>by rw[aB (cH (fJ (bU q) hp))];exact n
 there:=fun b u q _=>⟨u,k b u q⟩
 tups:=fun b xs q=>by rw[aB (au q hn)];exact q
 CP:=fun b u xs q=>by rw[aB (au q hn)];exact q
 Ii:=fun b ps q=>⟨#[],by rw[aB (au q hn),q];simp⟩
theorem Un.write(mu:Mut (H x))(he:e=x\/H e=some (.own x))(k:∀b u,b≠e->h.get? b=some u->h'.get? b=some u)(heo:∃u,h'.get? e=some u):Un fs ex H (upd H x o) h h':=by
 have hx:∀b,H b=none->b≠x:=fun b n z=>by subst z;rw[n]at mu;exact mu
 have hb:∀b,H b=none->b≠e:=fun b n z=>by
  subst z;rcases he with r|r
  ·exact hx b n r
  ·rw[n]at r;cases r
 have hm:∀b u,H b=some u->¬ Mut (some u)->b≠x:=fun b u q nm z=>by subst z;rw[q]at mu;exact nm mu
 refine ⟨fun b u q n _ _=>k b u (hb b n) q,fun b u q n _ _=>⟨u.slots,k b u (hb b n) q⟩,fun b u q n _=>by rw [aB (hx b n)];exact n,fun b u q _=>?_,
  fun b xs q=>by rw [aB (hm b _ q fun z=>z)];exact q,fun b u xs q=>by rw [aB (hm b _ q fun z=>z)];exact q,fun b ps q=>⟨#[],by rw [aB (hm b _ q fun z=>z),q];simp⟩⟩
 by_cases hbe:b=e
 ·subst hbe;exact heo
 ·exact⟨u,k b u hbe q⟩
end
noncomputable def trk(h:Heap)(H:Hp):List Addr:=(jY h.objs.size).filter fun a=>(H a).isSome
noncomputable def Sh(h:Heap)(H:Hp):Heap:=afz h (trk h H)
theorem ac1(h:Heap)(H:Hp):(Sh h H).objs.size=h.objs.size:=PySem.W.hideAll_size _ _
theorem ah6{o:Obj}(e:h.get? b=some o)(n:H b=none):(Sh h H).get? b=some o:=
 X5 _ e fun hm=>by
  have q:(H b).isSome=true:=(Ew.mp hm).2;rw[n]at q;simp at q
theorem akt{o:Obj}(e:(Sh h H).get? b=some o):h.get? b=some o/\H b=none:=by
 have e':h.get? b=some o:=Q0 (trk h H) e;refine⟨e',?_⟩;cases q:H b with
 |none=>rfl
 |some x =>
  have hm:b∈trk h H:=Ew.mpr ⟨xg.mpr (bU e'),by simp[q]⟩;have z:(Sh h H).get? b=none:=QZ (trk h H) hm;rw[z]at e;cases e
noncomputable def aku(g h:Heap)(L:Addr):List (Addr × Obj):=(jY h.objs.size).filterMap fun a=>if a=L\/(g.get? a).isSome=true then none else(h.get? a).map fun o=>(a,o)
noncomputable def rest(g h:Heap)(L d:Addr):List (Addr × Obj):=(aku g h L).filter fun p=>decide (p.1≠d)
structure Mod(K:bB)(mg:Str->Option Value)(base:Heap):Prop where
 kin:K.In base
 glob:base.Ns dH mg
 blt:∃mb,base.Ns Xz mb/\∀x:Str,x ≠ "__name__" -> mb x=vh x
 nolimit:base.NoLimit
structure Cx where
 prog:bh
 w:World
 K:bB
 mg:Str->Option Value
 base:Heap
 A:bY
 N:List Str
 s₀:Shared
 H₀:Hp
 env:Env
 outer:List Env
 stack:List Env
 ex:List Addr
 fn:Str->Bool
 calm:Bool
 pn:List (Addr × Obj)
 xe:Value->Shared->Prop
variable{X:Cx}
noncomputable def frs(l:List Env):List Addr:=l.filterMap (·.frame)
noncomputable abbrev Cx.fs(X:Cx):List Addr:=frs X.outer
noncomputable def Vis(sc:Scope)(x:Str):Prop:=sc.names.lookup x=some .local\/sc.names.lookup x=some .cell\/sc.names.lookup x=some .free
noncomputable def Loc(sc:Scope)(x:Str):Prop:=sc.names.lookup x=some .local\/sc.names.lookup x=some .cell
noncomputable def Look(env:Env)(h:Heap)(m:Str->Option Value)(x:Str)(u:Value):Prop:=
 (env.kindOf x=some .local/\m x=some u)\/((env.kindOf x=some .cell\/env.kindOf x=some .free)/\∃c,env.cells.lookup x=some c/\h.IsCell c (some u))
structure Cx.Ok(X:Cx):Prop where
 mod:Mod X.K X.mg X.base
 kind:X.env.scope.kind=.function
 glob:X.env.globals=dH
 blt:X.env.builtins=Xz
 above:X.s₀.heap.objs.size<=X.env.locals
 inj:∀x y c,X.env.cells.lookup x=some c->X.env.cells.lookup y=some c->x=y
 has:∀x,(X.env.kindOf x=some .cell\/X.env.kindOf x=some .free)->∃c,X.env.cells.lookup x=some c
 cab:∀x c,X.fn x=true->X.env.cells.lookup x=some c->X.s₀.heap.objs.size<=c
 hd:X.calm=true->X.A.handled=none
 frames:X.A.frames=some X.stack
 stk:X.stack=X.outer\/(X.stack=X.env::X.outer/\X.env.frame=some X.env.locals)
 exf:∀b∈X.ex,b≠X.env.locals/\∀x c,X.env.cells.lookup x=some c->c≠b
 bs:∀b o,X.base.get? b=some o->X.s₀.heap.get? b=some o/\X.H₀ b=none
 bsz:X.base.objs.size<=X.s₀.heap.objs.size
 U7:∀b o,X.base.get? b=some o->b∉X.ex
 ac2:∀b∈X.ex,b∉X.fs
 Bx:X.s₀.heap.FunFrames X.base X.outer
 frf:∀b∈X.fs,X.H₀ b=none
structure Inv(X:Cx)(pins:List (Addr × Obj))(σ:List (Option V))(H:Hp)(s:Shared):Prop where
 ok:X.Ok
 os:s.os=X.s₀.os
 bare:sW s.gens
 base:Un X.fs X.ex X.H₀ H X.s₀.heap s.heap
 loc:∃m,s.heap.Ns X.env.locals m/\∀(i:Nat)(x:Str)(v:V),X.N[i]? = some x->σ[i]? = some (some v)->Vis X.env.scope x->∃u,RelV v u/\Look X.env s.heap m x u
 cell:∀x c,X.env.cells.lookup x=some c->∃v,s.heap.IsCell c v
 free:H X.env.locals=none
 pR:∀x c,X.env.cells.lookup x=some c->H c=none
 pin:∀p∈X.pn++pins,s.heap.get? p.1=some p.2/\H p.1=none/\p.1≠X.env.locals/\p.1∉X.fs/\∀v,p.2.data≠.cell v
 hok:HOk X.prog X.w H s.heap
 len:σ.length=X.N.length
section
variable{σ:List (Option V)}{s:Shared}
theorem Cx.Ok.nofr(ok:X.Ok){o:Obj}(e:X.base.get? b=some o):b∉X.fs:=fun hb=>by
 have:=(ok.Bx.mem hb).1;rw[e]at this;cases this
theorem Inv.bs(I:Inv X pins σ H s):∀b o,X.base.get? b=some o->s.heap.get? b=some o/\H b=none:=fun b o e =>
 ⟨I.base.keep b o (I.ok.bs b o e).1 (I.ok.bs b o e).2 (I.ok.nofr e) (I.ok.U7 b o e),I.base.free b o (I.ok.bs b o e).1 (I.ok.bs b o e).2 (I.ok.U7 b o e)⟩
theorem Inv.bk(I:Inv X pins σ H s):∀b o,X.base.get? b=some o->s.heap.get? b=some o:=fun b o e=>(I.bs b o e).1
theorem Inv.mod(I:Inv X pins σ H s):Mod X.K X.mg X.base:=I.ok.mod
theorem Inv.kIn(I:Inv X pins σ H s):X.K.In s.heap:=I.ok.mod.kin.keeps I.bk
theorem Inv.nolimit(I:Inv X pins σ H s):s.heap.NoLimit:=I.ok.mod.nolimit.keeps I.bk
theorem Inv.lt(I:Inv X pins σ H s):X.env.locals<s.heap.objs.size:=let ⟨_,hn,_⟩:=I.loc;hn.lt
theorem Inv.sz(I:Inv X pins σ H s):X.s₀.heap.objs.size<=s.heap.objs.size:=eN I.ok.above (qP I.lt)
theorem Inv.nofs(I:Inv X pins σ H s)(h:s.heap.objs.size<=a):a∉X.fs:=fun hb=>by
 obtain⟨_,o,ho,_⟩:=I.ok.Bx.mem hb;exact absurd (fJ (bU ho) (eN I.sz h)) (ud _)
theorem Inv.cne(I:Inv X pins σ H s):∀x c,X.env.cells.lookup x=some c->c≠X.env.locals:=fun x c e z=>by
 obtain⟨v,o,ho,hd⟩:=I.cell x c e;obtain⟨m,⟨o',es,ep,ho',hd',_⟩,_⟩:=I.loc;rw[z,ho']at ho;cases ho;rw[hd']at hd;cases hd
theorem Inv.Bx(I:Inv X pins σ H s):s.heap.FunFrames X.base X.outer:=by
 have all:∀(l:List Env),(∀b∈frs l,b∈X.fs)->X.s₀.heap.FunFrames X.base l->s.heap.FunFrames X.base l:=by
  intro l
  induction l with
  |nil=>intro _ _;trivial
  |cons env r ih =>
   intro hs hl;obtain⟨hk,⟨L,o,hf,hn,ho,hd⟩,hr⟩:=hl;have hL:L∈X.fs:=hs L (by unfold frs;rw[Hj,hf];exact dO);obtain⟨sl,e⟩:=I.base.slot L o ho (I.ok.frf L hL) hL fun z=>I.ok.ac2 L z hL;exact⟨hk,⟨L,_,hf,hn,e,hd⟩,ih (fun b hb=>hs b (by unfold frs;rw[Hj,hf];exact fX _ hb)) hr⟩
 exact all X.outer (fun _ hb=>hb) I.ok.Bx
theorem Inv.stack(I:Inv X pins σ H s):s.heap.FunFrames X.base X.stack:=by
 rcases I.ok.stk with e|⟨e,hf⟩
 ·rw[e];exact I.Bx
 ·rw[e];obtain⟨m,hn,_⟩:=I.loc;refine .cons (by rw[I.ok.kind];decide) hf hn ?_ I.Bx;exact Ye (eN I.ok.bsz I.ok.above)
theorem Inv.yw(I:Inv X pins σ H s):∀b∈frs X.stack,b∈X.env.locals::X.fs:=fun b hb=>by
 rcases I.ok.stk with e|⟨e,hf⟩
 ·rw[e]at hb;exact fX _ hb
 ·rw[e]at hb;unfold frs at hb;rw[Hj,hf]at hb;exact hb
theorem Inv.zN(I:Inv X pins σ H s):∀b∈frs X.stack,H b=none:=fun b hb=>by
 rcases cO.mp (I.yw b hb)with e|hb
 ·rw[e];exact I.free
 ·obtain⟨_,o,ho,_⟩:=I.ok.Bx.mem hb;exact I.base.free b o ho (I.ok.frf b hb) fun z=>I.ok.ac2 b z hb
theorem Inv.step(I:Inv X pins σ H s)
  (hch:∀b∈ch,(b∈X.ex\/X.s₀.heap.objs.size<=b)/\b≠X.env.locals/\(∀x c,X.env.cells.lookup x=some c->c≠b)/\∀p∈X.pn++pins,p.1≠b)
  (keep:∀b o,b≠X.env.locals->b∉X.fs->b∉ch->s.heap.get? b=some o->H b=none->h'.get? b=some o)
  (slot:∀b o,b≠X.env.locals->b∈X.fs->b∉ch->s.heap.get? b=some o->H b=none->∃sl,h'.get? b=some { o with slots:=sl }) (free:∀b o,b∉ch->s.heap.get? b=some o->H b=none->H' b=none)
  (there:∀b o,b∉ch->s.heap.get? b=some o->∃o',h'.get? b=some o')
  (tups:∀b xs,H b=some (.tup xs)->H' b=some (.tup xs)) (CP:∀b o u,H b=some (.frz o u)->H' b=some (.frz o u)) (Ii:∀b ps,H b=some (.tbl ps)->∃more,H' b=some (.tbl (ps++more)))
  (ns:∀m,s.heap.Ns X.env.locals m->h'.Ns X.env.locals m) (hok:HOk X.prog X.w H' h') (hg:sW g'):
  Inv X pins σ H' { s with heap:=h',gens:=g',drawn:=d',toks:=t' }:=by
 have neL:∀b o,X.s₀.heap.get? b=some o->b≠X.env.locals:=fun b o e=>cH (fJ (bU e) I.ok.above);have neC:∀b o,X.s₀.heap.get? b=some o->b∉X.ex->b∉ch:=fun b o e hx hb=>by
  rcases(hch b hb).1 with z|z
  ·exact hx z
  ·exact absurd (fJ (bU e) z) (ud _)
 have cellK:∀x c,X.env.cells.lookup x=some c->∀v,s.heap.IsCell c v->h'.IsCell c v:=fun x c e v ⟨o,ho,hd⟩=>by
  have nch:c∉ch:=fun z=>(hch c z).2.2.1 x c e rfl;by_cases hc:c∈X.fs
  ·obtain⟨sl,q⟩:=slot c o (I.cne x c e) hc nch ho (I.pR x c e);exact⟨_,q,hd⟩
  ·exact⟨o,keep c o (I.cne x c e) hc nch ho (I.pR x c e),hd⟩
 refine⟨I.ok,I.os,hg,⟨fun b o e n hb hx=>?_,fun b o e n hb hx=>?_,fun b o e n hx=>?_,fun b o e hx=>?_,fun b xs e=>tups b xs (I.base.tups b xs e),fun b o xs e=>CP b o xs (I.base.CP b o xs e),fun b ps e=>?_⟩,?_,fun x c e=>?_,?_,fun x c e=>?_,fun p hp=>?_,hok,I.len⟩
 ·exact keep b o (neL b o e) hb (neC b o e hx) (I.base.keep b o e n hb hx) (I.base.free b o e n hx)
 ·obtain⟨sl,e1⟩:=I.base.slot b o e n hb hx;obtain⟨sl',e2⟩:=slot b _ (neL b o e) hb (neC b o e hx) e1 (I.base.free b o e n hx);exact⟨sl',e2⟩
 ·obtain⟨o',e1⟩:=I.base.there b o e hx;exact free b o' (neC b o e hx) e1 (I.base.free b o e n hx)
 ·obtain⟨o',e1⟩:=I.base.there b o e hx;exact there b o' (neC b o e hx) e1
 ·obtain⟨m1,e1⟩:=I.base.Ii b ps e;obtain⟨m2,e2⟩:=Ii b _ e1;exact⟨m1++m2,by rw[e2,Array.append_assoc]⟩
 ·obtain⟨m,hn,hl⟩:=I.loc;refine⟨m,ns m hn,fun i x v e1 e2 e3=>?_⟩;obtain⟨u,r,l⟩:=hl i x v e1 e2 e3;refine⟨u,r,?_⟩;rcases l with l|⟨k,c,e,z⟩
  ·exact .inl l
  ·exact .inr ⟨k,c,e,cellK x c e _ z⟩
 ·obtain⟨v,z⟩:=I.cell x c e;exact⟨v,cellK x c e v z⟩
 ·obtain⟨m,⟨o,_,_,ho,_⟩,_⟩:=I.loc;exact free _ o (fun z=>(hch _ z).2.1 rfl) ho I.free
 ·obtain⟨v,o,ho,hd⟩:=I.cell x c e;exact free c o (fun z=>(hch c z).2.2.1 x c e rfl) ho (I.pR x c e)
 ·obtain⟨e,n,ne,nf,d⟩:=I.pin p hp;have nch:p.1∉ch:=fun z=>(hch p.1 z).2.2.2 p hp rfl;exact⟨keep p.1 p.2 ne nf nch e n,free p.1 p.2 nch e n,ne,nf,d⟩
theorem Inv.un(I:Inv X pins σ H s)(u:Un X.fs [] H H' s.heap h')(hok:HOk X.prog X.w H' h'):Inv X pins σ H' { s with heap:=h',toks:=t' }:=by
 obtain ⟨m,⟨o,es,ep,ho,r⟩,_⟩:=id I.loc;obtain ⟨sl,hL⟩:=u.any ho I.free (by simp);exact I.step (g':=s.gens) (d':=s.drawn) (ch:=[]) (fun _ z=>nomatch z) (fun b o _ hb _ e n=>u.keep b o e n hb (by simp)) (fun b o _ hb _ e n=>u.slot b o e n hb (by simp)) (fun b o _ e n=>u.free b o e n (by simp)) (fun b o _ e=>u.there b o e (by simp)) u.tups u.CP u.Ii (fun m' hm=>by
  obtain ⟨o',es',ep',ho',r'⟩:=hm;rw [ho] at ho';cases ho';exact ⟨_,es',ep',hL,r'⟩) hok I.bare
theorem Inv.call(I:Inv X pins σ H s)(u:Un (frs X.stack) ch H H' s.heap h')(hok:HOk X.prog X.w H' h')(hg:sW g')
  (hch:∀b∈ch,(b∈X.ex\/X.s₀.heap.objs.size<=b)/\b≠X.env.locals/\(∀x c,X.env.cells.lookup x=some c->c≠b)/\∀p∈X.pn++pins,p.1≠b):
  Inv X pins σ H' { s with heap:=h',gens:=g',drawn:=d',toks:=t' }:=by
 obtain ⟨m,⟨o,es,ep,ho,r⟩,_⟩:=id I.loc;obtain ⟨sl,hL⟩:=u.any ho I.free fun z=>(hch _ z).2.1 rfl;exact I.step (ch:=ch) hch (fun b o hL hb hc e n=>u.keep b o e n (fun z=>(cO.mp (I.yw b z)).elim hL hb) hc) (fun b o _ _ hc e n=>u.any e n hc) (fun b o hc e n=>u.free b o e n hc) (fun b o hc e=>u.there b o e hc) u.tups u.CP u.Ii (fun m' hm=>by
  obtain ⟨o',es',ep',ho',r'⟩:=hm;rw [ho] at ho';cases ho';exact ⟨_,es',ep',hL,r'⟩) hok hg
theorem Inv.turned(I:Inv X pins σ H s)(k:∀b o,b≠it->s.heap.get? b=some o->h'.get? b=some o)(hn:H it=none)(hL:it≠X.env.locals)
  (h1:it∈X.ex\/X.s₀.heap.objs.size<=it) (h2:∀x c,X.env.cells.lookup x=some c->c≠it) (h3:∀p∈X.pn++pins,p.1≠it):Inv X pins σ H { s with heap:=h',toks:=t' }:=by
 have nit:∀b u,H b=some u->b≠it:=fun b u e z=>by rw[z,hn]at e;cases e
 refine I.step (g':=s.gens) (d':=s.drawn) (ch:=[it]) (fun b hb=>?_) (fun b o _ _ hc e _=>k b o (fun z=>hc (by simp[z])) e) (fun b o _ _ hc e _=>⟨o.slots,k b o (fun z=>hc (by simp[z])) e⟩) (fun _ _ _ _ n=>n)
  (fun b o hc e=>⟨o,k b o (fun z=>hc (by simp[z])) e⟩) (fun _ _ e=>e) (fun _ _ _ e=>e) (fun b ps e=>⟨#[],by rw[e];simp⟩) (fun m hm=>?_) (fun b u e=>?_) I.bare
 ·have e:b=it:=by simpa using hb
  subst e;exact⟨h1,hL,h2,h3⟩
 ·obtain⟨o,es,ep,ho,r⟩:=hm;exact⟨o,es,ep,k _ o (aX hL) ho,r⟩
 ·refine(I.hok b u e).stay (fun c v hc q=>k c v ?_ q) (fun _ q=>q) fun _ _ q=>q;rcases hc with z|z
  ·rw[z];exact nit b u e
  ·exact nit c _ z
theorem Inv.tok(I:Inv X pins σ H s)(t:Nat):Inv X pins σ H { s with toks:=t }:=I.un (h':=s.heap) (t':=t) Un.refl I.hok
theorem Inv.kept(I:Inv X pins σ H s)(k:∀b u,s.heap.get? b=some u->h'.get? b=some u):Inv X pins σ H { s with heap:=h',toks:=t' }:=I.un (Un.kept k) (I.hok.kept k)
theorem Inv.laid(I:Inv X pins σ H s)(k:∀b u,s.heap.get? b=some u->h'.get? b=some u)(hp:s.heap.objs.size<=a)(new:dR X.prog X.w (upd H a o) h' a o):
  Inv X pins σ (upd H a o) { s with heap:=h',toks:=t' }:=I.un (Un.laid k hp (I.hok.fresh hp)) (I.hok.laid k hp new)
theorem Inv.write{x e:Addr}(I:Inv X pins σ H s)(mu:Mut (H x))(he:e=x\/H e=some (.own x))(k:∀b u,b≠e->s.heap.get? b=some u->h'.get? b=some u)(heo:∃u,h'.get? e=some u)
  (new:dR X.prog X.w (upd H x o) h' x o):Inv X pins σ (upd H x o) { s with heap:=h',toks:=t' }:=I.un (Un.write mu he k heo) (I.hok.write mu he k heo new)
theorem Inv.aa2{aa3:List (Addr × Obj)}(I:Inv X pins σ H s)(h:∀p∈aa3,s.heap.get? p.1=some p.2/\H p.1=none/\p.1≠X.env.locals/\p.1∉X.fs/\∀v,p.2.data≠.cell v):Inv X aa3 σ H s:=
 ⟨I.ok,I.os,I.bare,I.base,I.loc,I.cell,I.free,I.pR,fun p hp=>(dY.mp hp).elim (fun z=>I.pin p (Ep _ z)) (h p),I.hok,I.len⟩
theorem U8(hN:N.Nodup){j:Nat}(a:N[i]? = some x)(b:N[j]? = some x):i=j:=by
 obtain⟨h1,e1⟩:=gn.mp a;obtain⟨h2,e2⟩:=gn.mp b;exact(List.getElem_inj hN).mp (e1.trans e2.symm)
theorem Gk{M:Model}{Q:Unit->Shared->Prop}(I:Inv X pins σ H s)(hN:X.N.Nodup)(hi:X.N[i]? = some x)(hx:Loc X.env.scope x)(r:RelV v u)
  (h:∀s',Inv X pins (σ.set i (some v)) H s'->(∃a,xZ a s.heap s'.heap/\(a=X.env.locals\/X.env.cells.lookup x=some a))->Q () s') (hf:X.fn x=true\/X.env.scope.names.lookup x=some .local:=by first|exact .inl rfl|exact .inr rfl|assumption):wpAny M A (storeName X.env x u) Q E s:=by
 obtain⟨m,hn,hl⟩:=id I.loc;have hcls:(X.env.scope.kind == .class || (X.env.scope.kind == .module && X.env.locals != X.env.globals))=false:=by rw[I.ok.kind];rfl
 have hiσ:i<σ.length:=by rw[I.len];exact(gn.mp hi).1
 have cne:=I.cne;have tracked:∀{a:Addr}{h':Heap},(∃o,s.heap.get? a=some o/\H a=none)->xZ a s.heap h'->HOk X.prog X.w H h':=fun {a h'} ha hs b ob e=>by
  obtain⟨_,_,hfree⟩:=ha;refine(I.hok b ob e).stay (fun c w' hc q=>(hs.2 c ?_).trans q) (fun _ q=>q) fun _ _ q=>q;rintro rfl;rcases hc with rfl|hc
  ·rw[hfree]at e;cases e
  ·rw[hfree]at hc;cases hc
 rcases hx with hk|hk
 ·refine wpAny_storeName_local hk hn (fun h' hn' hs=>?_) hcls;obtain⟨oL,_,_,hoL,_⟩:=id hn;refine h _ ⟨I.ok,I.os,I.bare,⟨fun b o e n hb hx=>?_,fun b o e n hb hx=>?_,I.base.free,fun b o e hx=>?_,I.base.tups,I.base.CP,I.base.Ii⟩,⟨_,hn',fun j y v' e1 e2 e3=>?_⟩,fun y c e=>?_,I.free,I.pR,fun p hp=>?_,tracked ⟨oL,hoL,I.free⟩ hs,by simpa using I.len⟩ ⟨_,hs,.inl rfl⟩
  ·exact(hs.2 b (cH (fJ (bU e) I.ok.above))).trans (I.base.keep b o e n hb hx)
  ·obtain⟨sl,e1⟩:=I.base.slot b o e n hb hx;exact⟨sl,(hs.2 b (cH (fJ (bU e) I.ok.above))).trans e1⟩
  ·obtain⟨o',e1⟩:=I.base.there b o e hx;exact⟨o',(hs.2 b (cH (fJ (bU e) I.ok.above))).trans e1⟩
  ·by_cases hj:j=i
   ·subst hj;rw[hi]at e1;cases e1;rw[Qg hiσ]at e2;cases e2;exact⟨u,r,.inl ⟨hk,by simp⟩⟩
   ·rw[Er (aX hj)]at e2;obtain⟨u',r',q⟩:=hl j y v' e1 e2 e3;refine⟨u',r',?_⟩;rcases q with⟨k,e⟩|⟨k,c,e,z⟩
    ·refine .inl ⟨k,?_⟩;have:y≠x:=fun e=>hj (U8 hN e1 (e ▸ hi));simp[this,e]
    ·exact .inr ⟨k,c,e,z.sameBut hs (cne y c e)⟩
  ·obtain⟨w',z⟩:=I.cell y c e;exact⟨w',z.sameBut hs (cne y c e)⟩
  ·obtain⟨e,n,ne,nf,d⟩:=I.pin p hp;exact⟨(hs.2 p.1 ne).trans e,n,ne,nf,d⟩
 ·have hfn:X.fn x=true:=by
   rcases hf with z|z
   ·exact z
   ·rw[z]at hk;cases hk
  obtain⟨c,hc⟩:=I.ok.has x (.inl hk);obtain⟨w',z⟩:=I.cell x c hc;refine wpAny_storeName_cell I.ok.kind hk hc z (fun h' hc' hs=>?_);obtain⟨oc,hoc,hocd⟩:=id z;refine h { s with heap:=h' } ⟨I.ok,I.os,I.bare,⟨fun b o e n hb hx=>?_,fun b o e n hb hx=>?_,I.base.free,fun b o e hx=>?_,I.base.tups,I.base.CP,I.base.Ii⟩,⟨m,hn.sameBut hs (aX (cne x c hc)),fun j y v' e1 e2 e3=>?_⟩,fun y c' e=>?_,I.free,I.pR,fun p hp=>?_,tracked ⟨oc,hoc,I.pR x c hc⟩ hs,by simpa using I.len⟩ ⟨c,hs,.inr hc⟩
  ·exact(hs.2 b (cH (fJ (bU e) (I.ok.cab x c hfn hc)))).trans (I.base.keep b o e n hb hx)
  ·obtain⟨sl,e1⟩:=I.base.slot b o e n hb hx;exact⟨sl,(hs.2 b (cH (fJ (bU e) (I.ok.cab x c hfn hc)))).trans e1⟩
  ·obtain⟨o',e1⟩:=I.base.there b o e hx;exact⟨o',(hs.2 b (cH (fJ (bU e) (I.ok.cab x c hfn hc)))).trans e1⟩
  ·by_cases hj:j=i
   ·subst hj;rw[hi]at e1;cases e1;rw[Qg hiσ]at e2;cases e2;exact⟨u,r,.inr ⟨.inl hk,c,hc,hc'⟩⟩
   ·rw[Er (aX hj)]at e2;obtain⟨u',r',q⟩:=hl j y v' e1 e2 e3;refine⟨u',r',?_⟩;rcases q with q|⟨k,c',e,z'⟩
    ·exact .inl q
    ·refine .inr ⟨k,c',e,z'.sameBut hs ?_⟩;rintro rfl;exact hj (U8 hN e1 (I.ok.inj _ _ _ e hc ▸ hi))
  ·by_cases hcc:c'=c
   ·subst hcc;exact⟨_,hc'⟩
   ·obtain⟨w2,z2⟩:=I.cell y c' e;exact⟨w2,z2.sameBut hs hcc⟩
  ·obtain⟨e,n,ne,nf,d⟩:=I.pin p hp;refine⟨(hs.2 p.1 ?_).trans e,n,ne,nf,d⟩;intro q;rw[q,hoc]at e;have q':oc=p.2:=cN e;exact d w' (by rw[<-q'];exact hocd)
theorem KR{M:Model}{Q:Unit->Shared->Prop}(I:Inv X pins σ H s)(hN:X.N.Nodup)(hi:X.N[i]? = some x)(hx:Loc X.env.scope x)(r:RelV v u)
  (h:∀s',Inv X pins (σ.set i (some v)) H s'->Q () s') (hf:X.fn x=true\/X.env.scope.names.lookup x=some .local:=by first|exact .inl rfl|exact .inr rfl|assumption):wpAny M A (storeName X.env x u) Q E s:=
 Gk I hN hi hx r (fun s' I' _=>h s' I') hf
theorem Inv.call'(I:Inv X pins σ H s)(ho:s'.os=s.os)(u:Un (frs X.stack) ch H H' s.heap s'.heap)(hok:HOk X.prog X.w H' s'.heap)(hg:sW s'.gens)
  (hch:∀b∈ch,(b∈X.ex\/X.s₀.heap.objs.size<=b)/\b≠X.env.locals/\(∀x c,X.env.cells.lookup x=some c->c≠b)/\∀p∈X.pn++pins,p.1≠b):Inv X pins σ H' s':=by
 obtain⟨h',g',d',t',o'⟩:=s';have e:o'=s.os:=ho;subst e;exact I.call (g':=g') (t':=t') (d':=d') u hok hg hch
end
noncomputable abbrev XK:=Value->Option Addr->Hp->Prop
noncomputable abbrev St:=List (Option V)
variable{σ:St}
noncomputable abbrev VK:=V->Hp->Prop
noncomputable abbrev TE:=St->Hp->VK->Prop
variable{te ta tl:TE}
noncomputable abbrev TT:=St->Hp->(Bool->Hp->Prop)->Prop
variable{tc:TT}
noncomputable abbrev TA:=St->Hp->(List V->Hp->Prop)->Prop
variable{t:TA}
structure Ends where
 nx:St->Hp->Prop
 rt:VK
 bk:St->Hp->Prop:=fun _ _=>False
 ct:St->Hp->Prop:=fun _ _=>False
variable{D:Ends}
noncomputable abbrev TS:=Ends->St->Hp->Prop
variable{tb:TS}
noncomputable def EP(X:Cx)(pins:List (Addr × Obj))(σ:St)(Q:VK)(u:Value)(s':Shared):Prop:=∃v H',Inv X pins σ H' s'/\RelV v u/\Q v H'
noncomputable def TP(X:Cx)(pins:List (Addr × Obj))(σ:St)(Q:Bool->Hp->Prop)(b:Bool)(s':Shared):Prop:=∃H',Inv X pins σ H' s'/\Q b H'
noncomputable def AP(X:Cx)(pins:List (Addr × Obj))(σ:St)(Q:List V->Hp->Prop)(us:List Value)(s':Shared):Prop:=∃vs H',Inv X pins σ H' s'/\Vals vs us/\Q vs H'
noncomputable def SP(X:Cx)(pins:List (Addr × Obj))(D:Ends)(f:Flow)(s':Shared):Prop:=
 match f with
 | .next=>∃σ' H',Inv X pins σ' H' s'/\D.nx σ' H'
 | .brk=>∃σ' H',Inv X pins σ' H' s'/\D.bk σ' H'
 | .cont=>∃σ' H',Inv X pins σ' H' s'/\D.ct σ' H'
 | .ret u=>∃v σ' H',Inv X pins σ' H' s'/\RelV v u/\D.rt v H'
noncomputable def PE(X:Cx)(e:Expr)(t:TE):Prop:=
 ∀(pins:List (Addr × Obj)) (s:Shared) (σ:St) (H:Hp) (Q:VK),Inv X pins σ H s->t σ H Q->wpAny (model X.prog X.w) X.A (eval e X.env) (EP X pins σ Q) X.xe s
noncomputable def PT(X:Cx)(e:Expr)(t:TT):Prop:=
 ∀(pins:List (Addr × Obj)) (s:Shared) (σ:St) (H:Hp) (Q:Bool->Hp->Prop),Inv X pins σ H s->t σ H Q->wpAny (model X.prog X.w) X.A (J0 e X.env (eval e X.env)) (TP X pins σ Q) X.xe s
noncomputable def PW(X:Cx)(e:Expr)(t:TT):Prop:=
 ∀(whole:Sem Value) (pins:List (Addr × Obj)) (s:Shared) (σ:St) (H:Hp) (Q:Bool->Hp->Prop),Inv X pins σ H s->t σ H Q->wpAny (model X.prog X.w) X.A (J0 e X.env whole) (TP X pins σ Q) X.xe s
theorem PW.pt{t:TT}(h:PW X e t):PT X e t:=h _
noncomputable def PA(X:Cx)(es:List Expr)(t:TA):Prop:=
 ∀(pos:Pos) (pins:List (Addr × Obj)) (s:Shared) (σ:St) (H:Hp) (Q:List V->Hp->Prop),Inv X pins σ H s->t σ H Q->wpAny (model X.prog X.w) X.A (spliced (iu pos (cT es X.env))) (AP X pins σ Q) X.xe s
noncomputable def PS(X:Cx)(st:Stmt)(t:TS):Prop:=
 ∀(pins:List (Addr × Obj)) (s:Shared) (σ:St) (H:Hp) (D:Ends),Inv X pins σ H s->t D σ H->wpAny (model X.prog X.w) X.A (exec st X.env) (SP X pins D) X.xe s
noncomputable def PSs(X:Cx)(st:List Stmt)(t:TS):Prop:=
 ∀(pins:List (Addr × Obj)) (s:Shared) (σ:St) (H:Hp) (D:Ends),Inv X pins σ H s->t D σ H->wpAny (model X.prog X.w) X.A (execs st X.env) (SP X pins D) X.xe s
theorem thn{t:Sem α}{Q Q':α->Shared->Prop}{M:Model}{s:Shared}(h:wpAny M A t Q E s)(hQ:∀a s,Q a s->Q' a s):wpAny M A t Q' E s:=fP h hQ fun _ _ x=>x
section
@[reducible] noncomputable def tVar(i:Nat):TE:=fun σ H Q=>∃v,σ[i]? = some (some v)/\Q v H
@[reducible] noncomputable def tC(v:V):TE:=fun _ H Q=>Q v H
theorem aol{pos:Pos}(hN:X.N[i]? = some x)(hv:Vis X.env.scope x)(hd:(x == ("__debug__" : Str))=false:=by decide)(hcd:(x == ("__classdict__" : Str))=false:=by decide):PE X (.Name x pos) (tVar i):=by
 intro pins s σ H Q I h;obtain⟨v,e,h⟩:=h;obtain⟨m,hn,hl⟩:=I.loc;obtain⟨u,r,l⟩:=hl i x v hN e hv;have fin:EP X pins σ Q u s:=⟨v,H,I,r,h⟩;rcases l with⟨hk,hm⟩|⟨hk,c,hc,hcell⟩
 ·exact XC (wpAny_loadName_local I.ok.kind hk hn hm fin) hd
 ·rcases hk with hk|hk
  ·exact XC (wpAny_loadName_cell I.ok.kind hk hc hcell fin) hd
  ·exact XC (wpAny_loadName_free I.ok.kind hk hc hcell fin hcd) hd
theorem aA{i j pos}:PE X (.Constant (.int i) j pos) (tC (.int i)):=fun _ _ _ H _ I h=>wpAny_Constant_int ⟨.int i,H,I.tok _,⟨_,rfl⟩,h⟩
theorem kZ{b j pos}:PE X (.Constant (.bool b) j pos) (tC (.bl b)):=fun _ _ _ H _ I h=>agk ⟨.bl b,H,I,rfl,h⟩
theorem mL{j pos}:PE X (.Constant .none j pos) (tC .non):=fun _ _ _ H _ I h=>Constant_none ⟨.non,H,I,rfl,h⟩
theorem dN{x j pos}:PE X (.Constant (.str x) j pos) (tC (.str x)):=fun _ _ _ H _ I h=>Calls.Constant_str ⟨.str x,H,I.tok _,⟨_,rfl⟩,h⟩
noncomputable def Gl(X:Cx)(x:Str):Prop:=X.env.kindOf x=some .globalImplicit
theorem CQ{s:Shared}{pos:Pos}(I:Inv X pins σ H s)(hg:Gl X x)(hm:X.mg x=some u)(h:Q u s)
  (hd:(x == ("__debug__" : Str))=false:=by decide):wpAny (model X.prog X.w) X.A (eval (.Name x pos) X.env) Q E s:=
 agD I.ok.kind hg (Calls.loadGlobal_global (by rw[I.ok.glob];exact I.mod.glob.keeps I.bk) hm h) hd
theorem j7{s:Shared}{pos:Pos}(I:Inv X pins σ H s)(hg:Gl X x)(hm:X.mg x=none)(hv:vh x=some u)(h:Q u s)
  (hn:x ≠ "__name__" := by decide) (hd:(x == ("__debug__" : Str))=false:=by decide):wpAny (model X.prog X.w) X.A (eval (.Name x pos) X.env) Q E s:=by
 obtain⟨mb,h1,h2⟩:=I.mod.blt;exact agD I.ok.kind hg (Calls.loadGlobal_builtin (by rw[I.ok.glob];exact I.mod.glob.keeps I.bk) hm (by rw[I.ok.blt];exact h1.keeps I.bk) ((h2 x hn).trans hv) h) hd
theorem jt{pos:Pos}(hg:Gl X x)(hm:X.mg x=some u)(r:RelV v u)(hd:(x == ("__debug__" : Str))=false:=by decide):PE X (.Name x pos) (tC v):=
 fun _ _ _ H _ I h=>CQ I hg hm ⟨v,H,I,r,h⟩ hd
theorem Jc{pos:Pos}(hg:Gl X x)(hm:X.mg x=none)(hv:vh x=some u)(r:RelV v u)(hn:x ≠ "__name__" := by decide)(hd:(x == ("__debug__" : Str))=false:=by decide):PE X (.Name x pos) (tC v):=
 fun _ _ _ H _ I h=>j7 I hg hm hv ⟨v,H,I,r,h⟩ hn hd
variable{a b:Expr}{tb:TE}{pos:Pos}
@[reducible] noncomputable def tB(t:TE):TT:=fun σ H Q=>t σ H fun x H1=>∃c,x=.bl c/\Q c H1
theorem j8{t:TE}(h:PE X e t)(he:∀whole,J0 e X.env whole=(do let v <-whole;JX e.pos;xR [v] (truthy v)):=by intro _;rfl):PT X e (tB t):=by
 intro pins s σ H Q I hw;refine isTrue_plain (thn (h pins s σ H _ I hw) fun v s1 ⟨x,H1,I1,r1,q1⟩=>?_) (he _);obtain⟨d,rfl,q⟩:=q1;cases r1;exact xG ⟨H1,I1,q⟩
variable{tA tB':TT}{rest:List Expr}
@[reducible] noncomputable def tAnd(t u:TT):TT:=fun σ H Q=>t σ H fun c H1=>if c=true then u σ H1 Q else Q false H1
@[reducible] noncomputable def tOr(t u:TT):TT:=fun σ H Q=>t σ H fun c H1=>if c=true then Q true H1 else u σ H1 Q
@[reducible] noncomputable def tNot(t:TT):TT:=fun σ H Q=>t σ H fun c H1=>Q (!c) H1
theorem pw_and1(ha:PT X a tA):PW X (.BoolOp .And [a] pos) tA:=by
 intro wh pins s σ H Q I h;refine isTrue_and (thn (ha pins s σ H Q I h) fun c s1 e=>?_);cases c with
 |true=>exact isTrue_and_nil e
 |false=>exact e
theorem pw_or1(ha:PT X a tA):PW X (.BoolOp .Or [a] pos) tA:=by
 intro wh pins s σ H Q I h;refine isTrue_or (thn (ha pins s σ H Q I h) fun c s1 e=>?_);cases c with
 |false=>exact isTrue_or_nil e
 |true=>exact e
theorem pw_and(ha:PT X a tA)(hb:PW X (.BoolOp .And (b::rest) pos) tB'):PW X (.BoolOp .And (a::b::rest) pos) (tAnd tA tB'):=by
 intro wh pins s σ H Q I h;refine isTrue_and (thn (ha pins s σ H _ I h) fun c s1 ⟨H1,I1,q1⟩=>?_);cases c with
 |true=>exact hb wh pins s1 σ H1 Q I1 q1
 |false=>exact⟨H1,I1,q1⟩
theorem pw_or(ha:PT X a tA)(hb:PW X (.BoolOp .Or (b::rest) pos) tB'):PW X (.BoolOp .Or (a::b::rest) pos) (tOr tA tB'):=by
 intro wh pins s σ H Q I h;refine isTrue_or (thn (ha pins s σ H _ I h) fun c s1 ⟨H1,I1,q1⟩=>?_);cases c with
 |true=>exact⟨H1,I1,q1⟩
 |false=>exact hb wh pins s1 σ H1 Q I1 q1
theorem lE(ha:PT X a tA):PT X (.UnaryOp .Not a pos) (tNot tA):=by
 intro pins s σ H Q I h;exact isTrue_not (ha pins s σ H (fun c H1=>Q (!c) H1) I h)
@[reducible] noncomputable def tAndV(ta tb:TE):TE:=fun σ H Q=>ta σ H fun x H1=>∃c,x=.bl c/\if c=true then tb σ H1 Q else Q (.bl false) H1
@[reducible] noncomputable def tOrV(ta tb:TE):TE:=fun σ H Q=>ta σ H fun x H1=>∃c,x=.bl c/\if c=true then Q (.bl true) H1 else tb σ H1 Q
@[reducible] noncomputable def tNotV(ta:TE):TE:=fun σ H Q=>ta σ H fun x H1=>∃c,x=.bl c/\Q (.bl (!c)) H1
theorem sZ{op}{t:TE}(h:PE X a t):PE X (.BoolOp op [a] pos) t:=fun pins s σ H Q I hw=>BoolOp_one (h pins s σ H Q I hw)
theorem pU(ha:PE X a ta)(hb:PE X (.BoolOp .And (b::rest) pos) tb):PE X (.BoolOp .And (a::b::rest) pos) (tAndV ta tb):=by
 intro pins s σ H Q I h;refine BoolOp_and (thn (ha pins s σ H _ I h) fun v s1 ⟨x,H1,I1,r1,q1⟩=>?_);obtain⟨c,rfl,q1⟩:=q1;cases r1;refine xG ?_;cases c with
 |true=>exact hb pins s1 σ H1 Q I1 q1
 |false=>exact⟨.bl false,H1,I1,rfl,q1⟩
theorem pe_or(ha:PE X a ta)(hb:PE X (.BoolOp .Or (b::rest) pos) tb):PE X (.BoolOp .Or (a::b::rest) pos) (tOrV ta tb):=by
 intro pins s σ H Q I h;refine BoolOp_or (thn (ha pins s σ H _ I h) fun v s1 ⟨x,H1,I1,r1,q1⟩=>?_);obtain⟨c,rfl,q1⟩:=q1;cases r1;refine xG ?_;cases c with
 |false=>exact hb pins s1 σ H1 Q I1 q1
 |true=>exact⟨.bl true,H1,I1,rfl,q1⟩
theorem aom(ha:PE X a ta):PE X (.UnaryOp .Not a pos) (tNotV ta):=by
 intro pins s σ H Q I h;refine UnaryOp_ (thn (ha pins s σ H _ I h) fun v s1 ⟨x,H1,I1,r1,q1⟩=>?_);obtain⟨c,rfl,q1⟩:=q1;cases r1;exact not_of (xG ⟨.bl (!c),H1,I1,rfl,q1⟩)
noncomputable def tIf(t:TT)(ta tb:TE):TE:=fun σ H Q=>t σ H fun c H1=>if c=true then ta σ H1 Q else tb σ H1 Q
theorem CT(hc:PT X c tA)(ha:PE X a ta)(hb:PE X b tb):PE X (.IfExp c a b pos) (tIf tA ta tb):=by
 intro pins s σ H Q I h;refine wpAny_IfExp (thn (hc pins s σ H _ I h) fun d s1 ⟨H1,I1,q1⟩=>?_);cases d with
 |true=>exact ha pins s1 σ H1 Q I1 q1
 |false=>exact hb pins s1 σ H1 Q I1 q1
end
noncomputable def SqL(K:bB)(H:Hp)(a:Addr)(xs:List V):Prop:=
 Rd H a (.lst xs) \/
  ∃(o:Obj)(its:Array Value)(n:Nat),K.lookup a=some o/\o.cls=.type "list" /\ o.dict=none/\o.data=.seq its n/\its.size<=sizeLine/\Vals xs its.toList
noncomputable def SqT(K:bB)(H:Hp)(a:Addr)(xs:List V):Prop:=
 Rd H a (.tup xs) \/
  ∃(o:Obj)(its:Array Value)(n:Nat),K.lookup a=some o/\o.cls=.type "tuple" /\ o.data=.seq its n/\its.size<=sizeLine/\Vals xs its.toList
noncomputable def absV:Value->Option V
 | .none=>some .non
 | .bool b=>some (.bl b)
 | .int i _=>some (.int i)
 | .str x _=>some (.str x)
 | .bytes b _=>some (.byt b)
 | .float b _=>some (.flt b)
 | .ref a=>some (.ref a)
 | .type n=>some (.ty n)
 |_=>none
theorem RelV.abs{x:V}(r:RelV x u):absV u=some x:=by
 cases x with
 |non=>cases r;rfl
 |bl _=>cases r;rfl
 |int _=>obtain⟨t,rfl⟩:=r;rfl
 |str _=>obtain⟨t,rfl⟩:=r;rfl
 |byt _=>obtain⟨t,rfl⟩:=r;rfl
 |flt _=>obtain⟨t,rfl⟩:=r;rfl
 |ref _=>cases r;rfl
 |ty _=>cases r;rfl
theorem RelV.inj{x:V}(r:RelV x u)(q:RelV y u):x=y:=cN (r.abs.symm.trans q.abs)
theorem Vals.inj:∀{xs ys:List V}{us:List Value},Vals xs us->Vals ys us->xs=ys
 |_,_,_,.nil,.nil=>rfl
 |_,_,_,.cons r t,.cons r' t'=>by rw[r.inj r',Vals.inj t t']
section
variable{s:Shared}{ys:List V}
theorem Inv.list(I:Inv X pins σ H s)(h:SqL X.K H a xs):∃its:List Value,Vals xs its/\PlainL s.heap a its.toArray/\xs.length<=sizeLine:=by
 rcases h with h|⟨o,its,n,hk,hc,hd,hs,hz,r⟩
 ·obtain⟨z,its,n,r,e⟩:=h.ok I.hok;exact⟨its,r,⟨_,n,e,rfl,rfl,rfl⟩,z⟩
 ·refine⟨its.toList,r,⟨o,n,I.kIn a o hk,hc,hd,by simpa using hs⟩,?_⟩;have e:=r.length;simp only[mF]at e;lia
theorem Inv.tuple(I:Inv X pins σ H s)(h:SqT X.K H a xs):∃its:List Value,Vals xs its/\IsTup s.heap a its.toArray/\xs.length<=sizeLine:=by
 rcases h with h|⟨o,its,n,hk,hc,hs,hz,r⟩
 ·obtain⟨z,its,r,p⟩:=h.ok I.hok;exact⟨its,r,p,z⟩
 ·refine⟨its.toList,r,⟨o,I.kIn a o hk,hc,n,by simpa using hs⟩,?_⟩;have e:=r.length;simp only[mF]at e;lia
theorem Inv.U9(I:Inv X pins σ H s)(h:SqL X.K H a xs)(h':SqL X.K H a ys):xs=ys:=by
 obtain⟨its,r,⟨o,n,e,_,_,d⟩,_⟩:=I.list h;obtain⟨its',r',⟨o',n',e',_,_,d'⟩,_⟩:=I.list h';rw[e]at e';cases e';rw[d]at d';injection d' with d1 _;have:its=its':=by simpa using congrArg afT d1
 subst this;exact r.inj r'
theorem Inv.ac3(I:Inv X pins σ H s)(h:SqT X.K H a xs)(h':SqT X.K H a ys):xs=ys:=by
 obtain⟨its,r,⟨o,e,_,n,d⟩,_⟩:=I.tuple h;obtain⟨its',r',⟨o',e',_,n',d'⟩,_⟩:=I.tuple h';rw[e]at e';cases e';rw[d]at d';injection d' with d1 _;have:its=its':=by simpa using congrArg afT d1
 subst this;exact r.inj r'
end
noncomputable abbrev Cx.wish(X:Cx)(E:Value->Shared->Prop):Cx:={ X with xe:=E }
noncomputable abbrev Cx.nox(X:Cx):Cx:=X.wish fun _ _=>False
theorem Cx.Ok.wish(ok:X.Ok)(E:Value->Shared->Prop):(X.wish E).Ok:=
 ⟨ok.mod,ok.kind,ok.glob,ok.blt,ok.above,ok.inj,ok.has,ok.cab,ok.hd,ok.frames,ok.stk,ok.exf,ok.bs,ok.bsz,ok.U7,ok.ac2,ok.Bx,ok.frf⟩
theorem Cx.Ok.lF(ok:(X.wish E).Ok):X.Ok:=
 ⟨ok.mod,ok.kind,ok.glob,ok.blt,ok.above,ok.inj,ok.has,ok.cab,ok.hd,ok.frames,ok.stk,ok.exf,ok.bs,ok.bsz,ok.U7,ok.ac2,ok.Bx,ok.frf⟩
section
variable{s:Shared}
theorem Inv.wish(I:Inv X pins σ H s)(E:Value->Shared->Prop):Inv (X.wish E) pins σ H s:=⟨I.ok.wish E,I.os,I.bare,I.base,I.loc,I.cell,I.free,I.pR,I.pin,I.hok,I.len⟩
theorem Inv.lF(I:Inv (X.wish E) pins σ H s):Inv X pins σ H s:=⟨I.ok.lF,I.os,I.bare,I.base,I.loc,I.cell,I.free,I.pR,I.pin,I.hok,I.len⟩
theorem SP.lF{f:Flow}(h:SP (X.wish E) pins D f s'):SP X pins D f s':=by
 cases f with
 |next=>obtain⟨σ',H',I,q⟩:=h;exact⟨σ',H',I.lF,q⟩
 |brk=>obtain⟨σ',H',I,q⟩:=h;exact⟨σ',H',I.lF,q⟩
 |cont=>obtain⟨σ',H',I,q⟩:=h;exact⟨σ',H',I.lF,q⟩
 |ret u=>obtain⟨v,σ',H',I,r,q⟩:=h;exact⟨v,σ',H',I.lF,r,q⟩
theorem PE.nox{t:TE}(h:PE X.nox e t):PE X e t:=fun pins s σ H Q I hw =>
 fP (h pins s σ H Q (I.wish _) hw) (fun _ _ ⟨v,H',I',r,q⟩=>⟨v,H',I'.lF,r,q⟩) fun _ _ z=>lB z
theorem PT.nox{t:TT}(h:PT X.nox e t):PT X e t:=fun pins s σ H Q I hw =>
 fP (h pins s σ H Q (I.wish _) hw) (fun _ _ ⟨H',I',q⟩=>⟨H',I'.lF,q⟩) fun _ _ z=>lB z
theorem PSs.nox{st:List Stmt}{t:TS}(h:PSs X.nox st t):PSs X st t:=fun pins s σ H D I hw =>
 fP (h pins s σ H D (I.wish _) hw) (fun _ _ q=>q.lF) fun _ _ z=>lB z
end
section
variable{st:Stmt}{rest:List Stmt}{t u:TS}{pos:Pos}
@[reducible] noncomputable def alY:TS:=fun D σ H=>D.nx σ H
@[reducible] noncomputable def tSeq(t u:TS):TS:=fun D σ H=>t { D with nx:=u D } σ H
theorem bJ:PSs X [] alY:=fun _ _ σ H _ I h=>Fj ⟨σ,H,I,h⟩
theorem ao(h1:PS X st t)(h2:PSs X rest u):PSs X (st::rest) (tSeq t u):=by
 intro pins s σ H D I h;refine Xl (thn (h1 pins s σ H { D with nx:=u D } I h) fun f s1 q=>?_);cases f with
 |next =>
  obtain⟨σ',H',I',q⟩:=q;exact h2 pins s1 σ' H' D I' q
 |ret v=>exact q
 |brk=>exact q
 |cont=>exact q
theorem aC(h1:PS X st t):PSs X [st] t:=by
 intro pins s σ H D I h;refine Xl (thn (h1 pins s σ H D I h) fun f s1 q=>?_);cases f with
 |next=>exact Fj q
 |ret v=>exact q
 |brk=>exact q
 |cont=>exact q
theorem Inv.quiet{s:Shared}(I:Inv X pins σ H s):interactive X.env=false:=by simp[interactive,I.ok.kind]
@[reducible] noncomputable def tDrop(te:TE):TS:=fun D σ H=>te σ H fun _ H1=>D.nx σ H1
theorem aZ(he:PE X e te)(hs:Bg e none pos.line X.env=pure false:=by rfl):PS X (.Expr e pos) (tDrop te):=by
 intro pins s σ H D I h;exact wpAny_Expr_any (thn (he pins s σ H _ I h) fun v s1 ⟨x,H1,I1,r1,q1⟩=>⟨σ,H1,I1,q1⟩) I.quiet hs
@[reducible] noncomputable def tRet(te:TE):TS:=fun D σ H=>te σ H D.rt
theorem aW(he:PE X e te):PS X (.Return (some e) pos) (tRet te):=by
 intro pins s σ H D I h;exact wpAny_Return_some (thn (he pins s σ H _ I h) fun v s1 ⟨x,H1,I1,r1,q1⟩=>⟨x,σ,H1,I1,r1,q1⟩)
@[reducible] noncomputable def tIfS(c:TT)(t u:TS):TS:=fun D σ H=>c σ H fun b H1=>if b=true then t D σ H1 else u D σ H1
theorem cU{a b:List Stmt}(hc:PT X c tc)(ha:PSs X a t)(hb:PSs X b u):PS X (.If c a b pos) (tIfS tc t u):=by
 intro pins s σ H D I h;refine wpAny_If (thn (hc pins s σ H _ I h) fun d s1 ⟨H1,I1,q1⟩=>?_);cases d with
 |true=>exact ha pins s1 σ H1 D I1 q1
 |false=>exact hb pins s1 σ H1 D I1 q1
noncomputable def aon:TS:=fun _ _ _=>False
theorem ah7:PS X st aon:=fun _ _ _ _ _ _ h=>h.elim
end
noncomputable abbrev TG:=V->St->Hp->(St->Hp->Prop)->Prop
noncomputable abbrev TGs:=List V->St->Hp->(St->Hp->Prop)->Prop
noncomputable def PG(X:Cx)(target:Expr)(t:TG):Prop:=
 ∀(pins:List (Addr × Obj)) (s:Shared) (σ:St) (H:Hp) (v:V) (u:Value) (Q:St->Hp->Prop),Inv X pins σ H s->RelV v u->t v σ H Q ->
  wpAny (model X.prog X.w) X.A (lA target X.env u) (fun _ s'=>∃σ' H',Inv X pins σ' H' s'/\Q σ' H') X.xe s
noncomputable def PGs(X:Cx)(ts:List Expr)(t:TGs):Prop:=
 ∀(pins:List (Addr × Obj)) (s:Shared) (σ:St) (H:Hp) (vs:List V) (us:List Value) (Q:St->Hp->Prop),Inv X pins σ H s->Vals vs us->t vs σ H Q ->
  wpAny (model X.prog X.w) X.A (assignInOrder ((Fv ts X.env).map (·.2)) us) (fun _ s'=>∃σ' H',Inv X pins σ' H' s'/\Q σ' H') X.xe s
noncomputable abbrev TSet:=V->V->V->Hp->(Hp->Prop)->Prop
noncomputable def PSet(X:Cx)(t:TSet):Prop:=
 ∀(pins:List (Addr × Obj)) (s:Shared) (σ:St) (H:Hp) (o i v:V) (ov iv u:Value) (Q:Hp->Prop),Inv X pins σ H s->RelV o ov->RelV i iv->RelV v u->t o i v H Q ->
  wpAny (model X.prog X.w) X.A (setItem ov iv u) (fun _ s'=>∃H',Inv X pins σ H' s'/\Q H') X.xe s
section
variable{pos:Pos}
@[reducible] noncomputable def nM(i:Nat):TG:=fun v σ H Q=>Q (σ.set i (some v)) H
theorem rA(hN:X.N.Nodup)(hi:X.N[i]? = some x)(hx:Loc X.env.scope x)(hf:X.fn x=true\/X.env.scope.names.lookup x=some .local:=by first|exact .inl rfl|exact .inr rfl|assumption):PG X (.Name x pos) (nM i):=by
 intro pins s σ H v u Q I r h;exact Xi (KR I hN hi hx r (fun s' I'=>⟨_,H,I',h⟩) hf)
noncomputable def ac4:TGs:=fun vs σ H Q=>vs=[]/\Q σ H
noncomputable def yx(t:TG)(u:TGs):TGs:=fun vs σ H Q=>∃v r,vs=v::r/\t v σ H fun σ' H'=>u r σ' H' Q
theorem rB:PGs X [] ac4:=by
 intro pins s σ H vs us Q I r h;obtain⟨e,h⟩:=h;subst e;cases r;exact assignInOrder_nil ⟨σ,H,I,h⟩
theorem fK{t:TG}{u:TGs}(h1:PG X e t)(h2:PGs X es u)
  (hs:(Fv (e::es) X.env).map (·.2)=lA e X.env::(Fv es X.env).map (·.2):=by rfl):PGs X (e::es) (yx t u):=by
 intro pins s σ H vs us Q I r h;obtain⟨v,vr,e1,h⟩:=h;subst e1;cases r with
 |cons r rr =>
  rw[hs];refine assignInOrder_cons (thn (h1 pins s σ H _ _ _ I r h) fun _ s1 ⟨σ1,H1,I1,q1⟩=>?_);exact h2 pins s1 σ1 H1 _ _ Q I1 rr q1
noncomputable def ac5(K:bB)(n:Nat)(t:TGs):TG:=fun v σ H Q=>∃a xs,v=.ref a/\SqT K H a xs/\xs.length=n/\t xs σ H Q
theorem yC{k:Nat}{t:TGs}(hc:X.calm=true)(h:PGs X es t)
  (hn:(Fv es X.env).length=n:=by rfl) (hst:(Fv es X.env).findIdx? (·.1)=none:=by rfl):PG X (.Tuple es k pos) (ac5 X.K n t):=by
 intro pins s σ H v u Q I r hw;obtain⟨a,xs,e1,hq,hl,hw⟩:=hw;subst e1;cases r;obtain⟨its,rv,ht,hz⟩:=I.tuple hq;refine assign_Tuple_tuple (I.ok.hd hc) ht (by simp[hn,<-hl,rv.length]) hst fun h' hx=>?_;have I1:Inv X pins σ H { s with heap:=h' }:=I.kept (t':=s.toks) fun b o e=>hx b o (cH (bU e)) e;exact h pins _ σ H xs _ Q I1 (by simpa using rv) hw
@[reducible] noncomputable def gSub(to ti:TE)(t:TSet):TG:=fun v σ H Q=>to σ H fun o H1=>ti σ H1 fun i H2=>t o i v H2 fun H3=>Q σ H3
theorem yD{o i:Expr}{to ti:TE}{t:TSet}(ho:PE X o to)(hi:PE X i ti)(hs:PSet X t)
  (ha:∀ v,lA (.Subscript o i pos) X.env v=(do
   let ov <-xR [v] (eval o X.env)
   let iv <-xR [v,ov] (eval i X.env)
   JX pos
   xR [v,ov,iv] (setItem ov iv v)
   release [v,ov,iv] []):=by intro _;rfl):PG X (.Subscript o i pos) (gSub to ti t):=by
 intro pins s σ H v u Q I r h;rw[ha];refine aJ (qN (thn (ho pins s σ H _ I h) fun ov s1 ⟨x,H1,I1,r1,q1⟩=>?_));refine aJ (qN (thn (hi pins s1 σ H1 _ I1 q1) fun iv s2 ⟨y,H2,I2,r2,q2⟩=>?_));refine aJ (QB (aJ (qN (thn (hs pins s2 σ H2 x y v ov iv u _ I2 r1 r2 r q2) fun _ s3 ⟨H3,I3,q3⟩=>?_))));exact wpAny_release ⟨σ,H3,I3,q3⟩
@[reducible] noncomputable def ah8(te:TE)(g:TG):TS:=fun D σ H=>te σ H fun x H1=>g x σ H1 D.nx
theorem yE{g:TG}(he:PE X e te)(hg:PG X tg g)(hs:swapsWithSole [tg] e pos.line X.env=pure false:=by rfl)(hw:swappedStores [tg] e X.env=pure none:=by rfl)
  (h1:(Fv [tg] X.env).map (·.2)=[lA tg X.env]:=by rfl):PS X (.Assign [tg] e pos) (ah8 te g):=by
 intro pins s σ H D I h;refine wpAny_Assign_stores (thn (he pins s σ H _ I h) fun v s1 ⟨x,H1,I1,r1,q1⟩=>?_) hs hw;rw[h1];exact thn (hg pins s1 σ H1 x v _ I1 r1 q1) fun _ s2 q=>q
theorem Gm(hN:X.N.Nodup)(hi:X.N[i]? = some x)(hx:Loc X.env.scope x)(he:PE X e te)(hs:Bg e (some (.Name x pos')) pos.line X.env=pure false:=by rfl)(hf:X.fn x=true\/X.env.scope.names.lookup x=some .local:=by first|exact .inl rfl|exact .inr rfl|assumption):
  PS X (.Assign [.Name x pos'] e pos) (ah8 te (nM i)):=by
 intro pins s σ H D I h;refine ae3 (thn (he pins s σ H _ I h) fun v s1 ⟨y,H1,I1,r1,q1⟩=>?_) hs;exact KR I1 hN hi hx r1 (fun s2 I2=>⟨_,H1,I2,q1⟩) hf
noncomputable def Zu(c:TT)(tb:TS):TS:=fun D σ H=>∃W:Nat->St->Hp->Prop,(∃m,W m σ H)/\∀m σ H,W m σ H ->
 c σ H fun b H1=>if b=true then ∃N:St->Hp->Prop,(∀σ' H',N σ' H'->∃m',m'<m/\W m' σ' H')/\tb { D with nx:=N,ct:=N,bk:=D.nx } σ H1 else D.nx σ H1
theorem uo(hp:XF (model X.prog X.w) X.A X.env X.xe)(hc:PT X c tc)(hb:PSs X body tb):PS X (.While c body [] pos) (Zu tc tb):=by
 intro pins s σ H D I h;obtain⟨W,⟨m0,w0⟩,turn⟩:=h;refine wpAny_While (codeAny_whileLoop (fun n s'=>∃σ' H',Inv X pins σ' H' s'/\W n σ' H') ?_ m0 ⟨σ,H,I,w0⟩);rintro n s1 ⟨σ1,H1,I1,w1⟩;refine Bd hp (thn (hc pins s1 σ1 H1 _ I1 (turn n σ1 H1 w1)) fun b s2 ⟨H2,I2,q2⟩=>?_);cases b with
 |true =>
  obtain⟨N,hN,q2⟩:=q2;rw[if_pos rfl];refine Bd hp (thn (hb pins s2 σ1 H2 _ I2 q2) fun f s3 q3=>?_);cases f with
  |next =>
   obtain⟨σ3,H3,I3,n3⟩:=q3;obtain⟨m',hm,w3⟩:=hN σ3 H3 n3;exact⟨m',hm,σ3,H3,I3,w3⟩
  |cont =>
   obtain⟨σ3,H3,I3,n3⟩:=q3;obtain⟨m',hm,w3⟩:=hN σ3 H3 n3;exact⟨m',hm,σ3,H3,I3,w3⟩
  |brk=>exact q3
  |ret v=>exact q3
 |false =>
  rw[if_neg jr];exact Fj ⟨σ1,H2,I2,q2⟩
end
structure It where
 go:Nat->Hp->Prop
 yld:Nat->Hp->V->Hp->Prop
 stop:Nat->Hp->Prop
noncomputable def yF(X:Cx)(pins:List (Addr × Obj))(H:Hp)(b:Addr):Prop:=
 H b=none/\b≠X.env.locals/\b∉X.fs/\(b∈X.ex\/X.s₀.heap.objs.size<=b)/\(∀x c,X.env.cells.lookup x=some c->c≠b)/\∀p∈X.pn++pins,p.1≠b
theorem Inv.Zv{s:Shared}(I:Inv X pins σ H s)(hb:s.heap.objs.size<=b)(hn:H' b=none):yF X pins H' b:=by
 refine⟨hn,sI (fJ I.lt hb),I.nofs hb,.inr (eN I.sz hb),fun x c e z=>?_,fun p hp z=>?_⟩
 ·obtain⟨v,q⟩:=I.cell x c e;exact absurd (fJ q.lt (by rw[z];exact hb)) (ud _)
 ·exact absurd (fJ (bU (I.pin p hp).1) (by rw[z];exact hb)) (ud _)
structure Turn(P:bh)(w:World)(K:bB)(tg:Expr)(J:It)(fp:List Addr)(it:Addr)(tn:Nat->Heap->Prop):Prop where
 mem:it∈fp
 obj:∀i h,tn i h->∀b∈fp,∃o,h.get? b=some o/\∀v,o.data≠.cell v
 keep:∀i h h',tn i h->(∀b∈fp,∀o,h.get? b=some o->h'.get? b=some o)->tn i h'
 item:∀(X:Cx),X.prog=P->X.w=w->X.K=K->X.calm=true->∀(i:Nat) (pins:List (Addr × Obj)) (s:Shared) (σ:St) (H:Hp) (E:Value->Shared->Prop),Inv X pins σ H s->(∀b∈fp,yF X pins H b)->tn i s.heap->J.go i H ->
  wpAny (model P w) X.A (jk (.ref it)) (fun r s1=>∃ u,r=some u /\
   wpAny (model P w) X.A (JM tg (.ref it) u) (fun _ s2=>∃ x H',Inv X pins σ H' s2/\RelV x u/\J.yld i H x H'/\tn (i+1) s2.heap/\∀ b∈fp,H' b=none) E s1) E s
 done:∀(X:Cx),X.prog=P->X.w=w->X.K=K->X.calm=true->∀(i:Nat) (pins:List (Addr × Obj)) (s:Shared) (σ:St) (H:Hp) (E:Value->Shared->Prop),Inv X pins σ H s->(∀b∈fp,yF X pins H b)->tn i s.heap->J.stop i H ->
  wpAny (model P w) X.A (jk (.ref it)) (fun r s1=>r=none/\Inv X pins σ H s1) E s
 self:∀(A:bY)(i:Nat)(s:Shared)(Q:Value->Shared->Prop)(E:Value->Shared->Prop),tn i s.heap->Q (.ref it) s->wpAny (model P w) A (xT (.ref it)) Q E s
noncomputable abbrev TI:=St->Hp->(It->Hp->Prop)->Prop
noncomputable def PIE(X:Cx)(pins:List (Addr × Obj))(σ:St)(tg:Expr)(R:It->Hp->Prop)(itv:Value)(s2:Shared):Prop:=
 ∃(it:Addr)(fp:List Addr)(tn:Nat->Heap->Prop)(J:It)(H':Hp),itv=.ref it/\Inv X pins σ H' s2/\Turn X.prog X.w X.K tg J fp it tn/\tn 0 s2.heap/\(∀b∈fp,yF X pins H' b)/\R J H'
noncomputable def PI(X:Cx)(tg iter:Expr)(wi:TI):Prop:=
 ∀(pins:List (Addr × Obj)) (s:Shared) (σ:St) (H:Hp) (R:It->Hp->Prop),Inv X pins σ H s->wi σ H R ->
  wpAny (model X.prog X.w) X.A (eval iter X.env) (fun v s1=>wpAny (model X.prog X.w) X.A (xT v) (PIE X pins σ tg R) X.xe s1) X.xe s
theorem Va{M:Model}{s:Shared}{o:Obj}{n:String}{vs:Array Value}{Q:Unit->Shared->Prop}(ho:s.heap.get? it=some o)(hc:o.cls=.type n)(hd:o.data=.fields vs)
  (hn:["enumerate","zip","dict_itemiterator","dict_reverseitemiterator","odict_iterator","itertools.zip_longest","itertools.pairwise"].contains n=false) (hQ:Q () s):wpAny M A (JM tg (.ref it) u) Q E s:=by
 unfold JM;cases tg <;> first
  |exact aU hQ
  | (cases u <;> first
    |exact aU hQ
    | (refine aJ (wpAny_load ho ?_)
       rw [hc,hd];show wpAny M A (if (["enumerate","zip","dict_itemiterator","dict_reverseitemiterator","odict_iterator","itertools.zip_longest","itertools.pairwise"].contains n && vs[0]? == some (nZ _))=true then _ else _) Q E s;rw [if_neg (by intro h;rw [hn,Bool.false_and] at h;cases h)];exact aU hQ))
noncomputable def Itl(K:bB)(a:Addr):It:=
 ⟨fun i H=>∃xs x,SqL K H a xs/\xs[i]? = some x,fun i H x H'=>H'=H/\∀xs,SqL K H a xs->xs[i]? = some x,fun i H=>∃xs,SqL K H a xs/\xs.length<=i⟩
noncomputable def Itt(K:bB)(a:Addr):It:=
 ⟨fun i H=>∃xs x,SqT K H a xs/\xs[i]? = some x,fun i H x H'=>H'=H/\∀xs,SqT K H a xs->xs[i]? = some x,fun i H=>∃xs,SqT K H a xs/\xs.length<=i⟩
noncomputable def Itr(lo:Int)(n:Nat):It:=⟨fun i _=>i<n,fun i H x H'=>H'=H/\x=.int (lo+i),fun i _=>n<=i⟩
theorem ac6(a it:Addr):Turn P w K tg (Itl K a) [it] it (fun i h=>h.IsListIter it a i) where
 mem:=by simp
 obj:=fun i h st b hb=>by
  have e:b=it:=by simpa using hb
  subst e;obtain⟨o,e,c,d⟩:=st;exact⟨o,e,fun v z=>by rw[d]at z;cases z⟩
 keep:=fun i h h' st k=>st.at fun o e=>k it (by simp) o e
 item:=by
  intro X hP hw hK hc i pins s σ H E I hf st hg;subst hP hw hK;obtain⟨xs,x,hq,hx⟩:=hg;obtain⟨its,rv,p,hz⟩:=I.list hq;obtain⟨u,hu,ru⟩:=rv.get hx;obtain⟨f0,f1,f2,f3,f4,f5⟩:=hf it (by simp);refine wpAny_pyNext_list_item st p.isList (x:=u) (by simpa using hu) fun h' st' sb=>?_;have I1:Inv X pins σ H { s with heap:=h' }:=I.turned (t':=s.toks) (fun b o hb e=>(sb.2 b hb).trans e) f0 f1 f3 f4 f5;obtain⟨o,e,c,d⟩:=id st';exact⟨u,rfl,Va (s:={ s with heap:=h' }) e c d (by decide) ⟨x,H,I1,ru,⟨rfl,fun ys hy=>by rw[I.U9 hy hq];exact hx⟩,st',fun b hb=>(hf b hb).1⟩⟩
 done:=by
  intro X hP hw hK hc i pins s σ H E I hf st hg;subst hP hw hK;obtain⟨xs,hq,hx⟩:=hg;obtain⟨its,rv,p,hz⟩:=I.list hq;obtain⟨f0,f1,f2,f3,f4,f5⟩:=hf it (by simp);have hl:=rv.length;exact wpAny_pyNext_list_end (I.ok.hd hc) st p.isList (by simp;lia) fun h' eb=>⟨rfl,I.turned (t':=s.toks) (fun b o hb e=>eb b o hb e) f0 f1 f3 f4 f5⟩
 self:=fun _ _ _ _ _ st h=>wpAny_pyIter_listiter st h
theorem Zw(a it:Addr):Turn P w K tg (Itt K a) [it] it (fun i h=>h.IsTupleIter it a i) where
 mem:=by simp
 obj:=fun i h st b hb=>by
  have e:b=it:=by simpa using hb
  subst e;obtain⟨o,e,c,d⟩:=st;exact⟨o,e,fun v z=>by rw[d]at z;cases z⟩
 keep:=fun i h h' st k=>st.at fun o e=>k it (by simp) o e
 item:=by
  intro X hP hw hK hc i pins s σ H E I hf st hg;subst hP hw hK;obtain⟨xs,x,hq,hx⟩:=hg;obtain⟨its,rv,p,hz⟩:=I.tuple hq;obtain⟨u,hu,ru⟩:=rv.get hx;obtain⟨f0,f1,f2,f3,f4,f5⟩:=hf it (by simp);refine wpAny_pyNext_tuple_item st (show s.heap.IsTuple a its.toArray from p) (x:=u) (by simpa using hu) fun h' st' sb=>?_;have I1:Inv X pins σ H { s with heap:=h' }:=I.turned (t':=s.toks) (fun b o hb e=>(sb.2 b hb).trans e) f0 f1 f3 f4 f5;obtain⟨o,e,c,d⟩:=id st';exact⟨u,rfl,Va (s:={ s with heap:=h' }) e c d (by decide) ⟨x,H,I1,ru,⟨rfl,fun ys hy=>by rw[I.ac3 hy hq];exact hx⟩,st',fun b hb=>(hf b hb).1⟩⟩
 done:=by
  intro X hP hw hK hc i pins s σ H E I hf st hg;subst hP hw hK;obtain⟨xs,hq,hx⟩:=hg;obtain⟨its,rv,p,hz⟩:=I.tuple hq;obtain⟨f0,f1,f2,f3,f4,f5⟩:=hf it (by simp);have hl:=rv.length;exact wpAny_pyNext_tuple_end (I.ok.hd hc) st (show s.heap.IsTuple a its.toArray from p) (by simp;lia) fun h' eb=>⟨rfl,I.turned (t':=s.toks) (fun b o hb e=>eb b o hb e) f0 f1 f3 f4 f5⟩
 self:=fun _ _ _ _ _ st h=>wpAny_pyIter_tupleiter st h
theorem Zx(it:Addr)(lo:Int)(n:Nat):Turn P w K tg (Itr lo n) [it] it (fun i h=>IsRangeIter h it (lo+(i:Nat)*1) ((n:Int)-(i:Nat)) 1) where
 mem:=by simp
 obj:=fun i h st b hb=>by
  have e:b=it:=by simpa using hb
  subst e;exact ⟨_,st,fun v z=>by
   have z':Data.fields _=Data.cell v:=z;cases z'⟩
 keep:=fun i h h' st k=>k it (by simp) _ st
 item:=by
  intro X hP hw hK hc i pins s σ H E I hf st hg;subst hP hw hK;obtain⟨f0,f1,f2,f3,f4,f5⟩:=hf it (by simp);have W:=Walks.range (prog:=X.prog) (w:=X.w) (I.ok.hd hc) it lo 1 n;refine W.item i s _ _ hg st fun v h' tk hv st' kk=>?_;obtain⟨t,rfl⟩:=hv;have I1:Inv X pins σ H { s with heap:=h',toks:=tk }:=I.turned (fun b o hb e=>kk b o (by simpa using hb) e) f0 f1 f3 f4 f5;refine⟨_,rfl,Va (s:={ s with heap:=h',toks:=tk }) (n := "range_iterator") st' rfl rfl (by decide) ⟨.int (lo+i),H,I1,⟨t,?_⟩,⟨rfl,rfl⟩,st',fun b hb=>(hf b hb).1⟩⟩;rw[agz]
 done:=by
  intro X hP hw hK hc i pins s σ H E I hf st hg;subst hP hw hK;obtain⟨f0,f1,f2,f3,f4,f5⟩:=hf it (by simp);exact wpAny_pyNext_range_end (I.ok.hd hc) st (by have:n<=i:=hg;lia) fun h' eb=>⟨rfl,I.turned (t':=s.toks) (fun b o hb e=>eb b o hb e) f0 f1 f3 f4 f5⟩
 self:=fun _ _ _ _ _ st h=>wpAny_pyIter_rangeiter st h
noncomputable def iList(K:bB)(tl:TE):TI:=fun σ H R=>tl σ H fun x H1=>∃a,x=.ref a/\(∃xs,SqL K H1 a xs)/\R (Itl K a) H1
noncomputable def iTup(K:bB)(tl:TE):TI:=fun σ H R=>tl σ H fun x H1=>∃a,x=.ref a/\(∃xs,SqT K H1 a xs)/\R (Itt K a) H1
theorem gj(hl:PE X l tl):PI X tg l (iList X.K tl):=by
 intro pins s σ H R I h;refine thn (hl pins s σ H _ I h) fun v s1 ⟨x,H1,I1,r1,q1⟩=>?_;obtain⟨a,e,⟨xs,hq⟩,q⟩:=q1;subst e;cases r1;obtain⟨its,rv,p,hz⟩:=I1.list hq;refine EY p.isList ?_;refine⟨s1.heap.objs.size,[s1.heap.objs.size],_,_,H1,rfl,I1.kept (t':=s1.toks) fun b o e=>dX _ e,ac6 a _,⟨_,eE _ rfl,rfl,rfl⟩,fun b hb=>?_,q⟩;have e:b=s1.heap.objs.size:=by simpa using hb
 subst e;exact I1.Zv (bG _) (I1.hok.fresh (bG _))
theorem ah9(hl:PE X l tl):PI X tg l (iTup X.K tl):=by
 intro pins s σ H R I h;refine thn (hl pins s σ H _ I h) fun v s1 ⟨x,H1,I1,r1,q1⟩=>?_;obtain⟨a,e,⟨xs,hq⟩,q⟩:=q1;subst e;cases r1;obtain⟨its,rv,p,hz⟩:=I1.tuple hq;refine wpAny_pyIter_tuple (show s1.heap.IsTuple a its.toArray from p) ?_;refine⟨s1.heap.objs.size,[s1.heap.objs.size],_,_,H1,rfl,I1.kept (t':=s1.toks) fun b o e=>dX _ e,Zw a _,⟨_,eE _ rfl,rfl,rfl⟩,fun b hb=>?_,q⟩;have e:b=s1.heap.objs.size:=by simpa using hb
 subst e;exact I1.Zv (bG _) (I1.hok.fresh (bG _))
theorem aia{s:Shared}{R:It->Hp->Prop}{lo hi:Int}{t u v:Tok}{tk:Nat}(I:Inv X pins σ H s)(h1:-(2 ^ 62)<=lo)(h2:lo<2 ^ 62)(h3:-(2 ^ 62)<=hi)(h4:hi<2 ^ 62)
  (q:R (Itr lo (hi-lo).toNat) H):wpAny (model X.prog X.w) X.A (xT (.ref s.heap.objs.size)) (PIE X pins σ tg R) E { s with heap:=s.heap.push { cls:=.type "range",data:=.fields #[.int lo t,.int hi u,.int 1 v] },toks:=tk }:=by
 refine wpAny_pyIter_range (IsRange.new ..) (small_one h1 h2 h3 h4) ?_;have I1:Inv X pins σ H { s with heap:=s.heap.push { cls:=.type "range",data:=.fields #[.int lo t,.int hi u,.int 1 v] },toks:=tk }:=I.kept fun b o e=>dX _ e;refine ⟨(s.heap.push { cls:=.type "range",data:=.fields #[.int lo t,.int hi u,.int 1 v] }).objs.size,[(s.heap.push { cls:=.type "range",data:=.fields #[.int lo t,.int hi u,.int 1 v] }).objs.size],_,_,H,rfl,
  I1.kept (t':=tk) fun b o e=>dX _ e,Zx _ lo (hi-lo).toNat,?_,fun b hb=>?_,q⟩
 ·have e1:lo+((0:Nat):Int)*1=lo:=by simp
  have e2:(((hi-lo).toNat:Nat):Int)-((0:Nat):Int)=an4 lo hi 1:=by rw[rangeSize_one];split <;> lia
  show IsRangeIter _ _ (lo+((0:Nat):Int)*1) ((((hi-lo).toNat:Nat):Int)-((0:Nat):Int)) 1;rw[e1,e2];exact eE _ rfl
 ·have e:b=(s.heap.push { cls:=.type "range",data:=.fields #[.int lo t,.int hi u,.int 1 v] }).objs.size:=by simpa using hb
  subst e;exact I1.Zv (bG _) (I1.hok.fresh (bG _))
noncomputable def iRng1(ta:TA):TI:=fun σ H R=>ta σ H fun vs H1=>∃j:Int,vs=[.int j] /\ -(2 ^ 62)<=j/\j<2 ^ 62/\R (Itr 0 j.toNat) H1
theorem mO{a:Expr}{ta:TA}{pos:Pos}(hg:Gl X "range")(hm:X.mg "range" = none)(ha:PA X [a] ta)(hs:cT [a] X.env=[(false,eval a X.env)]:=by rfl):PI X tg (.Call (.Name "range" p) [a] [] pos) (iRng1 ta):=by
 intro pins s σ H R I h;refine Call_ (j7 I hg hm boot_range (Ab (thn (ha pos pins s σ H _ I h) fun us s1 ⟨vs,H1,I1,r1,q1⟩=>?_) hs rfl));obtain⟨j,e,q1,q2,q⟩:=q1;subst e;cases r1 with
 |cons r rr =>
  cases rr;obtain⟨t,rfl⟩:=r;exact call_range_1 (aia I1 tb_g% tb_g% q1 q2 (by simpa using q))
noncomputable def tFor(wi:TI)(g:TG)(tb:TS):TS:=fun D σ H=>wi σ H fun J H1=>∃W:Nat->Nat->St->Hp->Prop,(∃m,W 0 m σ H1)/\∀i m σ H,W i m σ H ->
 (J.stop i H/\D.nx σ H)\/(J.go i H/\∃N:St->Hp->Prop,(∀σ' H',N σ' H'->∃m',m'<m/\W (i+1) m' σ' H')/\∀x H',J.yld i H x H'->g x σ H' fun σ2 H2=>tb { D with nx:=N,ct:=N,bk:=D.nx } σ2 H2)
noncomputable def Gp(fp:List Addr)(h:Heap):List (Addr × Obj):=fp.filterMap fun b=>(h.get? b).map fun o=>(b,o)
theorem mQ{o:Obj}(hb:b∈fp)(e:h.get? b=some o):(b,o)∈Gp fp h:=W9.mpr ⟨b,hb,by rw[e];rfl⟩
theorem ac7{p:Addr × Obj}(hp:p∈Gp fp h):p.1∈fp/\h.get? p.1=some p.2:=by
 obtain⟨b,hb,e⟩:=W9.mp hp;cases q:h.get? b with
 |none=>rw[q]at e;cases e
 |some o =>
  rw[q]at e;have e':(b,o)=p:=cN e;subst e';exact⟨hb,q⟩
theorem Inv.pinned{s:Shared}(I:Inv X pins σ H s)(hf:∀b∈fp,yF X pins H b)(ho:∀b∈fp,∃o,s.heap.get? b=some o/\∀v,o.data≠.cell v):Inv X (pins++Gp fp s.heap) σ H s:=
 I.aa2 fun p hp=>(dY.mp hp).elim (fun z=>I.pin p (mj _ z)) fun z=>by
  obtain⟨hb,e⟩:=ac7 z;obtain⟨f0,f1,f2,_⟩:=hf p.1 hb;obtain⟨o,e',d⟩:=ho p.1 hb;rw[e]at e';cases e';exact⟨e,f0,f1,f2,d⟩
theorem Inv.pW{pl:List (Addr × Obj)}{s:Shared}(I:Inv X (pins++pl) σ H s):Inv X pins σ H s:=I.aa2 fun p hp=>I.pin p (mj _ (Ep _ hp))
theorem j9{iter:Expr}{wi:TI}{g:TG}{pos:Pos}(hp:XF (model X.prog X.w) X.A X.env X.xe)(hc:X.calm=true)(hi:PI X tg iter wi)(hg:PG X tg g)(hb:PSs X body tb)
  (hs:∀x,Fb iter X.env x=pure x:=by intro _;rfl):PS X (.For tg iter body [] pos) (tFor wi g tb):=by
 intro pins s σ H D I h;refine wpAny_For (thn (hi pins s σ H _ I h) fun v s1 h1=>thn h1 fun itv s2 h2=>?_) hs;obtain⟨it,fp,tn,J,H2,e,I2,T,st2,f2,W,⟨m0,w0⟩,turn⟩:=h2;subst e;have stat:∀{H':Hp},(∀b∈fp,H' b=none)->∀b∈fp,yF X pins H' b:=fun hn b hb=>⟨hn b hb,(f2 b hb).2⟩;refine codeAny_forLoop_any (fun n s'=>∃i σ' H',Inv X pins σ' H' s'/\tn i s'.heap/\(∀b∈fp,H' b=none)/\W i n σ' H') ?_ m0 ⟨0,σ,H2,I2,st2,fun b hb=>(f2 b hb).1,w0⟩;rintro n s3 ⟨i,σ3,H3,I3,st3,fr3,w3⟩;rcases turn i n σ3 H3 w3 with⟨stop,qn⟩|⟨go,N,hN,step⟩
 ·refine Bd hp (thn (T.done X rfl rfl rfl hc i pins s3 σ3 H3 X.xe I3 (stat fr3) st3 stop) fun r s4 ⟨hr,I4⟩=>?_);subst hr;exact Fj ⟨σ3,H3,I4,qn⟩
 ·refine Bd hp (thn (T.item X rfl rfl rfl hc i pins s3 σ3 H3 X.xe I3 (stat fr3) st3 go) fun r s4 ⟨u,hr,h4⟩=>?_);subst hr;refine Bd hp (thn h4 fun _ s5 ⟨x,H5,I5,r5,y5,st5,fr5⟩=>?_);have I5':=I5.pinned (stat fr5) (T.obj _ _ st5);refine Bd hp (thn (hg _ s5 σ3 H5 x u _ I5' r5 (step x H5 y5)) fun _ s6 ⟨σ6,H6,I6,q6⟩=>?_);refine Bd hp (thn (hb _ s6 σ6 H6 _ I6 q6) fun f s7 q7=>?_);have again:∀{σ7:St}{H7:Hp},Inv X (pins++Gp fp s5.heap) σ7 H7 s7->N σ7 H7->∃m,m<n/\∃i σ' H',Inv X pins σ' H' s7/\tn i s7.heap/\(∀b∈fp,H' b=none)/\W i m σ' H':=fun {σ7 H7} I7 n7=>by
   obtain⟨m',hm,w7⟩:=hN σ7 H7 n7;refine⟨m',hm,i+1,σ7,H7,I7.pW,T.keep _ _ _ st5 fun b hb o e=>(I7.pin (b,o) (mj _ (mj _ (mQ hb e)))).1,fun b hb=>?_,w7⟩;obtain⟨o,e,d⟩:=T.obj _ _ st5 b hb;exact(I7.pin (b,o) (mj _ (mj _ (mQ hb e)))).2.1
  cases f with
  |next=>obtain⟨σ7,H7,I7,n7⟩:=q7;exact again I7 n7
  |cont=>obtain⟨σ7,H7,I7,n7⟩:=q7;exact again I7 n7
  |brk=>obtain⟨σ7,H7,I7,q7⟩:=q7;exact⟨σ7,H7,I7.pW,q7⟩
  |ret v=>obtain⟨x7,σ7,H7,I7,r7,q7⟩:=q7;exact⟨x7,σ7,H7,I7.pW,r7,q7⟩
theorem ur{g:TG}(Pv:Nat->St->Hp->Prop)(h0:Pv 0 σ H)(hl:∀i σ H,i<=xs.length->Pv i σ H->SqL K H a xs)
  (hs:∀i x σ H,xs[i]? = some x->Pv i σ H->g x σ H fun σ2 H2=>tb { D with nx:=Pv (i+1),ct:=Pv (i+1),bk:=D.nx } σ2 H2) (hd:∀σ H,Pv xs.length σ H->D.nx σ H):
  ∃W:Nat->Nat->St->Hp->Prop,(∃m,W 0 m σ H)/\∀i m σ H,W i m σ H ->
   ((Itl K a).stop i H/\D.nx σ H)\/((Itl K a).go i H/\∃N:St->Hp->Prop,(∀σ' H',N σ' H'->∃m',m'<m/\W (i+1) m' σ' H')/\∀x H',(Itl K a).yld i H x H'->g x σ H' fun σ2 H2=>tb { D with nx:=N,ct:=N,bk:=D.nx } σ2 H2):=by
 refine⟨fun i m σ H=>m=xs.length-i/\i<=xs.length/\Pv i σ H,⟨xs.length,by simp,eO _,h0⟩,?_⟩;rintro i m σ H ⟨rfl,hi,p⟩;have q:=hl i σ H hi p;by_cases hlt:i<xs.length
 ·refine .inr ⟨⟨xs,xs[i],q,by simp[hlt]⟩,Pv (i+1),fun σ' H' p'=>⟨xs.length-(i+1),by lia,rfl,hlt,p'⟩,fun x H' y=>?_⟩;obtain⟨e,y⟩:=y;subst e;exact hs i x σ _ (y xs q) p
 ·have e:i=xs.length:=by lia
  subst e;exact .inl ⟨⟨xs,q,bG _⟩,hd σ H p⟩
theorem pG{lo:Int}{g:TG}(Pv:Nat->St->Hp->Prop)(h0:Pv 0 σ H)
  (hs:∀i σ H,i<n->Pv i σ H->g (.int (lo+i)) σ H fun σ2 H2=>tb { D with nx:=Pv (i+1),ct:=Pv (i+1),bk:=D.nx } σ2 H2) (hd:∀σ H,Pv n σ H->D.nx σ H):
  ∃W:Nat->Nat->St->Hp->Prop,(∃m,W 0 m σ H)/\∀i m σ H,W i m σ H ->
   ((Itr lo n).stop i H/\D.nx σ H)\/((Itr lo n).go i H/\∃N:St->Hp->Prop,(∀σ' H',N σ' H'->∃m',m'<m/\W (i+1) m' σ' H')/\∀x H',(Itr lo n).yld i H x H'->g x σ H' fun σ2 H2=>tb { D with nx:=N,ct:=N,bk:=D.nx } σ2 H2):=by
 refine⟨fun i m σ H=>m=n-i/\i<=n/\Pv i σ H,⟨n,by simp,eO _,h0⟩,?_⟩;rintro i m σ H ⟨rfl,hi,p⟩;by_cases hlt:i<n
 ·refine .inr ⟨hlt,Pv (i+1),fun σ' H' p'=>⟨n-(i+1),by lia,rfl,hlt,p'⟩,fun x H' y=>?_⟩;obtain⟨e,y⟩:=y;subst e y;exact hs i σ _ hlt p
 ·have e:i=n:=by lia
  subst e;exact .inl ⟨bG _,hd σ H p⟩
theorem ux{c:TT}(Pv:St->Hp->Prop)(μ:St->Hp->Nat)(h0:Pv σ H)
  (hs:∀σ H,Pv σ H->c σ H fun b H1=>if b=true then tb { D with nx:=fun σ' H'=>Pv σ' H'/\μ σ' H'<μ σ H,ct:=fun σ' H'=>Pv σ' H'/\μ σ' H'<μ σ H,bk:=D.nx } σ H1 else D.nx σ H1)
  (mono:∀σ H Q Q',(∀b H1,Q b H1->Q' b H1)->c σ H Q->c σ H Q'):Zu c tb D σ H:=by
 refine⟨fun m σ H=>m=μ σ H/\Pv σ H,⟨_,rfl,h0⟩,?_⟩;rintro m σ H ⟨rfl,p⟩;refine mono σ H _ _ (fun b H1 q=>?_) (hs σ H p);cases b with
 |true=>exact⟨_,fun σ' H' ⟨p',l⟩=>⟨_,l,rfl,p'⟩,q⟩
 |false=>exact q
noncomputable abbrev R2:=V->V->Hp->VK->Prop
variable{r:R2}
noncomputable def OpR(X:Cx)(f:Value->Value->Sem Value)(r:R2):Prop:=
 ∀(pins:List (Addr × Obj)) (s:Shared) (σ:St) (H:Hp) (x y:V) (v u:Value) (Q:VK),Inv X pins σ H s->RelV x v->RelV y u->r x y H Q ->
  wpAny (model X.prog X.w) X.A (f v u) (EP X pins σ Q) X.xe s
noncomputable def UnR(X:Cx)(f:Value->Sem Value)(r:V->Hp->VK->Prop):Prop:=
 ∀(pins:List (Addr × Obj)) (s:Shared) (σ:St) (H:Hp) (x:V) (v:Value) (Q:VK),Inv X pins σ H s->RelV x v->r x H Q ->
  wpAny (model X.prog X.w) X.A (f v) (EP X pins σ Q) X.xe s
noncomputable def ju(X:Cx)(f:Value)(r:List V->Hp->VK->Prop):Prop:=
 ∀(pins:List (Addr × Obj)) (s:Shared) (σ:St) (H:Hp) (xs:List V) (us:List Value) (Q:VK),Inv X pins σ H s->Vals xs us->r xs H Q ->
  wpAny (model X.prog X.w) X.A (call f us) (EP X pins σ Q) X.xe s
@[reducible] noncomputable def tOp(r:R2)(ta tb:TE):TE:=fun σ H Q=>ta σ H fun x H1=>tb σ H1 fun y H2=>r x y H2 Q
noncomputable def tUn(r:V->Hp->VK->Prop)(ta:TE):TE:=fun σ H Q=>ta σ H fun x H1=>r x H1 Q
noncomputable def rI(C:Int->Int->Prop)(g:Int->Int->V):R2:=fun x y H Q=>∃i j,x=.int i/\y=.int j/\C i j/\Q (g i j) H
noncomputable def rI0(g:Int->Int->V):R2:=fun x y H Q=>∃i j,x=.int i/\y=.int j/\Q (g i j) H
noncomputable def rU(g:Int->V):V->Hp->VK->Prop:=fun x H Q=>∃i,x=.int i/\Q (g i) H
section
variable{a b:Expr}{tb tc:TE}{pos:Pos}
theorem binT(ha:PE X a ta)(hb:PE X b tb){s:Shared}{R:V->V->Hp->Prop}(I:Inv X pins σ H s)
  (h:ta σ H fun x H1=>tb σ H1 fun y H2=>R x y H2) {Q:Value->Shared->Prop} {f:Value->Value->Sem Value}
  (hf:∀v u s2 x y H2,Inv X pins σ H2 s2->RelV x v->RelV y u->R x y H2->wpAny (model X.prog X.w) X.A (f v u) Q X.xe s2):
  wpAny (model X.prog X.w) X.A (eval a X.env) (fun v s₁=>wpAny (model X.prog X.w) X.A (eval b X.env) (fun u s₂=>wpAny (model X.prog X.w) X.A (f v u) Q X.xe s₂) X.xe s₁) X.xe s:=by
 refine thn (ha pins s σ H _ I h) fun v s1 ⟨x,H1,I1,r1,q1⟩=>?_;refine thn (hb pins s1 σ H1 _ I1 q1) fun u s2 ⟨y,H2,I2,r2,q2⟩=>?_;exact hf v u s2 x y H2 I2 r1 r2 q2
theorem aH{op:Operator}(ho:OpR X (pN op) r)(ha:PE X a ta)(hb:PE X b tb):PE X (.BinOp a op b pos) (tOp r ta tb):=by
 intro pins s σ H Q I h;exact wpAny_BinOp (binT ha hb I h fun v u s2 x y H2 I2 rx ry q=>ho pins s2 σ H2 x y v u Q I2 rx ry q)
theorem Ho{op:UnaryOp}{r:V->Hp->VK->Prop}(ho:UnR X (unaryOp op) r)(ha:PE X a ta):PE X (.UnaryOp op a pos) (tUn r ta):=by
 intro pins s σ H Q I h;exact UnaryOp_ (thn (ha pins s σ H _ I h) fun v s1 ⟨x,H1,I1,r1,q1⟩=>ho pins s1 σ H1 x v Q I1 r1 q1)
theorem opI{C:Int->Int->Prop} 
  (rule:∀(i j:Int)(t u:Tok)(s:Shared)(Q:Value->Shared->Prop)(E:Value->Shared->Prop),C i j->Q (.int (g i j) s.toks) { s with toks:=s.toks+1 }->wpAny (model X.prog X.w) X.A (f (.int i t) (.int j u)) Q E s):
  OpR X f (rI C fun i j=>.int (g i j)):=by
 intro pins s σ H x y v u Q I rx ry h;obtain⟨i,j,rfl,rfl,hc,q⟩:=h;obtain⟨t,rfl⟩:=rx;obtain⟨t',rfl⟩:=ry;exact rule i j t t' s _ _ hc ⟨.int (g i j),H,I.tok _,⟨_,rfl⟩,q⟩
theorem opI0 
  (rule:∀(i j:Int)(t u:Tok)(s:Shared)(Q:Value->Shared->Prop)(E:Value->Shared->Prop),Q (.int (g i j) s.toks) { s with toks:=s.toks+1 }->wpAny (model X.prog X.w) X.A (f (.int i t) (.int j u)) Q E s):
  OpR X f (rI0 fun i j=>.int (g i j)):=by
 intro pins s σ H x y v u Q I rx ry h;obtain⟨i,j,rfl,rfl,q⟩:=h;obtain⟨t,rfl⟩:=rx;obtain⟨t',rfl⟩:=ry;exact rule i j t t' s _ _ ⟨.int (g i j),H,I.tok _,⟨_,rfl⟩,q⟩
theorem opB0{g:Int->Int->Bool}
  (rule:∀(i j:Int)(t u:Tok)(s:Shared)(Q:Value->Shared->Prop)(E:Value->Shared->Prop),Q (.bool (g i j)) s->wpAny (model X.prog X.w) X.A (f (.int i t) (.int j u)) Q E s):
  OpR X f (rI0 fun i j=>.bl (g i j)):=by
 intro pins s σ H x y v u Q I rx ry h;obtain⟨i,j,rfl,rfl,q⟩:=h;obtain⟨t,rfl⟩:=rx;obtain⟨t',rfl⟩:=ry;exact rule i j t t' s _ _ ⟨.bl (g i j),H,I,rfl,q⟩
noncomputable def CDiv(i j:Int):Prop:=0<j/\j<1073741824
noncomputable def aib(i j:Int):Prop:=(-(2 ^ 64)<i/\i<2 ^ 64)\/(-(2 ^ 64)<j/\j<2 ^ 64)
theorem aib.ok{i j:Int}(h:aib i j):XR i j:=by
 rcases h with⟨h1,h2⟩|⟨h1,h2⟩
 ·exact .of_left (afg h1 h2)
 ·exact .of_right (afg h1 h2)
theorem bM:OpR X (pN .Add) (rI0 fun i j=>.int (i+j)):=opI0 fun _ _ _ _ _ _ _ q=>add_int q
theorem gk:OpR X (pN .Sub) (rI0 fun i j=>.int (i-j)):=opI0 fun _ _ _ _ _ _ _ q=>sub_int q
theorem gU:OpR X (pN .Mult) (rI aib fun i j=>.int (i*j)):=opI fun _ _ _ _ _ _ _ hc q=>mul_int q hc.ok
theorem gZ:OpR X (pN .FloorDiv) (rI CDiv fun i j=>.int (i / j)):=opI fun i j _ _ _ _ _ hc q=>by
 have h1:(0:Int)<j:=hc.1;have h2:j<1073741824:=hc.2;exact Yw tb_g% (by rw[Rz i tb_g%];exact q) (.inl (PyProof.noPylong_small tb_g%))
theorem eU:OpR X (pN .Mod) (rI (fun _ j=>0<j) fun i j=>.int (i % j)):=opI fun i j _ _ _ _ _ hc q=>by
 have h1:(0:Int)<j:=hc;exact mod_int' tb_g% (by rw[Int.fmod_eq_emod_of_nonneg i tb_g%];exact q)
theorem unI{f:Value->Sem Value}{g:Int->Int}
  (rule:∀(i:Int)(t:Tok)(s:Shared)(Q:Value->Shared->Prop)(E:Value->Shared->Prop),Q (.int (g i) s.toks) { s with toks:=s.toks+1 }->wpAny (model X.prog X.w) X.A (f (.int i t)) Q E s):
  UnR X f (rU fun i=>.int (g i)):=by
 intro pins s σ H x v Q I rx h;obtain⟨i,rfl,q⟩:=h;obtain⟨t,rfl⟩:=rx;exact rule i t s _ _ ⟨.int (g i),H,I.tok _,⟨_,rfl⟩,q⟩
theorem yG:UnR X (unaryOp .USub) (rU fun i=>.int (-i)):=unI fun _ _ _ _ _ q=>neg_int q
end
noncomputable def scal:V->V->Bool
 | .non,.non=>true | .non,.int _=>true | .int _,.non=>true | .non,.bl _=>true | .bl _,.non=>true | .non,.str _=>true | .str _,.non=>true
 | .int _,.int _=>true | .bl _,.bl _=>true | .str _,.str _=>true | .byt _,.byt _=>true
 | .int _,.str _=>true | .str _,.int _=>true | .bl _,.str _=>true | .str _,.bl _=>true
 |_,_=>false
noncomputable def rEq:R2:=fun x y H Q=>scal x y=true/\Q (.bl (decide (x=y))) H
noncomputable def rNe:R2:=fun x y H Q=>scal x y=true/\Q (.bl (!decide (x=y))) H
theorem aa4{i j:Int}:decide (V.int i=V.int j)=(i == j):=by
 rw[Km];simp
theorem aic{i j:Bool}:decide (V.bl i=V.bl j)=(i == j):=by
 rw[Km];simp
theorem aa5{i j:Str}:decide (V.str i=V.str j)=(i == j):=by
 rw[Km];simp
theorem aa6{i j:Array UInt8}:decide (V.byt i=V.byt j)=(i.toList == j.toList):=by
 rw[Km];cases i;cases j;simp
section
variable{a b:Expr}{tb tc:TE}{pos:Pos}
theorem dF{s:Shared}{Q:VK}{k k':Bool}(I:Inv X pins σ H s)(q:Q (.bl k) H)(e:k=k'):EP X pins σ Q (.bool k') s:=by
 subst e;exact⟨.bl k,H,I,rfl,q⟩
theorem iI:OpR X (iQ .Eq) rEq:=by
 intro pins s σ H x y v u Q I rx ry h;obtain⟨hs,q⟩:=h;cases x with
 |non =>
  cases rx;cases y with
  |non=>cases ry;exact anG (dF I q (by simp))
  |bl j=>cases ry;exact anH (dF I q (by simp))
  |int j=>obtain⟨t',rfl⟩:=ry;exact anM (dF I q (by simp))
  |str j=>obtain⟨t',rfl⟩:=ry;exact anN (dF I q (by simp))
  |_=>exact absurd (show false=true from hs) jr
 |bl i =>
  cases rx;cases y with
  |non=>cases ry;exact anI (dF I q (by simp))
  |bl j=>cases ry;exact eq_bool (dF I q aic)
  |str j=>obtain⟨t',rfl⟩:=ry;exact anU (dF I q (by simp))
  |_=>exact absurd (show false=true from hs) jr
 |int i =>
  obtain⟨t,rfl⟩:=rx;cases y with
  |non=>cases ry;exact anO (dF I q (by simp))
  |int j=>obtain⟨t',rfl⟩:=ry;exact eq_int (dF I q aa4)
  |str j=>obtain⟨t',rfl⟩:=ry;exact anZ (dF I q (by simp))
  |_=>exact absurd (show false=true from hs) jr
 |str i =>
  obtain⟨t,rfl⟩:=rx;cases y with
  |non=>cases ry;exact anP (dF I q (by simp))
  |bl j=>cases ry;exact anV (dF I q (by simp))
  |int j=>obtain⟨t',rfl⟩:=ry;exact an0 (dF I q (by simp))
  |str j=>obtain⟨t',rfl⟩:=ry;exact eq_str (dF I q aa5)
  |_=>exact absurd (show false=true from hs) jr
 |byt i =>
  obtain⟨t,rfl⟩:=rx;cases y with
  |byt j=>obtain⟨t',rfl⟩:=ry;exact PySem.W.eq_bytes (dF I q aa6)
  |_=>exact absurd (show false=true from hs) jr
 |_=>cases y <;> exact absurd (show false=true from hs) jr
theorem pY:OpR X (iQ .NotEq) rNe:=by
 intro pins s σ H x y v u Q I rx ry h;obtain⟨hs,q⟩:=h;cases x with
 |non =>
  cases rx;cases y with
  |non=>cases ry;exact anJ (dF I q (by simp))
  |bl j=>cases ry;exact anK (dF I q (by simp))
  |int j=>obtain⟨t',rfl⟩:=ry;exact anQ (dF I q (by simp))
  |str j=>obtain⟨t',rfl⟩:=ry;exact anR (dF I q (by simp))
  |_=>exact absurd (show false=true from hs) jr
 |bl i =>
  cases rx;cases y with
  |non=>cases ry;exact anL (dF I q (by simp))
  |bl j=>cases ry;exact ne_bool (dF I q (congrArg not aic))
  |str j=>obtain⟨t',rfl⟩:=ry;exact anW (dF I q (by simp))
  |_=>exact absurd (show false=true from hs) jr
 |int i =>
  obtain⟨t,rfl⟩:=rx;cases y with
  |non=>cases ry;exact anS (dF I q (by simp))
  |int j=>obtain⟨t',rfl⟩:=ry;exact ne_int (dF I q (congrArg not aa4))
  |str j=>obtain⟨t',rfl⟩:=ry;exact an1 (dF I q (by simp))
  |_=>exact absurd (show false=true from hs) jr
 |str i =>
  obtain⟨t,rfl⟩:=rx;cases y with
  |non=>cases ry;exact anT (dF I q (by simp))
  |bl j=>cases ry;exact anY (dF I q (by simp))
  |int j=>obtain⟨t',rfl⟩:=ry;exact an2 (dF I q (by simp))
  |str j=>obtain⟨t',rfl⟩:=ry;exact ne_str (dF I q (congrArg not aa5))
  |_=>exact absurd (show false=true from hs) jr
 |byt i =>
  obtain⟨t,rfl⟩:=rx;cases y with
  |byt j=>obtain⟨t',rfl⟩:=ry;exact PySem.W.ne_bytes (dF I q (congrArg not aa6))
  |_=>exact absurd (show false=true from hs) jr
 |_=>cases y <;> exact absurd (show false=true from hs) jr
theorem pZ:OpR X (iQ .Lt) (rI0 fun i j=>.bl (decide (i<j))):=opB0 fun _ _ _ _ _ _ _ q=>lt_int q
theorem rC:OpR X (iQ .LtE) (rI0 fun i j=>.bl (decide (i<=j))):=opB0 fun _ _ _ _ _ _ _ q=>le_int q
theorem oO:OpR X (iQ .Gt) (rI0 fun i j=>.bl (decide (j<i))):=opB0 fun _ _ _ _ _ _ _ q=>gt_int q
theorem Ai:OpR X (iQ .GtE) (rI0 fun i j=>.bl (decide (j<=i))):=opB0 fun _ _ _ _ _ _ _ q=>ge_int q
theorem aie:OpR X (iQ .Is) (fun x y H Q=>y=.non/\Q (.bl (decide (x=.non))) H):=by
 intro pins s σ H x y v u Q I rx ry h;obtain⟨rfl,q⟩:=h;cases ry;refine is_none_gen (dF I q ?_);cases x <;> first
  |(cases rx;rfl)
  |(obtain⟨t,rfl⟩:=rx;rfl)
theorem Sq:OpR X (iQ .IsNot) (fun x y H Q=>y=.non/\Q (.bl (!decide (x=.non))) H):=by
 intro pins s σ H x y v u Q I rx ry h;obtain⟨rfl,q⟩:=h;cases ry;refine isnot_none_gen (dF I q ?_);cases x <;> first
  |(cases rx;rfl)
  |(obtain⟨t,rfl⟩:=rx;rfl)
theorem aM(b:Expr)(h:op≠.In:=by decide)(h2:op≠.NotIn:=by decide):QC op b=false:=by
 have e1:(op == CmpOp.In)=false:=by cases op <;> first|rfl|exact absurd rfl h
 have e2:(op == CmpOp.NotIn)=false:=by cases op <;> first|rfl|exact absurd rfl h2
 cases b <;> simp[QC,e1,e2]
theorem cY(ho:OpR X (iQ op) r)(ha:PE X a ta)(hb:PE X b tb)(hm:QC op b=false):PE X (.Compare a [op] [b] pos) (tOp r ta tb):=by
 intro pins s σ H Q I h;exact wpAny_Compare1 (binT ha hb I h fun v u s2 x y H2 I2 rx ry q=>ho pins s2 σ H2 x y v u Q I2 rx ry q) hm
@[reducible] noncomputable def aif(t:TE):TT:=fun σ H Q=>t σ H fun x H'=>∃k,x=.bl k/\Q k H'
theorem aN(ho:OpR X (iQ op) r)(ha:PE X a ta)(hb:PE X b tb)(hm:QC op b=false):PT X (.Compare a [op] [b] pos) (aif (tOp r ta tb)):=by
 intro pins s σ H Q I h;refine wpAny_isTrue_Compare1 (thn (ha pins s σ H _ I h) fun v s1 ⟨x,H1,I1,r1,q1⟩=>thn (hb pins s1 σ H1 _ I1 q1) fun u s2 ⟨y,H2,I2,r2,q2⟩ =>
  thn (ho pins s2 σ H2 x y v u _ I2 r1 r2 q2) fun c s3 ⟨z,H3,I3,r3,k,e,q3⟩=>?_) hm
 subst e;cases r3;exact xG ⟨H3,I3,q3⟩
noncomputable def aoo(r r':R2)(ta tb tc:TE):TE:=fun σ H Q=>ta σ H fun x H1=>tb σ H1 fun y H2=>r x y H2 fun z H3=>∃k,z=.bl k /\
 (if k=true then tc σ H3 fun w' H4=>r' y w' H4 Q else Q (.bl false) H3)
theorem KY{op':CmpOp}{r':R2}(ho:OpR X (iQ op) r)(ho':OpR X (iQ op') r')(ha:PE X a ta)(hb:PE X b tb)(hc:PE X c tc)
  (hm:lastMarks [op,op'] [b,c]=false:=by with_unfolding_all rfl):PE X (.Compare a [op,op'] [b,c] pos) (aoo r r' ta tb tc):=by
 intro pins s σ H Q I h;refine Compare_chain (thn (ha pins s σ H _ I h) fun v s1 ⟨x,H1,I1,r1,q1⟩=>chain_link (thn (hb pins s1 σ H1 _ I1 q1) fun u s2 ⟨y,H2,I2,r2,q2⟩ =>
  thn (ho pins s2 σ H2 x y v u _ I2 r1 r2 q2) fun d s3 ⟨z,H3,I3,r3,k,e,q3⟩=>?_)) hm
 subst e;cases r3;refine xG ?_;cases k with
 |false=>exact ite_ff ⟨.bl false,H3,I3,rfl,q3⟩
 |true=>exact ite_tt (chain_last (thn (hc pins s3 σ H3 _ I3 q3) fun w' s4 ⟨z',H4,I4,r4,q4⟩=>ho' pins s4 σ H4 y z' u w' Q I4 r2 r4 q4))
theorem KZ:(sizeLine:Nat)<2 ^ 63:=by rw[QD];decide
theorem Zy:OpR X (pN .Add) (fun x y H Q=>∃i j,x=.str i/\y=.str j/\i.length+j.length<=sizeLine/\Q (.str (i++j)) H):=by
 intro pins s σ H x y v u Q I rx ry h;obtain⟨i,j,rfl,rfl,hz,q⟩:=h;obtain⟨t,rfl⟩:=rx;obtain⟨t',rfl⟩:=ry;exact add_str (fun t' tk=>⟨.str (i++j),H,I.tok _,⟨_,rfl⟩,q⟩) hz
theorem vals1{x:V}(r:Vals [x] us):∃u,us=[u]/\RelV x u:=by
 cases r with
 |cons r1 r2=>cases r2;exact⟨_,rfl,r1⟩
theorem vals2{x:V}(r:Vals [x,y] us):∃u w',us=[u,w']/\RelV x u/\RelV y w':=by
 cases r with
 |cons r1 r2 =>
  cases r2 with
  |cons r3 r4=>cases r4;exact⟨_,_,rfl,r1,r3⟩
theorem Ox(hc:X.calm=true):ju X (.builtin "max") (fun xs H Q=>∃i j,xs=[.int i,.int j]/\Q (.int (if j>i then j else i)) H):=by
 intro pins s σ H xs us Q I r h;obtain⟨i,j,rfl,q⟩:=h;obtain⟨u,w',rfl,⟨t,rfl⟩,⟨t',rfl⟩⟩:=vals2 r;refine max_two_ints (I.ok.hd hc) fun h' tk k=>⟨_,H,I.kept k,?_,q⟩;by_cases hj:j>i
 ·rw[if_pos hj,if_pos hj];exact⟨_,rfl⟩
 ·rw[if_neg hj,if_neg hj];exact⟨_,rfl⟩
theorem CV:ju X (.type "str") (fun xs H Q=>∃i,xs=[.int i]/\i.natAbs.log2<1920/\Q (.str (toString i)) H):=by
 intro pins s σ H xs us Q I r h;obtain⟨i,rfl,hz,q⟩:=h;obtain⟨u,rfl,t,rfl⟩:=vals1 r;exact PySem.P.str_of_int hz ⟨.str _,H,I.tok _,⟨_,rfl⟩,q⟩
noncomputable def LenV(K:bB)(x:V)(H:Hp)(n:Nat):Prop:=
 match x with
 | .str y=>y.length<=sizeLine/\n=y.length
 | .byt y=>y.size<=sizeLine/\n=y.size
 | .ref p=>(∃xs,SqL K H p xs/\n=xs.length)\/∃xs,SqT K H p xs/\n=xs.length
 |_=>False
theorem aii:ju X (.builtin "len") (fun xs H Q=>∃x n,xs=[x]/\LenV X.K x H n/\Q (.int n) H):=by
 intro pins s σ H xs us Q I r h;obtain⟨x,n,rfl,e,q⟩:=h;obtain⟨u,rfl,rx⟩:=vals1 r;have hl:=KZ;have hs:sizeLine=16777216:=QD;cases x with
 |str y =>
  obtain⟨t,rfl⟩:=rx;obtain⟨hy,e'⟩:y.length<=sizeLine/\n=y.length:=e;subst e';exact len_str tb_g% ⟨.int _,H,I.tok _,⟨_,rfl⟩,q⟩
 |byt y =>
  obtain⟨t,rfl⟩:=rx;obtain⟨hy,e'⟩:y.size<=sizeLine/\n=y.size:=e;subst e';exact PySem.W.len_bytes tb_g% ⟨.int _,H,I.tok _,⟨_,rfl⟩,q⟩
 |ref p =>
  cases rx;have e':(∃xs,SqL X.K H p xs/\n=xs.length)\/∃xs,SqT X.K H p xs/\n=xs.length:=e;rcases e' with⟨xs,hx,e'⟩|⟨xs,hx,e'⟩
  ·subst e';obtain⟨its,r',pl,hz⟩:=I.list hx;have hlen:=r'.length;exact Calls.call_len_list pl.isList (by simp only[dh];lia) ⟨.int xs.length,H,I.tok _,⟨_,by simp only[dh];rw[hlen]⟩,q⟩
  ·subst e';obtain⟨its,r',pl,hz⟩:=I.tuple hx;have hlen:=r'.length;exact len_tuple pl (by simp only[dh];lia) ⟨.int xs.length,H,I.tok _,⟨_,by simp only[dh];rw[hlen]⟩,q⟩
 |_=>exact(show False from e).elim
end
structure Zz(h:Heap)(x dx C:Addr)(mA:Str->Option Value):Prop where
 obj:h.get? x=some (xW C dx)
 ns:h.Ns1 dx mA
 ne:dx≠x
theorem ac8(n:h.Ns1 dx mA):∃od,h.get? dx=some od/\∀name,Q8 name od=some (mA name):=by
 obtain⟨o,es,ep,ho,hd,hk,_,hm⟩:=n;refine⟨o,ho,fun name=>?_⟩;have e:=hm name;unfold nsFind findBy at e;rw[<-Array.find?_toList]at e;unfold Q8;rw[hd];dsimp only;split
 ·rename_i y q;rw[q]at e;exact congrArg some e
 ·rename_i q;rw[q]at e;have a:es.toList.any (·.refKey)=false:=by
   rw[List.any_eq_false];intro y hy;obtain⟨z,t,hkey⟩:=hk y (afR.mp hy);simp[aoe,hkey]
  have a':¬ es.toList.any (·.refKey)=true:=by rw[a];exact jr
  rw[if_neg a'];exact congrArg some e
theorem Zz.look{x:Addr}(I:Zz h x dx C mA):∃od,PySem.W.InstAt h x (xW C dx) C (some od)/\∀name,Q8 name od=some (mA name):=
 let ⟨od,ho,hl⟩:=ac8 I.ns
 ⟨od,⟨I.obj,rfl,rfl,ho⟩,hl⟩
section
variable{s:Shared}{x f:Addr}{v:Value}
theorem get_map{expr:Bool}(X:K.In s.heap)(I:Zz s.heap x dx C mA)(hg:FT K C name=true)(hh:J9 K C=true)
  (ha:nA K (.ref C) name=some none) (hv:mA name=some v) (hv':afx v=true) (h:Q v { s with toks:=s.toks+1 }):
  wpAny (model prog w) A (getAttr (.ref x) name expr) Q E s:=by
 obtain⟨od,J,hl⟩:=I.look;exact PySem.W.get_value X J (X6 hg).1 (PySem.W.findObj_own hh ha rfl (by rw[hl,hv])) hv' h
theorem aij{Q:Value × List Value->Shared->Prop}(X:K.In s.heap)(I:Zz s.heap x dx C mA)(hg:FT K C name=true)
  (hf:nA K (.ref C) name=some (some (.ref f))) (ht:Kc K (.ref f)=true) (hv:mA name=none) (h:Q (.ref f,[.ref x]) s):
  wpAny (model prog w) A (JV (.ref x) name pl) Q E s:=by
 obtain⟨od,J,hl⟩:=I.look;exact PySem.W.method_fn X J (X6 hg).1 (X6 hg).2 hf (beq_iff_eq.mp ht) (by show(Q8 name od).map (·.isSome)=some false;rw[hl,hv];rfl) h
theorem akv{ns:List Str}{Q:Unit->Shared->Prop}(X:K.In s.heap)(I:Zz s.heap x dx C mA)
  (hs:nA K (.ref C) "__setattr__" = some (some (.builtin "object.__setattr__"))) (hp:Q5 K C=true) (ht:Yb K C name=some none) (hh:J9 K C=true)
  (hw:Xr mA ns) (hsz:ns.length<=sizeLine)
  (h:∀h',Zz h' x dx C (fun y=>if y=name then some v else mA y)->xZ dx s.heap h'->Q () { s with heap:=h',toks:=s.toks+2 }):
  wpAny (model prog w) A (setAttr (.ref x) name v) Q E s:=by
 obtain⟨od,J,hl⟩:=I.look;refine PySem.W.set_plain X J hs (PySem.W.osa_open (s:={ s with toks:=s.toks+1 }) (r:=none) X J hp ht fun b=>?_);obtain⟨cd,hc,hd'⟩:=PySem.W.any_some hh;have hx:s.heap.get? x=some ⟨.ref C,some dx,.plain,#[]⟩:=I.obj;refine aJ (aU (aJ (aJ (wpAny_loadPart hx (aJ (aoa (s:={ s with toks:=s.toks+1 }) (PySem.W.looks_clsIn X hc) ?_))))));rw[hd'];refine aU (a:=some dx) (aJ (aU (aJ ?_)));refine wpAny_nsSet1 (s:={ s with toks:=s.toks+1 }) I.ns fun h' hn2 hs2=>?_;obtain⟨oD,esD,epD,hoD,hdD,hcD⟩:=hn2.count (aoc name v hw);refine aJ (wpAny_lookBehind hoD (by rw[hdD];exact pastItsLine_dict (eN hcD (by rw[jo];lia))) ?_);exact aU (h _ ⟨(hs2.2 _ (aX I.ne)).trans I.obj,hn2,I.ne⟩ hs2)
theorem aik{R:n8->Shared->Prop}{vs:List Value}(X:K.In s.heap)(hm:Q6 K C=true)
  (hi:nA K (.ref C) "__init__" = some (some (.ref f))) (hf:Q7 K (.ref f)=some (.type "function"))
  (h:ig (model prog w) (A.under (.builtin "type.__call__" ⟨.ref C::vs,kw⟩)) (.call (.ref f) ⟨.ref (s.heap.objs.size+1)::vs,kw⟩) (PySem.W.InitBack (s.heap.objs.size+1) R)
   { s with heap:=(s.heap.push Cq).push (xW C s.heap.objs.size) }) :
  ig (model prog w) A (.call (.ref C) ⟨vs,kw⟩) R s:=by
 obtain⟨hh,g,d,t,os⟩:=s;exact PySem.W.make_core (PySem.W.makes_of X hm) (PySem.W.looks_findIn X hi) (fun self=>PySem.W.bind_fn X self hf) (.inl rfl) h
end
noncomputable def cF(f:Str)(v:V):List (Str × V)->List (Str × V)
 |[]=>[(f,v)]
 |(g,x)::r=>if g=f then(g,v)::r else(g,x)::cF f v r
theorem Hq(f g:Str)(v:V):∀fs:List (Str × V),(cF f v fs).lookup g=if g=f then some v else fs.lookup g
 |[]=>by
  show Bc g [(f,v)]=_;by_cases h:g=f
  ·have hb:(g == f)=true:=beq_iff_eq.mpr h;simp only[Bc,hb,if_pos h]
  ·have hb:(g == f)=false:=beq_eq_false_iff_ne.mpr h;simp only[Bc,hb,if_neg h]
 |(k,x)::r=>by
  have ih:=Hq f g v r;rw[show cF f v ((k,x)::r)=(if k=f then(k,v)::r else(k,x)::cF f v r)from rfl];by_cases hk:k=f
  ·rw[if_pos hk];by_cases h:g=k
   ·have hb:(g == k)=true:=beq_iff_eq.mpr h;simp only[Bc,hb,if_pos (h.trans hk)]
   ·have hb:(g == k)=false:=beq_eq_false_iff_ne.mpr h;simp only[Bc,hb,if_neg (fun e:g=f=>h (e.trans hk.symm))]
  ·rw[if_neg hk];by_cases h:g=k
   ·have hb:(g == k)=true:=beq_iff_eq.mpr h;simp only[Bc,hb,if_neg (fun e:g=f=>hk (h.symm.trans e))]
   ·have hb:(g == k)=false:=beq_eq_false_iff_ne.mpr h;simp only[Bc,hb];exact ih
theorem Gq(f:Str)(v:V):∀fs:List (Str × V),f∈(cF f v fs).map (·.1)/\∀g,g∈fs.map (·.1)->g∈(cF f v fs).map (·.1)
 |[]=>⟨by simp[cF],fun g h=>by simp at h⟩
 |(k,x)::r=>by
  obtain⟨i1,i2⟩:=Gq f v r;rw[show cF f v ((k,x)::r)=(if k=f then(k,v)::r else(k,x)::cF f v r)from rfl];by_cases hk:k=f
  ·rw[if_pos hk];subst hk;exact⟨by simp,fun g h=>by simpa using h⟩
  ·rw[if_neg hk];refine⟨?_,fun g h=>?_⟩
   ·rw[fU];exact fX _ i1
   ·rw[fU]at h ⊢;rcases cO.mp h with e|e
    ·exact cO.mpr (.inl e)
    ·exact fX _ (i2 g e)
theorem Hr(f:Str)(v:V):∀fs:List (Str × V),(cF f v fs).length<=fs.length+1
 |[]=>by simp[cF]
 |(k,x)::r=>by
  have ih:=Hr f v r;rw[show cF f v ((k,x)::r)=(if k=f then(k,v)::r else(k,x)::cF f v r)from rfl];by_cases hk:k=f
  ·rw[if_pos hk,jo,jo];lia
  ·rw[if_neg hk,jo,jo];lia
theorem wU.some_of{o:Option Value}(r:wU (some v) o):∃u,o=some u/\RelV v u:=by
 cases o with
 |none=>exact(show False from r).elim
 |some u=>exact⟨u,rfl,r⟩
theorem wU.none_of{o:Option Value}(r:wU none o):o=none:=by
 cases o with
 |none=>rfl
 |some u=>exact(show False from r).elim
theorem ac9(r:RelV v u):afx u=true:=by
 cases v with
 |non=>cases (show u=Value.none from r);rfl
 |bl b=>cases (show u=Value.bool b from r);rfl
 |int i=>obtain⟨t,e⟩:=(show ∃t,u=Value.int i t from r);cases e;rfl
 |str x=>obtain⟨t,e⟩:=(show ∃t,u=Value.str x t from r);cases e;rfl
 |byt b=>obtain⟨t,e⟩:=(show ∃t,u=Value.bytes b t from r);cases e;rfl
 |flt b=>obtain⟨t,e⟩:=(show ∃t,u=Value.float b t from r);cases e;rfl
 |ref a=>cases (show u=Value.ref a from r);rfl
 |ty n=>cases (show u=Value.type n from r);rfl
section
variable{fs fs':List (Str × V)}
theorem Jd(hok:HOk P w H h)(e:H a=some (.ins C dx fs)):∃mA,Zz h a dx C mA/\(∀f,wU (fs.lookup f) (mA f))/\Xr mA (fs.map (·.1))/\fs.length<=1000/\H dx=some (.own a):=by
 obtain⟨d,z,ne,ob,mA,n,r,q⟩:=(show dR P w H h a (.ins C dx fs)from hok a _ e);exact⟨mA,⟨ob,n,ne⟩,r,q,z,d⟩
end
structure Cls(K:bB)(C:Addr):Prop where
 pg:FT K C Yg=true
 hd:J9 K C=true
 po:Q5 K C=true
 sa:nA K (.ref C) "__setattr__" = some (some (.builtin "object.__setattr__"))
theorem Cls.get(c:Cls K C)(f:Str):FT K C f=true:=c.pg
noncomputable def cR(K:bB)(C:Addr)(f:Str):Prop:=nA K (.ref C) f=some none
theorem cR.taker{f:Str}(n:cR K C f):Yb K C f=some none:=by
 unfold Yb;rw[show nA K (.ref C) f=some none from n];rfl
structure Con(K:bB)(C:Addr)(f:Str)(v:V)(u:Value):Prop where
 at_:nA K (.ref C) f=some (some u)
 rel:RelV v u
 get:afu K u "__get__" = some none
 cp:PySem.W.copiedNames.contains f=false
structure Meth(K:bB)(C:Addr)(m:Str)(f:Addr):Prop where
 at_:nA K (.ref C) m=some (some (.ref f))
 fn:Kc K (.ref f)=true
 kp:vq K (.ref f)=true
section
variable{s:Shared}{fs:List (Str × V)}{f:Str}
theorem ZC{b:Bool}(I:Inv X pins σ H s)(e:H a=some (.ins C dx fs))(c:Cls X.K C)(n:cR X.K C f)(l:fs.lookup f=some v)
  (h:∀u s',Inv X pins σ H s'->RelV v u->Q u s'):wpAny (model X.prog X.w) A (getAttr (.ref a) f b) Q E s:=by
 obtain⟨mA,O,r,_,_,_⟩:=Jd I.hok e;obtain⟨u,hu,ru⟩:=wU.some_of (v:=v) (o:=mA f) (by rw[<-l];exact r f);exact get_map I.kIn O (c.get f) c.hd n hu (ac9 ru) (h u _ (I.tok _) ru)
theorem BJ{g:Addr}{Q:Value × List Value->Shared->Prop}(I:Inv X pins σ H s)(e:H a=some (.ins C dx fs))(c:Cls X.K C)(k:Meth X.K C m g)(l:fs.lookup m=none)
  (h:Q (.ref g,[.ref a]) s):wpAny (model X.prog X.w) A (JV (.ref a) m pl) Q E s:=by
 obtain⟨mA,O,r,_,_,_⟩:=Jd I.hok e;have hn:mA m=none:=wU.none_of (by rw[<-l];exact r m);exact aij I.kIn O (c.get m) k.at_ k.fn hn h
theorem ZD{Q:Unit->Shared->Prop}(I:Inv X pins σ H s)(e:H a=some (.ins C dx fs))(c:Cls X.K C)(n:cR X.K C f)(hl:fs.length<1000)(ry:RelV y u)
  (h:∀s',Inv X pins σ (upd H a (.ins C dx (cF f y fs))) s'->Q () s'):wpAny (model X.prog X.w) A (setAttr (.ref a) f u) Q E s:=by
 obtain⟨mA,O,r,wi,_,ho⟩:=Jd I.hok e;have hz:(fs.map (·.1)).length<=sizeLine:=by rw[aV,QD];lia
 refine akv I.kIn O c.sa c.po n.taker c.hd wi hz fun h' O' sb=>h _ ?_;have hd:∃o,h'.get? dx=some o:=let ⟨o,_,_,e',_⟩:=O'.ns;⟨o,e'⟩;refine I.write (x:=a) (e:=dx) (by rw[e];exact True.intro) (.inr ho) (fun b q hb z=>(sb.2 b hb).trans z) hd ?_;refine⟨by rw[aB O.ne];exact ho,?_,O.ne,O'.obj,_,O'.ns,fun g=>?_,fun g hg=>?_⟩
 ·have:=Hr f y fs;lia
 ·show wU ((cF f y fs).lookup g) (if g=f then some u else mA g);rw[Hq];by_cases q:g=f
  ·rw[if_pos q,if_pos q];exact ry
  ·rw[if_neg q,if_neg q];exact r g
 ·by_cases q:g=f
  ·rw[q];exact(Gq f y fs).1
  ·refine(Gq f y fs).2 g (wi g fun z=>hg ?_);show(if g=f then some u else mA g)=none;rw[if_neg q];exact z
theorem Inv.made(I:Inv X pins σ H s):Inv X pins σ (upd (upd H s.heap.objs.size (.own (s.heap.objs.size+1))) (s.heap.objs.size+1) (.ins C s.heap.objs.size []))
  { s with heap:=(s.heap.push Cq).push (xW C s.heap.objs.size) }:=by
 have e1:(s.heap.push Cq).get? s.heap.objs.size=some Cq:=eE s.heap rfl;have e2:((s.heap.push Cq).push (xW C s.heap.objs.size)).get? (s.heap.objs.size+1)=some (xW C s.heap.objs.size):=by
  have:=eE (s.heap.push Cq) (o:=xW C s.heap.objs.size) rfl
  rwa [qO]at this
 have e3:(s.heap.push Cq).Ns s.heap.objs.size (fun _=>none):=⟨Cq,#[],_,e1,rfl,(fun e he=>absurd he (by simp)),fun _=>rfl⟩;have I1:=I.laid (a:=s.heap.objs.size) (o:=.own (s.heap.objs.size+1)) (h':=s.heap.push Cq) (t':=s.toks) (fun b u q=>dX _ q) (bG _) ⟨_,e1⟩;refine I1.laid (a:=s.heap.objs.size+1) (o:=.ins C s.heap.objs.size []) (t':=s.toks) (fun b u q=>dX _ q) (Ri (qO _ _)) ?_;have ne:s.heap.objs.size≠s.heap.objs.size+1:=cH (yc _);refine⟨by rw[aB ne,ak],eO _,ne,e2,fun _=>none,(aod e3).at fun o q=>dX _ q,fun _=>True.intro,fun y hy=>absurd rfl hy⟩
theorem akx{env:Env}{f:Str}{pos:Pos}{s:Shared}(hb:xK e f env (eval e env)=eval e env)
  (h:wpAny (model prog w) A (eval e env) (fun o s₁=>wpAny (model prog w) A (getAttr o f true) Q E s₁) E s):wpAny (model prog w) A (eval (.Attribute e f pos) env) Q E s:=
 Attribute_any_ h (by rw[arm_eval_Attribute,hb])
end
noncomputable def rFld(K:bB)(f:Str)(x:V)(H1:Hp)(Q:VK):Prop:=∃a C dx fs v,x=.ref a/\H1 a=some (.ins C dx fs)/\Cls K C/\cR K C f/\fs.lookup f=some v/\Q v H1
@[reducible] noncomputable def ZF(K:bB)(ta:TE)(f:Str):TE:=fun σ H Q=>ta σ H fun x H1=>rFld K f x H1 Q
noncomputable def sFld(K:bB)(ta tv:TE)(f:Str):TS:=fun D σ H=>tv σ H fun y H1=>ta σ H1 fun x H2=>∃a C dx fs,x=.ref a/\H2 a=some (.ins C dx fs)/\Cls K C/\cR K C f/\fs.length<1000 /\
 D.nx σ (upd H2 a (.ins C dx (cF f y fs)))
section
variable{o value:Expr}{f:Str}{pos tpos:Pos}{tv:TE}
theorem aop(he:PE X e ta)(hb:xK e f X.env (eval e X.env)=eval e X.env):PE X (.Attribute e f pos) (ZF X.K ta f):=by
 intro pins s σ H Q I h;refine akx hb (thn (he pins s σ H _ I h) fun u s1 ⟨x,H1,I1,rx,a,C,dx,fs,v,ex,ea,c,n,l,q⟩=>?_);subst ex;obtain rfl:u=Value.ref a:=rx;exact ZC I1 ea c n l fun u' s2 I2 ru=>⟨v,H1,I2,ru,q⟩
theorem aQ(ha:PE X o ta)(hv:PE X value tv)(hs:Bg value (some (.Attribute o f pos')) pos.line X.env=pure false):PS X (.Assign [.Attribute o f pos'] value pos) (sFld X.K ta tv f):=by
 intro pins s σ H D I h;refine plainObj_wpAny_Assign_Attribute (thn (hv pins s σ H _ I h) fun u s1 ⟨y,H1,I1,ry,q⟩=>thn (ha pins s1 σ H1 _ I1 q) fun ov s2 ⟨x,H2,I2,rx,a,C,dx,fs,ex,ea,c,n,l,q2⟩=>?_) hs;subst ex;obtain rfl:ov=Value.ref a:=rx;exact ZD I2 ea c n l ry fun s3 I3=>⟨σ,_,I3,q2⟩
end
section
variable{s:Shared}{c:Value}{b:Bool}
inductive Gs (K:bB) (H:Hp):V->Value->Prop where
 |non:Gs K H .non (.type "NoneType")
 |bl (x:Bool):Gs K H (.bl x) (.type "bool")
 |int (i:Int):Gs K H (.int i) (.type "int")
 |str (x:Str):Gs K H (.str x) (.type "str")
 |flt (x:UInt64):Gs K H (.flt x) (.type "float")
 |lst {a:Addr} {xs:List V} (e:H a=some (.lst xs)):Gs K H (.ref a) (.type "list")
 |frz {a:Addr} {o:Obj} {xs:List V} (e:H a=some (.frz o (.lst xs))):Gs K H (.ref a) (.type "list")
 |tup {a:Addr} {xs:List V} (e:H a=some (.tup xs)):Gs K H (.ref a) (.type "tuple")
 |dK {a:Addr} {kvs:List (Key × V)} (e:H a=some (.dK kvs)):Gs K H (.ref a) (.type "dict")
 |dT {a:Addr} {kvs:List (List Key × V)} (e:H a=some (.dT kvs)):Gs K H (.ref a) (.type "dict")
 |ins {a C dx:Addr} {fs:List (Str × V)} (e:H a=some (.ins C dx fs)) (cl:Cls K C) (ha:nA K (.ref C) "__class__" = some (some (.builtin "object.__class__")))
   (hn:afu K (.builtin "object.__class__") "__get__" = some (some (.builtin "getset_descriptor.__get__"))) (htk:PySem.W.takesIn K (.builtin "object.__class__")=some true)
   (hm:xX K C (.type "object")=some true):Gs K H (.ref a) (.ref C)
theorem ada{x:V}{t:Value}(I:Inv X pins σ H s)(rx:RelV x u)(ty:Gs X.K H x t)(e:xV X.K t c=some b)(h:∀tk,Q (.bool b) { s with toks:=tk }):
  wpAny (model X.prog X.w) A (call (.builtin "isinstance") [u,c]) Q E s:=by
 cases ty with
 |non=>cases (show u=Value.none from rx);exact xU PySem.W.kitx_none I.kIn True.intro e (fun z=>nomatch z) h
 |bl y=>cases (show u=Value.bool y from rx);exact xU PySem.W.kitx_bool I.kIn True.intro e (fun z=>nomatch z) h
 |int i=>obtain⟨t,q⟩:=(show ∃t,u=Value.int i t from rx);cases q;exact xU PySem.W.kitx_int I.kIn True.intro e (fun z=>nomatch z) h
 |str y=>obtain⟨t,q⟩:=(show ∃t,u=Value.str y t from rx);cases q;exact xU PySem.W.kitx_str I.kIn True.intro e (fun z=>nomatch z) h
 |flt y=>obtain⟨t,q⟩:=(show ∃t,u=Value.float y t from rx);cases q;exact xU PySem.W.kitx_float I.kIn True.intro e (fun z=>nomatch z) h
 | @lst a xs ea =>
  cases (show u=Value.ref a from rx);obtain⟨_,_,n,_,h1⟩:=(show dR X.prog X.w H s.heap a (.lst xs)from I.hok a _ ea);exact xU afv I.kIn ⟨_,h1,rfl⟩ e (fun z=>nomatch z) h
 | @frz a ob xs ea =>
  cases (show u=Value.ref a from rx);obtain⟨_,_,_,n,_,h1⟩:=(show dR X.prog X.w H s.heap a (.frz ob (.lst xs))from I.hok a _ ea);exact xU afv I.kIn ⟨_,h1,rfl⟩ e (fun z=>nomatch z) h
 | @tup a xs ea =>
  cases (show u=Value.ref a from rx);obtain⟨_,_,_,p⟩:=(show dR X.prog X.w H s.heap a (.tup xs)from I.hok a _ ea);obtain⟨o,h1,h2,_⟩:=p;exact xU PySem.W.kitx_tuple I.kIn ⟨o,h1,h2⟩ e (fun z=>nomatch z) h
 | @dK a kvs ea =>
  cases (show u=Value.ref a from rx);obtain⟨_,_,vs,_,p⟩:=(show dR X.prog X.w H s.heap a (.dK kvs)from I.hok a _ ea);obtain⟨o,es,ep,h1,h2,_⟩:=p;exact xU afw I.kIn ⟨o,h1,h2.1⟩ e (fun z=>nomatch z) h
 | @dT a kvs ea =>
  cases (show u=Value.ref a from rx);obtain⟨_,_,xs,_,o,es,ep,h1,h2,_⟩:=(show dR X.prog X.w H s.heap a (.dT kvs)from I.hok a _ ea);exact xU afw I.kIn ⟨o,h1,h2.1⟩ e (fun z=>nomatch z) h
 | @ins a C dx fs ea cl ha hn htk hm =>
  cases (show u=Value.ref a from rx);obtain⟨mA,O,_⟩:=Jd I.hok ea;obtain⟨od,J,_⟩:=O.look;exact xU (PySem.W.kitx_own (cl.get _) cl.hd ha hn htk hm) I.kIn J e (fun z=>nomatch z) h
end
structure jQ(k:Nat)(A:bY):Prop where
 hd:A.handled=none
 dp:A.depth+3*k+5<recursionLimit
 un:A.units+16*k+200<cLine
theorem jQ.mono{j k:Nat}(r:jQ k A)(h:j<=k):jQ j A:=⟨r.hd,by have:=r.dp;lia,by have:=r.un;lia⟩
theorem jQ.deeper{k:Nat}(r:jQ (k+1) A)(env:Env):jQ k (A.deeper env):=
 ⟨r.hd,by have:=r.dp;show A.depth+1+3*k+5<_;lia,by have:=r.un;show A.units+3+16*k+200<_;lia⟩
theorem jQ.in1{k:Nat}(r:jQ (k+1) A):jQ k A.in1:=
 ⟨r.hd,by have:=r.dp;show A.depth+3*k+5<_;lia,by have:=r.un;show A.units+1+16*k+200<_;lia⟩
theorem ZG:(A.under (.builtin "type.__call__" ⟨.ref C::us,kw⟩)).depth=A.depth+1:=by
 first|rfl|simp[YT,Code.weight,Code.isCreation,Code.isGuard,Code.isCaller,agZ,Za,guardIds]
theorem ZJ:(A.under (.builtin "type.__call__" ⟨.ref C::us,kw⟩)).units=A.units+1:=by
 first|rfl|simp[YT,Code.cUnits,agZ,Za]
theorem jQ.make{k:Nat}(r:jQ (k+1) A)(C:Addr)(us:List Value)(kw:List (Str × Value)):jQ k (A.under (.builtin "type.__call__" ⟨.ref C::us,kw⟩)):=
 ⟨r.hd,by have:=r.dp;rw[ZG];lia,by have:=r.un;rw[ZJ];lia⟩
theorem jQ.depth{k:Nat}(r:jQ k A):A.depth<recursionLimit:=by have:=r.dp;lia
theorem jQ.units{k:Nat}(r:jQ k A):A.units+64<cLine:=by have:=r.un;lia
@[reducible] noncomputable def ZL:TA:=fun _ H Q=>Q [] H
@[reducible] noncomputable def CW(ta:TE)(tr:TA):TA:=fun σ H Q=>ta σ H fun x H1=>tr σ H1 fun xs H2=>Q (x::xs) H2
section
variable{pos:Pos}
theorem aq:PA X [] ZL:=fun _ _ _ _ H Q I h=>yq ⟨[],H,I,.nil,h⟩
theorem aj(ha:PE X e te)(hr:PA X es t)(hs:cT (e::es) X.env=(false,eval e X.env)::cT es X.env:=by rfl):PA X (e::es) (CW te t):=by
 intro pos pins s σ H Q I h;rw[hs];show wpAny _ _ (spliced ((false,eval e X.env)::iu pos (cT es X.env))) _ _ s;refine Cw (thn (ha pins s σ H _ I h) fun u s1 ⟨x,H1,I1,r1,q1⟩=>?_);exact thn (hr pos pins s1 σ H1 _ I1 q1) fun us s2 ⟨xs,H2,I2,r2,q2⟩=>⟨x::xs,H2,I2,.cons r1 r2,q2⟩
noncomputable def ail(t:TA):TE:=fun σ H Q=>t σ H fun xs H1=>xs.length<=sizeLine/\∀p,H1 p=none->Q (.ref p) (upd H1 p (.tup xs))
noncomputable def tLst(t:TA):TE:=fun σ H Q=>t σ H fun xs H1=>xs.length<=sizeLine/\∀p,H1 p=none->Q (.ref p) (upd H1 p (.lst xs))
theorem jL{x1}(h:PA X es t):PE X (.Tuple es x1 pos) (ail t):=by
 intro pins s σ H Q I hq;refine wpAny_Tuple_spliced (thn (h pos pins s σ H _ I hq) fun us s1 ⟨xs,H1,I1,r,z,q⟩=>⟨by rw[<-r.length];exact z,?_⟩);have hf:H1 s1.heap.objs.size=none:=I1.hok.fresh (bG _);refine⟨.ref s1.heap.objs.size,upd H1 s1.heap.objs.size (.tup xs),I1.laid (t':=s1.toks) (fun b u e=>dX _ e) (bG _) ?_,rfl,q _ hf⟩;exact⟨z,us,r,⟨_,eE _ rfl,rfl,_,rfl⟩⟩
theorem dG(h:PA X es t):PE X (.List es pos) (tLst t):=by
 intro pins s σ H Q I hq;refine wpAny_List_spliced (thn (h pos pins s σ H _ I hq) fun us s1 ⟨xs,H1,I1,r,z,q⟩=>⟨by rw[<-r.length];exact z,?_⟩);have hf:H1 s1.heap.objs.size=none:=I1.hok.fresh (bG _);refine⟨.ref s1.heap.objs.size,upd H1 s1.heap.objs.size (.lst xs),I1.laid (t':=s1.toks) (fun b u e=>dX _ e) (bG _) ?_,rfl,q _ hf⟩;exact⟨z,us,0,r,eE _ rfl⟩
end
noncomputable abbrev Sp:=List V->Hp->VK->XK->Prop
variable{sp:Sp}
noncomputable abbrev CXT:=List Env->Hp->Shared->XK->Value->Shared->Prop
variable{CX:CXT}
structure NT(P:bh)(w:World)(K:bB)(mg:Str->Option Value)(base:Heap)(A:bY)(outer:List Env)(s:Shared)(H:Hp):Prop where
 frames:A.frames=some outer
 mod:Mod K mg base
 bs:∀b o,base.get? b=some o->s.heap.get? b=some o/\H b=none
 bsz:base.objs.size<=s.heap.objs.size
 Bx:s.heap.FunFrames base outer
 frf:∀b∈frs outer,H b=none
 hok:HOk P w H s.heap
 bare:sW s.gens
noncomputable def CE(outer:List Env)(P:bh)(w:World)(H:Hp)(s:Shared)(Q:VK)(u:Value)(s':Shared):Prop:=
 ∃v H',s'.os=s.os/\sW s'.gens/\Un (frs outer) [] H H' s.heap s'.heap/\HOk P w H' s'.heap/\RelV v u/\Q v H'
noncomputable def CR(CX:CXT)(outer:List Env)(P:bh)(w:World)(H:Hp)(s:Shared)(Q:VK)(E:XK)(r:n8)(s':Shared):Prop:=
 match r with
 | .ok (.ret u)=>CE outer P w H s Q u s'
 | .ok _=>False
 | .error e=>CX outer H s E e s'
structure bZ(P:bh)(w:World)(K:bB)(mg:Str->Option Value)(base:Heap)(CX:CXT)(k:Nat)(f:Addr)(fd:FuncData)(ps:List Str)(sp:Sp):Prop where
 len:∀vs H Q E,sp vs H Q E->vs.length=ps.length
 run:∀(A:bY)(outer:List Env)(s:Shared)(H:Hp)(args:Args)(us:List Value)(vs:List V)(Q:VK)(E:XK),jQ k A->NT P w K mg base A outer s H->FN s fd args (ps.zip us)->Vals vs us->sp vs H Q E ->
  ig (model P w) A (.call (.ref f) args) (CR CX outer P w H s Q E) s
theorem bZ.imp{k:Nat}{f:Addr}{sp':Sp}(F:bZ P w K mg base CX k f fd ps sp)
  (h:∀vs H Q E,sp' vs H Q E->sp vs H Q E):bZ P w K mg base CX k f fd ps sp':=
 ⟨fun vs H Q E q=>F.len vs H Q E (h _ _ _ _ q),fun A outer s H args us vs Q E hr he hb hv hs=>F.run A outer s H args us vs Q E hr he hb hv (h _ _ _ _ hs)⟩
theorem NT.make{s:Shared}(e:NT P w K mg base A outer s H)(C:Addr)(us:List Value)(kw:List (Str × Value)):
  NT P w K mg base (A.under (.builtin "type.__call__" ⟨.ref C::us,kw⟩)) outer s H:=⟨by first|exact e.frames|(simpa[YT,Code.envs,Za,pushEnvs]using e.frames),e.mod,e.bs,e.bsz,e.Bx,e.frf,e.hok,e.bare⟩
theorem NT.in1{s:Shared}(e:NT P w K mg base A outer s H):
  NT P w K mg base A.in1 outer s H:=⟨e.frames,e.mod,e.bs,e.bsz,e.Bx,e.frf,e.hok,e.bare⟩
section
variable{s:Shared}
theorem Inv.env0(I:Inv X pins σ H s):NT X.prog X.w X.K X.mg X.base X.A X.stack s H:=
 ⟨I.ok.frames,I.ok.mod,I.bs,eN I.ok.bsz I.sz,I.stack,I.zN,I.hok,I.bare⟩
theorem Inv.after{Q:VK}(I:Inv X pins σ H s)(h:CE X.stack X.prog X.w H s Q u s'):EP X pins σ Q u s':=by
 obtain⟨v,H',os,bare,un,hok,r,q⟩:=h;obtain⟨hh,g,d,t,os'⟩:=s';obtain rfl:os'=s.os:=os;exact⟨v,H',I.call (h':=hh) (g':=g) (d':=d) (t':=t) (ch:=[]) un hok bare (fun b z=>absurd z (by simp)),r,q⟩
end
@[reducible] noncomputable def alZ(sp:Sp)(dvs:List V)(E:XK)(t:TA):TE:=fun σ H Q=>t σ H fun vs H1=>sp (vs++dvs) H1 Q E
@[reducible] noncomputable def al0(C:Addr)(m:Str)(sp:Sp)(dvs:List V)(E:XK)(ta:TE)(t:TA):TE:=fun σ H Q=>ta σ H fun x H1=>∃a dx fs,x=.ref a/\H1 a=some (.ins C dx fs)/\fs.lookup m=none /\
 t σ H1 fun vs H2=>sp (x::(vs++dvs)) H2 Q E
noncomputable def tMake(C:Addr)(sp:Sp)(dvs:List V)(E:XK)(t:TA):TE:=fun σ H Q=>t σ H fun vs H1=>∀x dx,H1 x=none->H1 dx=none->dx≠x ->
 sp (.ref x::(vs++dvs)) (upd (upd H1 dx (.own x)) x (.ins C dx [])) (fun v H2=>v=.non/\Q (.ref x) H2) E
noncomputable def Binds(K:bB)(fd:FuncData)(ps:List Str)(ds:List Value):Prop:=
 ∀(s:Shared)(us:List Value),K.In s.heap->(us++ds).length=ps.length->FN s fd ⟨us,[]⟩ (ps.zip (us++ds))
theorem Binds.all(h:∀us:List Value,us.length=ps.length->Fz fd ⟨us,[]⟩=pure (ps.zip us)):Binds K fd ps []:=fun s us _ hl=>by
 rw[Eu]at hl ⊢;exact .of_eq (h us hl)
noncomputable def Passes(CX:CXT)(X:Cx)(E:XK):Prop:=∀(pins:List (Addr × Obj)) (σ:St) (H:Hp) (s:Shared) (e:Value) (s':Shared),Inv X pins σ H s->CX X.stack H s E e s'->X.xe e s'
section
variable{k:Nat}{f:Addr}{dvs:List V}{ds:List Value}{E:XK}{pos apos:Pos}{o:Expr}
theorem ZM{s:Shared}{Q:VK}(F:bZ X.prog X.w X.K X.mg X.base CX k f fd ps sp)(hr:jQ k X.A)(hb:Binds X.K fd ps ds)(hd:Vals dvs ds)(hx:Passes CX X E)
  (I:Inv X pins σ H s) (r:Vals vs us) (h:sp (vs++dvs) H Q E):wpAny (model X.prog X.w) X.A (call (.ref f) us) (EP X pins σ Q) X.xe s:=by
 have r2:Vals (vs++dvs) (us++ds):=r.append hd;have hl:(us++ds).length=ps.length:=by rw[<-r2.length];exact F.len _ _ _ _ h
 refine JT (vm (F.run X.A X.stack s H ⟨us,[]⟩ (us++ds) (vs++dvs) Q E hr I.env0 (hb s us I.kIn hl) r2 h) fun r s' hq=>?_);cases r with
 |error e=>exact hx pins σ H s e s' I hq
 |ok fl =>
  cases fl with
  |ret u=>exact I.after hq
  |next=>exact lB hq
  |brk=>exact lB hq
  |cont=>exact lB hq
theorem aky(F:bZ X.prog X.w X.K X.mg X.base CX k f fd ps sp)(hr:jQ k X.A)(hg:Gl X x)(hm:X.mg x=some (.ref f))(hk:vq X.K (.ref f)=true)(hb:Binds X.K fd ps ds)(hd:Vals dvs ds)(hx:Passes CX X E)
  (ha:PA X (e::es) t) (hdb:(x == ("__debug__" : Str))=false:=by decide) (he:cT (e::es) X.env=(false,eval e X.env)::cT es X.env:=by rfl) (hpl:(iu pos (cT es X.env)).any (·.1)=false:=by rfl):
  PE X (.Call (.Name x p) (e::es) [] pos) (alZ sp dvs E t):=by
 intro pins s σ H Q I h;refine xr (CQ I hg hm ?_ hdb);refine X7 (h₀:=X.base) I.ok.mod.kin hk (thn (ha pos pins s σ H _ I h) fun us s1 ⟨vs,H1,I1,r,q⟩=>⟨I1.kIn,?_⟩) he hpl;exact ZM F hr hb hd hx I1 r q
theorem eV(he:PE X o ta)(c:Cls X.K C)(hm:Meth X.K C m f)(F:bZ X.prog X.w X.K X.mg X.base CX k f fd ps sp)(hr:jQ k X.A)(hb:Binds X.K fd ps ds)(hd:Vals dvs ds)(hx:Passes CX X E)(ha:PA X (e::es) t)
  (hst:cT (e::es) X.env=(false,eval e X.env)::cT es X.env:=by rfl) (hpl:(iu pos (cT es X.env)).any (·.1)=false:=by rfl)
  (ht:eval (.Call (.Attribute o m apos) (e::es) [] pos) X.env=(do
   let ov <-eval o X.env
   JX apos.atName
   let (f,first) <-xR [ov] (JV ov m pl)
   XS pos f first (iu pos (cT (e::es) X.env)) (FJ pos (Fp [] X.env))):=by rfl) :
  PE X (.Call (.Attribute o m apos) (e::es) [] pos) (al0 C m sp dvs E ta t):=by
 intro pins s σ H Q I h;refine X4 (pl:=pl) (thn (he pins s σ H _ I h) fun u s1 ⟨x,H1,I1,rx,a,dx,fs,ex,ea,l,q⟩=>?_) ht;subst ex;obtain rfl:u=Value.ref a:=rx;refine BJ I1 ea c hm l ?_;refine X7 (first:=[.ref a]) (h₀:=X.base) I.ok.mod.kin hm.kp (thn (ha pos pins s1 σ H1 _ I1 q) fun us s2 ⟨vs,H2,I2,r,q2⟩=>⟨I2.kIn,?_⟩) hst hpl;exact ZM (us:=.ref a::us) (vs:=.ref a::vs) F hr hb hd hx I2 (.cons rfl r) q2
theorem Vb(he:PE X o ta)(c:Cls X.K C)(hm:Meth X.K C m f)(F:bZ X.prog X.w X.K X.mg X.base CX k f fd ps sp)(hr:jQ k X.A)(hb:Binds X.K fd ps ds)(hd:Vals dvs ds)(hx:Passes CX X E)
  (ht:eval (.Call (.Attribute o m apos) [] [] pos) X.env=(do
   let ov <-eval o X.env
   JX apos.atName
   let (f,first) <-xR [ov] (JV ov m pl)
   XS pos f first (iu pos (cT [] X.env)) (FJ pos (Fp [] X.env))):=by rfl) :
  PE X (.Call (.Attribute o m apos) [] [] pos) (al0 C m sp dvs E ta ZL):=by
 intro pins s σ H Q I h;refine X4 (pl:=pl) (thn (he pins s σ H _ I h) fun u s1 ⟨x,H1,I1,rx,a,dx,fs,ex,ea,l,q⟩=>?_) ht;subst ex;obtain rfl:u=Value.ref a:=rx;refine BJ I1 ea c hm l ?_;exact afs (first:=[.ref a]) I1.kIn hm.kp (ZM (us:=[.ref a]) (vs:=[.ref a]) F hr hb hd hx I1 (.cons rfl .nil) q)
structure Mk(K:bB)(C f:Addr):Prop where
 makes:Q6 K C=true
 init:nA K (.ref C) "__init__" = some (some (.ref f))
 fn:Kc K (.ref f)=true
 kp:vq K (.ref C)=true
theorem ain{s:Shared}{Q:VK}(M:Mk X.K C f)(F:bZ X.prog X.w X.K X.mg X.base CX k f fd ps sp)(hr:jQ (k+1) X.A)(hb:Binds X.K fd ps ds)(hd:Vals dvs ds)
  (hx:Passes CX X E) (I:Inv X pins σ H s) (r:Vals vs us)
  (h:∀x dx,H x=none->H dx=none->dx≠x->sp (.ref x::(vs++dvs)) (upd (upd H dx (.own x)) x (.ins C dx [])) (fun v H2=>v=.non/\Q (.ref x) H2) E):
  wpAny (model X.prog X.w) X.A (call (.ref C) us) (EP X pins σ Q) X.xe s:=by
 have hq:=h (s.heap.objs.size+1) s.heap.objs.size (I.hok.fresh (sS _)) (I.hok.fresh (bG _)) (cH (yc _));have I2:=Inv.made (C:=C) I;have r2:Vals (V.ref (s.heap.objs.size+1)::(vs++dvs)) (Value.ref (s.heap.objs.size+1)::(us++ds)):=.cons rfl (r.append hd);have hl:(Value.ref (s.heap.objs.size+1)::us++ds).length=ps.length:=by
  have e:=r2.length;rw[F.len _ _ _ _ hq]at e;exact e.symm
 refine JT (aik (f:=f) I.kIn M.makes M.init (beq_iff_eq.mp M.fn) (vm (F.run _ X.stack _ _ ⟨Value.ref (s.heap.objs.size+1)::us,[]⟩ (Value.ref (s.heap.objs.size+1)::(us++ds)) _ _ E (hr.make C us [])
  (I2.env0.make C us []) (hb _ (Value.ref (s.heap.objs.size+1)::us) I2.kIn hl) r2 hq) fun r s' hq'=>?_))
 cases r with
 |error e=>exact hx pins σ _ _ e s' I2 hq'
 |ok fl =>
  cases fl with
  |ret u =>
   obtain⟨v,H',I3,rv,ev,q3⟩:=I2.after hq';subst ev;exact⟨rv,⟨V.ref (s.heap.objs.size+1),H',I3,rfl,q3⟩⟩
  |next=>exact lB hq'
  |brk=>exact lB hq'
  |cont=>exact lB hq'
theorem iz(M:Mk X.K C f)(F:bZ X.prog X.w X.K X.mg X.base CX k f fd ps sp)(hr:jQ (k+1) X.A)(hg:Gl X x)(hm:X.mg x=some (.ref C))(hb:Binds X.K fd ps ds)(hd:Vals dvs ds)(hx:Passes CX X E)
  (ha:PA X (e::es) t) (hdb:(x == ("__debug__" : Str))=false:=by decide) (he:cT (e::es) X.env=(false,eval e X.env)::cT es X.env:=by rfl) (hpl:(iu pos (cT es X.env)).any (·.1)=false:=by rfl):
  PE X (.Call (.Name x p) (e::es) [] pos) (tMake C sp dvs E t):=by
 intro pins s σ H Q I h;refine xr (CQ I hg hm ?_ hdb);refine X7 (h₀:=X.base) I.ok.mod.kin M.kp (thn (ha pos pins s σ H _ I h) fun us s1 ⟨vs,H1,I1,r,q⟩=>⟨I1.kIn,?_⟩) he hpl;exact ain M F hr hb hd hx I1 r q
end
section
variable{k:Nat}{f:Addr}{ks:List Str}{E:XK}{pos apos kpos:Pos}{o:Expr}{kws:List Bl}{tk:TA}{nm:Option Str}
structure KBinds(K:bB)(fd:FuncData)(ps ks:List Str)(g:List Value->List Value->List Value)(gV:List V->List V->List V):Prop where
 to:∀(s:Shared)(us ws:List Value),K.In s.heap->(g us ws).length=ps.length->FN s fd ⟨us,ks.zip ws⟩ (ps.zip (g us ws))
 rel:∀{vs:List V}{us:List Value}{zs:List V}{ws:List Value},Vals vs us->Vals zs ws->Vals (gV vs zs) (g us ws)
variable{g:List Value->List Value->List Value}{gV:List V->List V->List V}
end
structure aK(N P:List Str)(sc:Scope):Prop where
 kind:sc.kind=.function
 co:sc.isCoroutine=false
 gen:sc.isGenerator=false
 nd:N.Nodup
 pre:N.take P.length=P
 par:∀x∈P,sc.names.lookup x=some .local\/sc.names.lookup x=some .cell
 aoq:∀y∈sc.names,y.2≠.free
theorem Oz:∀{binds:List (Str × Value)} {m:Str->Option Value},(∀v,(x,v)∉binds)->bindL kindOf binds m x=m x
 |[],_,_=>rfl
 |(n,v)::r,m,h=>by
  unfold bindL;rw[Oz fun w hw=>h w (fX _ hw)];split
  ·have:x≠n:=by rintro rfl;exact h v dO
   simp[this]
  ·rfl
theorem OD:∀{binds:List (Str × Value)} {m:Str->Option Value},(∀v,(x,v)∉binds)->bindC kindOf binds m x=m x
 |[],_,_=>rfl
 |(n,v)::r,m,h=>by
  unfold bindC;rw[OD fun w hw=>h w (fX _ hw)];split
  ·rfl
  ·have:x≠n:=by rintro rfl;exact h v dO
   simp[this]
theorem OJ{v:Value}:∀{P:List Str}{vs:List Value}{i:Nat}{m:Str->Option Value},P.Nodup->P[i]? = some x->vs[i]? = some v->kindOf x=some .local ->
  bindL kindOf (P.zip vs) m x=some v
 |[],_,_,_,_,h,_,_=>by simp at h
 |_::_,[],_,_,_,_,h,_=>by simp at h
 |p::P,w::vs,0,m,nd,h1,h2,hk=>by
  simp at h1 h2;subst h1;subst h2;show bindL kindOf ((p,w)::P.zip vs) m p=_;unfold bindL;rw[Oz fun v hv=>(jJ.mp nd).1 (Xe hv).1,if_pos hk];simp
 |p::P,w::vs,i+1,m,nd,h1,h2,hk=>by
  show bindL kindOf ((p,w)::P.zip vs) m x=_;unfold bindL;exact OJ (i:=i) (jJ.mp nd).2 (by simpa using h1) (by simpa using h2) hk
theorem O1{v:Value}:∀{P:List Str}{vs:List Value}{i:Nat}{m:Str->Option Value},P.Nodup->P[i]? = some x->vs[i]? = some v->kindOf x≠some .local ->
  bindC kindOf (P.zip vs) m x=some v
 |[],_,_,_,_,h,_,_=>by simp at h
 |_::_,[],_,_,_,_,h,_=>by simp at h
 |p::P,w::vs,0,m,nd,h1,h2,hk=>by
  simp at h1 h2;subst h1;subst h2;show bindC kindOf ((p,w)::P.zip vs) m p=_;unfold bindC;rw[OD fun v hv=>(jJ.mp nd).1 (Xe hv).1,if_neg hk];simp
 |p::P,w::vs,i+1,m,nd,h1,h2,hk=>by
  show bindC kindOf ((p,w)::P.zip vs) m x=_;unfold bindC;exact O1 (i:=i) (jJ.mp nd).2 (by simpa using h1) (by simpa using h2) hk
noncomputable def start(N:List Str)(vs:List V):St:=vs.map some++vd (N.length-vs.length) none
noncomputable def BK(CX:CXT)(P:bh)(w:World)(K:bB)(mg:Str->Option Value)(base:Heap)(N:List Str)(qual:Str)(scope:Scope)(f:Addr)(cd:Value)(A:bY)(outer:List Env)(s:Shared)(H:Hp)(E:XK):Cx where
 prog:=P
 w:=w
 K:=K
 mg:=mg
 base:=base
 A:=A.deeper (j4 qual scope s.heap.objs.size f cd)
 N:=N
 s₀:=s
 H₀:=H
 env:=j4 qual scope s.heap.objs.size f cd
 outer:=outer
 stack:=j4 qual scope s.heap.objs.size f cd::outer
 ex:=[]
 calm:=true
 fn:=fun _=>true
 pn:=[]
 xe:=fun e s'=>wpAny (model P w) (A.deeper (j4 qual scope s.heap.objs.size f cd)) (leaving (j4 qual scope s.heap.objs.size f cd) e) (fun _ s''=>CX outer H s E e s'') (fun e' s''=>CX outer H s E e' s'') s'
theorem Vc{sc:Scope}(h:sc.names.lookup x=some .cell):∃c,(XH n sc.names []).lookup x=some c:=by
 have q:=afr sc.names n [] (.inl h);exact YZ.mp q
theorem adb{f:Addr}{cd:Value}{s s1:Shared}{E:XK} 
  (S:aK N ps scope) (hd:A.handled=none) (e0:NT P w K mg base A outer s H) (hl:vs.length=ps.length) (r:Vals vs us)
  (x:InCallC s s.heap.objs.size (bindL (j4 qual scope s.heap.objs.size f cd).kindOf (ps.zip us) fun _=>none) (XH (s.heap.objs.size+1) scope.names []) (bindC (j4 qual scope s.heap.objs.size f cd).kindOf (ps.zip us) fun _=>none) s1):
  Inv (BK CX P w K mg base N qual scope f cd A outer s H E) [] (start N vs) H s1:=by
 have hpl:ps.length<=N.length:=by have:=congrArg mC S.pre;rw[iw]at this;lia
 obtain ⟨h1,tk,rfl,hk⟩:=x.done;have noA:∀ b:Addr,b∉(BK CX P w K mg base N qual scope f cd A outer s H E).ex:=fun b z=>absurd (show b∈([]:List Addr) from z) (by simp);refine ⟨⟨e0.mod,S.kind,rfl,rfl,bG _,fun y z c h1 h2=>?_,fun y hy=>?_,fun y c _ h=>?_,fun _=>hd,Around.frames_deeper e0.frames,.inr ⟨rfl,rfl⟩,fun b z=>absurd z (noA b),e0.bs,e0.bsz,fun b _ _=>noA b,fun b z=>absurd z (noA b),e0.Bx,e0.frf⟩,
  rfl,e0.bare,Un.kept hk,⟨_,x.toInCall.ns,fun i y v h1 h2 h3=>?_⟩,fun y c h=>⟨_,x.cell y c h⟩,e0.hok.fresh (bG _),fun y c h=>?_,fun p hp=>absurd (show p∈([]:List (Addr × Obj)) from hp) (by simp),e0.hok.kept hk,?_⟩
 ·exact name_of_addr x.apart (Ez h1) (Ez h2)
 ·have hy:scope.names.lookup y=some .cell\/scope.names.lookup y=some .free:=hy;rcases hy with hy|hy
  ·exact Vc hy
  ·exact absurd rfl (S.aoq _ (Ez hy))
 ·exact qP (x.above y c (Ez h))
 ·have hi:i<vs.length:=by
   unfold start at h2;by_cases hi:i<vs.length
   ·exact hi
   ·rw[Jw (by simpa using hi)]at h2;rw[aej]at h2;split at h2 <;> cases h2
  have ha:vs[i]? = some v:=by
   unfold start at h2;rw[Jx (by simpa using hi),gQ]at h2;cases e:vs[i]? with
   |none=>rw[e]at h2;cases h2
   |some a=>rw[e]at h2;cases h2;rfl
  obtain⟨u,hu,rv⟩:=r.get ha;have hp:ps[i]? = some y:=by
   rw[<-S.pre,List.getElem?_take_of_lt tb_g%];exact h1
  have ndP:ps.Nodup:=by rw[<-S.pre];exact S.nd.sublist (Xa _ _)
  refine⟨u,rv,?_⟩;rcases S.par y (List.mem_of_getElem? hp)with k|k
  ·exact .inl ⟨k,OJ ndP hp hu k⟩
  ·obtain⟨c,e⟩:=Vc (n:=s.heap.objs.size+1) k;refine .inr ⟨.inl k,c,e,?_⟩;have q:=x.cell y c e;rw[O1 ndP hp hu (by show scope.names.lookup y≠_;rw[k];decide)]at q;exact q
 ·exact e0.hok.fresh (qP (x.above y c (Ez h)))
 ·unfold start;show _=N.length;rw[fj,aV,Ju];lia
theorem al1{k:Nat}{f:Addr}{params:Arguments}{dV kV doc pm cdv ct oc:Value}{an od:Option Addr}
  {osl:Array (Option Value)} {N ps:List Str} {sp:Sp} (lk:K.lookup f=some ⟨oc,od,.func (oh name qual params body scope dV kV doc pm an cdv ct),osl⟩) (hcd:Ka K cdv qual=true) (S:aK N ps scope)
  (len:∀vs H Q E,sp vs H Q E->vs.length=ps.length)
  (hbody:∀ (A:bY) (outer:List Env) (s:Shared) (H:Hp) (vs:List V) (Q:VK) (E:XK),jQ k (A.deeper (j4 qual scope s.heap.objs.size f cdv))->sp vs H Q E ->
   ∃ t,PSs (BK CX P w K mg base N qual scope f cdv A outer s H E) body t/\t { nx:=fun _ H'=>Q .non H',rt:=Q } (start N vs) H) :
  bZ P w K mg base CX (k+1) f (oh name qual params body scope dV kV doc pm an cdv ct) ps sp:=by
 refine⟨len,fun A outer s H args us vs Q E hr e0 hb r hsp=>?_⟩;have hl:=len _ _ _ _ hsp;have KX:K.In s.heap:=e0.mod.kin.keeps fun b o e=>(e0.bs b o e).1;have lim:s.heap.NoLimit:=e0.mod.nolimit.keeps fun b o e=>(e0.bs b o e).1;have hkind:∀y∈ps.zip us,scope.names.lookup y.1=some .local\/(scope.names.lookup y.1=some .cell/\((XH (s.heap.objs.size+1) scope.names []).lookup y.1).isSome=true):=fun⟨n,v⟩ hy=>by
  rcases S.par n (Xe hy).1 with q|q
  ·exact .inl q
  ·exact .inr ⟨q,afr _ _ _ (.inl q)⟩
 refine codeAny_call_function hr.depth (KX _ _ lk) rfl S.co S.gen rfl (PySem.W.codeRec_of KX hcd) (hb _ _ _ _ ?_);refine wpAny_newFunctionEnv_cells S.kind hkind fun env he s1 x=>?_;subst he;refine⟨lim.keeps x.toInCall.keep,codeAny_func ?_⟩;obtain⟨t,ht,hq⟩:=hbody A outer s H vs Q E (hr.deeper _) hsp;have I:Inv (BK CX P w K mg base N qual scope f cdv A outer s H E) [] (start N vs) H s1:=adb S hr.hd e0 hl r x;refine fP (ht [] s1 (start N vs) H _ I hq) (fun fl s' hs=>?_) fun e s' hs=>hs;have fin:∀{σ':St}{H':Hp}{v:V}{u:Value},Inv (BK CX P w K mg base N qual scope f cdv A outer s H E) [] σ' H' s'->RelV v u->Q v H'->CE outer P w H s Q u s':=
  fun {σ' H' v u} J rv q=>⟨v,H',J.os,J.bare,J.base,J.hok,rv,q⟩
 cases fl with
 |ret u =>
  obtain⟨v,σ',H',J,rv,q⟩:=hs;exact fin J rv q
 |next =>
  obtain⟨σ',H',J,q⟩:=hs;exact fin (v:=V.non) (u:=Value.none) J rfl q
 |brk =>
  obtain⟨_,_,_,q⟩:=hs;exact lB q
 |cont =>
  obtain⟨_,_,_,q⟩:=hs;exact lB q
section
variable{pos:Pos}{id T:String}{r:List V->Hp->VK->Prop}
@[reducible] noncomputable def tCB(r:List V->Hp->VK->Prop)(t:TA):TE:=fun σ H Q=>t σ H fun vs H1=>r vs H1 Q
theorem aO(hc:ju X (.builtin id) r)(hg:Gl X x)(hm:X.mg x=none)(hv:vh x=some (.builtin id))(ha:PA X (e::es) t)(hn:x ≠ "__name__" := by decide)(hdb:(x == ("__debug__" : Str))=false:=by decide)
  (he:cT (e::es) X.env=(false,eval e X.env)::cT es X.env:=by rfl) (hpl:(iu pos (cT es X.env)).any (·.1)=false:=by rfl):PE X (.Call (.Name x p) (e::es) [] pos) (tCB r t):=by
 intro pins s σ H Q I h;refine xr (j7 I hg hm hv ?_ hn hdb);exact af7 (thn (ha pos pins s σ H _ I h) fun us s1 ⟨vs,H1,I1,r1,q1⟩=>hc pins s1 σ H1 vs us Q I1 r1 q1) he hpl
theorem lg(hc:ju X (.type T) r)(hg:Gl X x)(hm:X.mg x=none)(hv:vh x=some (.type T))(ha:PA X (e::es) t)(hn:x ≠ "__name__" := by decide)(hdb:(x == ("__debug__" : Str))=false:=by decide)
  (he:cT (e::es) X.env=(false,eval e X.env)::cT es X.env:=by rfl) (hpl:(iu pos (cT es X.env)).any (·.1)=false:=by rfl):PE X (.Call (.Name x p) (e::es) [] pos) (tCB r t):=by
 intro pins s σ H Q I h;refine xr (j7 I hg hm hv ?_ hn hdb);exact Ab (thn (ha pos pins s σ H _ I h) fun us s1 ⟨vs,H1,I1,r1,q1⟩=>hc pins s1 σ H1 vs us Q I1 r1 q1) he hpl
end
end L2
namespace HT
open PySem PyProof.Rows
section
open PySem.SeqAt
open PySem.AutoSeq1 (wpAny_loadPart')
open PySem.MeetsSeq PySem.MeetsSeq2 PySem.MeetsSeq3
end
section
variable{prog:bh}{w:World}{A:bY}{E:Value->Shared->Prop}{s:Shared}
noncomputable def sIx(n d:Nat):Option Int->Nat
 |none=>d
 |some v=>if v<0 then(v+(n:Int)).toNat else min v.toNat n
end
end HT
namespace L2
open PySem PySem.Spec PyProof.Rows
variable{pins:List (Addr × Obj)}{kvs:List (List Key × V)}{xs:List (List Key × Addr × Value)}{E Q:Value->Shared->Prop}{H H':Hp}{X:Cx}{u v:Value}{a:Addr}{σ:St}{o:Option V}{w:World}{A:bY}{y x:V}{its:List Value}{P:bh}{α:Type}{t' n j:Nat}{e:Expr}{h':Heap}{T:String}{i:Int}
noncomputable abbrev TO:=St->Hp->(Option Int->Hp->Prop)->Prop
noncomputable def PO(X:Cx)(e:Option Expr)(t:TO):Prop:=
 ∀(pins:List (Addr × Obj)) (s:Shared) (σ:St) (H:Hp) (Q:Option Int->Hp->Prop),Inv X pins σ H s->t σ H Q ->
  wpAny (model X.prog X.w) X.A (evalPart e X.env) (fun u s'=>∃o H',Inv X pins σ H' s'/\IsPart u o/\Q o H') X.xe s
noncomputable def akz:TO:=fun _ H Q=>Q none H
noncomputable def tPart(t:TE):TO:=fun σ H Q=>t σ H fun x H1=>∃i,x=.int i/\Q (some i) H1
theorem intsAre_of{ns:List Int}:∀{us:List Value},Vals (ns.map V.int) us->IntsAre us ns:=by
 induction ns with
 |nil=>intro us r;rw[JF]at r;cases r;exact .nil
 |cons n ns ih =>
  intro us r;rw[fU]at r;cases r with
  |cons r1 r2 =>
   obtain⟨t,e⟩:=r1;subst e;exact .cons n t (ih r2)
section
variable{te:TE}{lo hi:Option Expr}{tl th:TO}{pos p2:Pos}
theorem iB:PO X none akz:=by
 intro pins s σ H Q I h;rw[afh];exact aU ⟨none,H,I,.none,h⟩
theorem dW(h:PE X e te):PO X (some e) (tPart te):=by
 intro pins s σ H Q I hw;rw[evalPart_some];refine thn (h pins s σ H _ I hw) fun u s1 ⟨x,H1,I1,r1,q1⟩=>?_;obtain⟨i,rfl,q⟩:=q1;obtain⟨t,rfl⟩:=r1;exact⟨some i,H1,I1,.int i t,q⟩
noncomputable def SlR(X:Cx)(r:V->Option Int->Option Int->Hp->VK->Prop):Prop:=
 ∀(pins:List (Addr × Obj)) (s:Shared) (σ:St) (H:Hp) (x:V) (v vl vu:Value) (lo hi:Option Int) (sl:Addr) (Q:VK),Inv X pins σ H s->RelV x v->s.heap.IsSliceOf sl vl vu .none->IsPart vl lo->IsPart vu hi->r x lo hi H Q ->
  ∃T id,xM (.type T) "__getitem__" = pure (some (.builtin id))/\s.TypeIs v T/\wpAny (model X.prog X.w) X.A (QM v (.ref sl)) (EP X pins σ Q) X.xe s
noncomputable def tSl(r:V->Option Int->Option Int->Hp->VK->Prop)(te:TE)(tl th:TO):TE:=fun σ H Q=>te σ H fun x H1=>tl σ H1 fun l H2=>th σ H2 fun u H3=>r x l u H3 Q
theorem jz{r:V->Option Int->Option Int->Hp->VK->Prop}(hr:SlR X r)(he:PE X e te)(hl:PO X lo tl)(hu:PO X hi th):PE X (.Subscript e (.Slice lo hi none p2) pos) (tSl r te tl th):=by
 intro pins s σ H Q I h;refine YB (thn (he pins s σ H _ I h) fun v s1 ⟨x,H1,I1,r1,q1⟩=>?_);refine wpAny_Slice (thn (hl pins s1 σ H1 _ I1 q1) fun vl s2 ⟨l,H2,I2,pl,q2⟩=>thn (hu pins s2 σ H2 _ I2 q2) fun vu s3 ⟨u,H3,I3,pu,q3⟩=>?_);rw[afh];refine aU ?_;have I4:Inv X pins σ H3 { s3 with heap:=s3.heap.push { cls:=.type "slice",data:=.fields #[vl,vu,.none] } }:=I3.kept (t':=s3.toks) fun b ob q=>dX _ q;obtain⟨T,id,hT,ht,hg⟩:=hr pins { s3 with heap:=s3.heap.push { cls:=.type "slice",data:=.fields #[vl,vu,.none] } } σ H3 x v vl vu l u s3.heap.objs.size Q I4 r1 (agV ..) pl pu q3;show wpAny (model X.prog X.w) X.A (Rt e (.Slice lo hi none p2) v (.ref s3.heap.objs.size)) (EP X pins σ Q) X.xe { s3 with heap:=s3.heap.push { cls:=.type "slice",data:=.fields #[vl,vu,.none] } };exact YC (ops:=[.ref s3.heap.objs.size,v]) ht hT hg (by with_unfolding_all rfl)
noncomputable def Gu(xs:List V)(lo hi:Option Int):List V:=(xs.drop (HT.sIx xs.length 0 lo)).take (HT.sIx xs.length xs.length hi-HT.sIx xs.length 0 lo)
theorem Vd(xs:List V)(lo hi:Option Int):(Gu xs lo hi).length<=xs.length:=by
 unfold Gu;rw[iw,JB];lia
end
noncomputable def ixN(n:Nat)(i:Int):Option Nat:=if 0<=i then(if i<n then some i.toNat else none)else if -(n:Int)<=i then some (i+n).toNat else none
noncomputable def atI{α:Type}(xs:List α)(i:Int):Option α:=(ixN xs.length i).bind fun j=>xs[j]?
theorem aa7(h:ixN n i=some j):seqIndex? i n=some j/\j<n /\ -(n:Int)<=i/\i<n:=by
 unfold ixN at h;by_cases h0:0<=i
 ·rw[if_pos h0]at h;by_cases h1:i<n
  ·rw[if_pos h1]at h;have e:i.toNat=j:=cN h;exact⟨by rw[Xv h0 h1,e],by lia,by lia,h1⟩
  ·rw[if_neg h1]at h;cases h
 ·rw[if_neg h0]at h;by_cases h1:-(n:Int)<=i
  ·rw[if_pos h1]at h;have e:(i+n).toNat=j:=cN h;exact⟨by rw[Xu tb_g% h1,e],by lia,h1,by lia⟩
  ·rw[if_neg h1]at h;cases h
theorem Ss{xs:List α}{v:α}(h:atI xs i=some v):∃j,seqIndex? i xs.length=some j/\xs[j]? = some v/\j<xs.length /\ -(xs.length:Int)<=i/\i<xs.length:=by
 unfold atI at h;cases e:ixN xs.length i with
 |none=>rw[e]at h;cases h
 |some j =>
  rw[e]at h;obtain⟨h1,h2,h3,h4⟩:=aa7 e;exact⟨j,h1,h,h2,h3,h4⟩
theorem oY{xs:List α}{v:α}(h:xs[j]? = some v):atI xs (j:Int)=some v:=by
 have hj:j<xs.length:=(gn.mp h).1;have e:ixN xs.length (j:Int)=some j:=by
  unfold ixN;rw[if_pos tb_g%,if_pos tb_g%];simp
 unfold atI;rw[e];exact h
noncomputable def akA(b:Expr):Prop:=∀o i,Xw b false o i=operate [o,i] (QM o i)
noncomputable def IxR(X:Cx)(r:R2):Prop:=
 ∀(value slice:Expr) (pins:List (Addr × Obj)) (s:Shared) (σ:St) (H:Hp) (x y:V) (v u:Value) (Q:VK),Inv X pins σ H s->RelV x v->RelV y u->r x y H Q ->
  Xw slice false v u=operate [v,u] (QM v u)->wpAny (model X.prog X.w) X.A (Rt value slice v u) (EP X pins σ Q) X.xe s
noncomputable def MtR(X:Cx)(id:String)(r:V->List V->Hp->VK->Prop):Prop:=
 ∀(pins:List (Addr × Obj)) (s:Shared) (σ:St) (H:Hp) (x:V) (xs:List V) (v:Value) (us:List Value) (Q:VK),Inv X pins σ H s->RelV x v->Vals xs us->r x xs H Q ->
  wpAny (model X.prog X.w) X.A (call (.builtin id) (v::us)) (EP X pins σ Q) X.xe s
section
variable{a b:Expr}{ta tb:TE}{pos:Pos}
theorem IxR.or{r r':R2}(h:IxR X r)(h':IxR X r'):IxR X (fun x y H Q=>r x y H Q\/r' x y H Q):=by
 intro value slice pins s σ H x y v u Q I rx ry q hs;rcases q with q|q
 ·exact h value slice pins s σ H x y v u Q I rx ry q hs
 ·exact h' value slice pins s σ H x y v u Q I rx ry q hs
theorem bC{r:R2}(hr:IxR X r)(ha:PE X a ta)(hb:PE X b tb)(hs:akA b):PE X (.Subscript a b pos) (tOp r ta tb):=by
 intro pins s σ H Q I h;exact YB (binT ha hb I h fun v u s2 x y H2 I2 rx ry q=>hr a b pins s2 σ H2 x y v u Q I2 rx ry q (hs _ _))
noncomputable def rIxL(K:bB):R2:=fun x y H Q=>∃p xs i v,x=.ref p/\y=.int i/\SqL K H p xs/\atI xs i=some v/\Q v H
noncomputable def rIxT(K:bB):R2:=fun x y H Q=>∃p xs i v,x=.ref p/\y=.int i/\SqT K H p xs/\atI xs i=some v/\Q v H
noncomputable def rIxS:R2:=fun x y H Q=>∃z i c,x=.str z/\y=.int i/\z.length<=sizeLine/\atI z.cps.toList i=some c/\Q (.str ⟨#[c]⟩) H
theorem akB:IxR X (rIxL X.K):=by
 intro value slice pins s σ H x y v u Q I rx ry h hs;obtain⟨p,xs,i,z,rfl,rfl,hq,he,q⟩:=h;cases rx;obtain⟨t,rfl⟩:=ry;obtain⟨its,r,pl,hz⟩:=I.list hq;obtain⟨j,h1,h2,h3,h4,h5⟩:=Ss he;obtain⟨w,ew,rw'⟩:=r.get h2;have hl:=r.length;have hn:=KZ;have fin:EP X pins σ Q w s:=⟨z,H,I,rw',q⟩;by_cases h0:0<=i
 ·have hj:i.toNat=j:=by
   rw[Xv h0 h5]at h1;exact cN h1
  exact item_listR pl.isList h0 tb_g% (by rw[hj];simpa using ew) fin hs
 ·have hj:(i+(its.toArray.size:Int)).toNat=j:=by
   rw[Xu tb_g% h4]at h1;rw[dh,<-hl];exact cN h1
  exact agb (x:=w) pl.isList.typeIs Xj.lookup
   (wpAny_getItem_list_neg (Q:=fun r s'=>r=w/\EP X pins σ Q r s') pl.isList tb_g% (by rw[dh] <;> lia) tb_g% (by rw[hj];simpa using ew) ⟨rfl,fin⟩) hs
theorem aor:IxR X (rIxT X.K):=by
 intro value slice pins s σ H x y v u Q I rx ry h hs;obtain⟨p,xs,i,z,rfl,rfl,hq,he,q⟩:=h;cases rx;obtain⟨t,rfl⟩:=ry;obtain⟨its,r,pl,hz⟩:=I.tuple hq;obtain⟨j,h1,h2,h3,h4,h5⟩:=Ss he;obtain⟨w,ew,rw'⟩:=r.get h2;have hl:=r.length;have hn:=KZ;have fin:EP X pins σ Q w s:=⟨z,H,I,rw',q⟩;exact agb (x:=w) pl.typeIs slot_tuple_getitem.lookup
  (getItem_tuple (j:=j) (Q:=fun r s'=>r=w/\EP X pins σ Q r s') pl tb_g% tb_g% (by rw[dh,<-hl];exact h1) (by simpa using ew) ⟨rfl,fin⟩) hs
theorem aos:IxR X rIxS:=by
 intro value slice pins s σ H x y v u Q I rx ry h hs;obtain⟨z,i,c,rfl,rfl,hz,he,q⟩:=h;obtain⟨t,rfl⟩:=rx;obtain⟨t',rfl⟩:=ry;obtain⟨j,h1,h2,h3,h4,h5⟩:=Ss he;have hl:z.cps.toList.length=z.length:=by simp[afD]
 rw [hl] at h1 h4 h5;have hn:=KZ;exact YC (Fw s z t) slot_str_getitem.lookup (getItem_str (c:=c) (by
  have e1:decide (i < -(2 ^ 63:Int))=false:=decide_eq_false tb_g%;have e2:decide (i>=2 ^ 63)=false:=decide_eq_false tb_g%;rw [e1,e2,Yl]) (by rw [h1];simpa using h2) ⟨.str ⟨#[c]⟩,H,I.tok _,⟨_,rfl⟩,q⟩) hs
theorem ZP(its:List Value)(n j:Nat)(u:Value):mG (·.setIfInBounds j u) { cls:=.type "list",data:=.seq its.toArray n }={ cls:=.type "list",data:=.seq (its.set j u).toArray n }:=by
 simp[mG]
theorem Inv.lst{pins:List (Addr × Obj)}{σ:St}{H:Hp}{s:Shared}{p:Addr}{xs:List V}(I:Inv X pins σ H s)(h:H p=some (.lst xs)):
  ∃(its:List Value)(n:Nat),Vals xs its/\s.heap.get? p=some { cls:=.type "list",data:=.seq its.toArray n }/\xs.length<=sizeLine:=by
 obtain⟨z,its,n,r,e⟩:=I.hok p _ h;exact⟨its,n,r,e,z⟩
theorem Inv.aot{s:Shared}{p:Addr}{xs ys:List V}{its':List Value}{n':Nat}{f:Obj->Obj}(I:Inv X pins σ H s)(h:H p=some (.lst xs))
  (ho:s.heap.get? p=some { cls:=.type "list",data:=.seq its.toArray n }) (hf:f { cls:=.type "list",data:=.seq its.toArray n }={ cls:=.type "list",data:=.seq its'.toArray n' }) (r:Vals ys its') (hz:ys.length<=sizeLine) (t:Nat):
  Inv X pins σ (upd H p (.lst ys)) { s with heap:=s.heap.update p f,toks:=t }:=by
 have e:(s.heap.update p f).get? p=some { cls:=.type "list",data:=.seq its'.toArray n' }:=by
  rw[Aa f ho (by rw[hf] <;> rfl),hf]
 refine I.write (x:=p) (e:=p) (by rw[h];trivial) (.inl rfl) (fun b u hb q=>(xY _ _ (aX hb)).trans q) ⟨_,e⟩ ?_;exact⟨hz,its',n',r,e⟩
noncomputable def al2:V->V->V->Hp->(Hp->Prop)->Prop:=fun o i v H Q=>∃p xs k j,o=.ref p/\i=.int k/\H p=some (.lst xs)/\ixN xs.length k=some j/\Q (upd H p (.lst (xs.set j v)))
theorem set_list:PSet X al2:=by
 intro pins s σ H o i v ov iv u Q I ro ri rv h;obtain⟨p,xs,k,j,rfl,rfl,hp,hj,q⟩:=h;cases ro;obtain⟨t,rfl⟩:=ri;obtain⟨its,n,r,ho,hz⟩:=I.lst hp;obtain⟨h1,h2,h3,h4⟩:=aa7 hj;have hl:=r.length;have hn:=KZ;have I':Inv X pins σ (upd H p (.lst (xs.set j v))) { s with heap:=s.heap.update p (mG (·.setIfInBounds j u)) }:=
  I.aot hp ho (ZP its n j u) (r.set rv j) (by rw[kY];exact hz) s.toks
 by_cases h0:0<=k
 ·have hk:k.toNat=j:=by
   rw[Xv h0 h4]at h1;exact cN h1
  exact PySem.W.ki_setAt ho h0 tb_g% (by rw[dh,<-hl];exact h4) (by rw[hk];exact⟨_,I',q⟩)
 ·have hk:(k+(its.toArray.size:Int)).toNat=j:=by
   rw[Xu tb_g% h3]at h1;rw[dh,<-hl];exact cN h1
  exact PySem.W.ki_setBack ho tb_g% (by rw[dh,<-hl];exact h3) tb_g% (by rw[hk];exact⟨_,I',q⟩)
theorem Sv(lo hi:Option Int)(n:Nat):(jZ lo hi none n).1=((HT.sIx n 0 lo:Nat):Int)/\(jZ lo hi none n).2.1=((HT.sIx n n hi:Nat):Int)/\(jZ lo hi none n).2.2=1:=by
 refine⟨?_,?_,rfl⟩
 ·cases lo with
  |none=>simp[jZ,HT.sIx]
  |some i =>
   simp only[jZ,HT.sIx,Y0,show(1:Int)>0 by decide,if_true];by_cases h:i<0
   ·simp only[h,if_true] <;> lia
   ·simp only[h,if_false] <;> lia
 ·cases hi with
  |none=>simp[jZ,HT.sIx]
  |some i =>
   simp only[jZ,HT.sIx,Y0,show(1:Int)>0 by decide,if_true];by_cases h:i<0
   ·simp only[h,if_true] <;> lia
   ·simp only[h,if_false] <;> lia
theorem NZ(its:List Value)(lo hi:Option Int):JW its.toArray lo hi none=((its.drop (HT.sIx its.length 0 lo)).take (HT.sIx its.length its.length hi-HT.sIx its.length 0 lo)).toArray:=by
 obtain⟨h1,h2,h3⟩:=Sv lo hi its.toArray.size;unfold JW;rw[h1,h2,h3];simp only[sliceRange_one,pick_run,dh] <;> rfl
noncomputable def rSlL(K:bB):V->Option Int->Option Int->Hp->VK->Prop:=fun x lo hi H Q=>∃a xs,x=.ref a/\SqL K H a xs/\∀p,H p=none->Q (.ref p) (upd H p (.lst (Gu xs lo hi)))
theorem m8:SlR X (rSlL X.K):=by
 intro pins s σ H x v vl vu lo hi sl Q I rx hs pl pu h;obtain⟨a,xs,rfl,hx,q⟩:=h;cases rx;obtain⟨its,r,ht,hz⟩:=I.list hx;have hlen:=r.length;refine⟨"list",_,Xj.lookup,ht.isList.typeIs,?_⟩;refine aeT ht.isList hs pl pu .none (by simp) ?_ (by rw[dh] <;> lia);rw[NZ,<-hlen];refine⟨.ref s.heap.objs.size,_,I.laid (t':=s.toks) (o:=.lst (Gu xs lo hi)) (fun b ob q=>dX _ q) (bG _) ?_,rfl,q _ (I.hok.fresh (bG _))⟩;exact⟨eN (Vd xs lo hi) hz,_,0,(r.drop (HT.sIx xs.length 0 lo)).take (HT.sIx xs.length xs.length hi-HT.sIx xs.length 0 lo),eE _ rfl⟩
noncomputable def uy:V->Bool
 | .non=>true
 | .bl _=>true
 | .int _=>true
 | .str _=>true
 |_=>false
noncomputable def eqV:V->V->Bool
 | .non,.non=>true
 | .bl a,.bl b=>a == b
 | .bl a,.int b=>(if a then 1 else 0) == b
 | .int a,.bl b=>a == (if b then 1 else 0)
 | .int a,.int b=>a == b
 | .str a,.str b=>a == b
 |_,_=>false
theorem Sw{s:Shared}(ry:RelV y u)(rx:RelV x v)(fy:uy y=true)(fx:uy x=true):Gh A s u v (eqV y x):=by
 cases y with
 |non =>
  cases ry;cases x with
  |non=>cases rx;exact Y5 _
  |bl b=>cases rx;exact anc b
  |int b=>obtain⟨t,rfl⟩:=rx;exact ang b t
  |str b=>obtain⟨t,rfl⟩:=rx;exact anh b t
  |_=>exact absurd (show false=true from fx) jr
 |bl a =>
  cases ry;cases x with
  |non=>cases rx;exact ane a
  |bl b=>cases rx;exact anf a b
  |int b=>obtain⟨t,rfl⟩:=rx;exact ani a b t
  |str b=>obtain⟨t,rfl⟩:=rx;exact anj a b t
  |_=>exact absurd (show false=true from fx) jr
 |int a =>
  obtain⟨t',rfl⟩:=ry;cases x with
  |non=>cases rx;exact ank a t'
  |bl b=>cases rx;exact anl a t' b
  |int b=>obtain⟨t,rfl⟩:=rx;exact anp a t' b t
  |str b=>obtain⟨t,rfl⟩:=rx;exact agL a t' b t
  |_=>exact absurd (show false=true from fx) jr
 |str a =>
  obtain⟨t',rfl⟩:=ry;cases x with
  |non=>cases rx;exact anm a t'
  |bl b=>cases rx;exact ano a t' b
  |int b=>obtain⟨t,rfl⟩:=rx;exact agM a t' b t
  |str b=>obtain⟨t,rfl⟩:=rx;exact anq a t' b t
  |_=>exact absurd (show false=true from fx) jr
 |_=>exact absurd (show false=true from fy) jr
noncomputable def eqU(x:V)(u:Value):Bool:=match u with
 | .none=>eqV .non x
 | .bool b=>eqV (.bl b) x
 | .int i _=>eqV (.int i) x
 | .str z _=>eqV (.str z) x
 |_=>false
theorem aio(r:RelV y u)(f:uy y=true):eqU x u=eqV y x:=by
 cases y with
 |non=>cases r;rfl
 |bl b=>cases r;rfl
 |int i=>obtain⟨t,rfl⟩:=r;rfl
 |str z=>obtain⟨t,rfl⟩:=r;rfl
 |_=>exact absurd (show false=true from f) jr
theorem Sy:∀{xs:List V}{us:List Value},Vals xs us->xs.all uy=true->us.any (eqU x)=xs.any fun y=>eqV y x
 |_,_,.nil,_=>rfl
 |y::xs,u::us,.cons r t,f=>by
  rw[aeN,Kl]at f;rw[Bb,Bb,aio r f.1,Sy t f.2]
theorem K3{s:Shared}(rx:RelV x v)(fx:uy x=true):∀{xs:List V}{us:List Value},Vals xs us->xs.all uy=true->∀u∈us,Gh A s u v (eqU x u)
 |_,_,.nil,_=>fun u hu=>by cases hu
 |y::xs,u::us,.cons r t,f=>fun u' hu=>by
  rw[aeN,Kl]at f;rcases cO.mp hu with rfl|hu
  ·rw[aio r f.1];exact Sw r rx f.1 fx
  ·exact K3 rx fx t f.2 u' hu
noncomputable def inV(x:V)(xs:List V):Bool:=xs.any fun y=>eqV y x
noncomputable def rIn(K:bB)(neg:Bool):R2:=fun x y H Q=>∃p xs,y=.ref p/\(SqL K H p xs\/SqT K H p xs)/\uy x=true/\xs.all uy=true/\Q (.bl (if neg then !inV x xs else inV x xs)) H
theorem SJ:OpR X (iQ .NotIn) (rIn X.K true):=by
 intro pins s σ H x y v u Q I rx ry h;obtain⟨p,xs,rfl,hq,fx,fs,q⟩:=h;cases ry;rcases hq with hq|hq
 ·obtain⟨its,r,pl,hz⟩:=I.list hq;refine SeqAt.notIn_listAt (eqU x) pl.isList (fun w hw=>K3 rx fx r fs w (by simpa using hw)) ⟨.bl _,H,I,rfl,?_⟩;rw[show its.toArray.any (eqU x)=its.any (eqU x) by simp,Sy r fs];exact q
 ·obtain⟨its,r,pl,hz⟩:=I.tuple hq;refine SeqAt.notIn_tupleAt (eqU x) pl (fun w hw=>K3 rx fx r fs w (by simpa using hw)) ⟨.bl _,H,I,rfl,?_⟩;rw[show its.toArray.any (eqU x)=its.any (eqU x) by simp,Sy r fs];exact q
theorem ju.or{f:Value}{r r':List V->Hp->VK->Prop}(h:ju X f r)(h':ju X f r'):ju X f (fun xs H Q=>r xs H Q\/r' xs H Q):=by
 intro pins s σ H xs us Q I rs q;rcases q with q|q
 ·exact h pins s σ H xs us Q I rs q
 ·exact h' pins s σ H xs us Q I rs q
theorem SM:ju X (.type "list") (fun xs H Q=>∃p ys,xs=[.ref p]/\(SqL X.K H p ys\/SqT X.K H p ys)/\∀l,H l=none->Q (.ref l) (upd H l (.lst ys))):=by
 intro pins s σ H xs us Q I r h;obtain⟨p,ys,rfl,hq,q⟩:=h;obtain⟨u,rfl,rx⟩:=vals1 r;cases rx;have fin:∀(its:List Value),Vals ys its->ys.length<=sizeLine->∀(h':Heap)(c':Nat),(∀b o',s.heap.get? b=some o'->h'.get? b=some o') ->
   h'.get? s.heap.objs.size=some { cls:=.type "list",dict:=none,data:=.seq its.toArray c',slots:=#[] }->EP X pins σ Q (.ref s.heap.objs.size) { s with heap:=h' }:=fun its r' hz h' c' kp e =>
  ⟨.ref s.heap.objs.size,_,I.laid (t':=s.toks) kp (bG _) (show dR X.prog X.w _ h' _ (.lst ys)from⟨hz,its,c',r',e⟩),rfl,q _ (I.hok.fresh (bG _))⟩
 rcases hq with hq|hq
 ·obtain⟨its,r',pl,hz⟩:=I.list hq;have hlen:=r'.length;obtain⟨o,ho,hc,n,hd⟩:=pl.isList;exact afi p (.inl rfl) ho hc hd (fun h' c' kp e=>fin its r' hz h' c' kp e) (by simp only[dh] <;> lia)
 ·obtain⟨its,r',pl,hz⟩:=I.tuple hq;have hlen:=r'.length;obtain⟨o,ho,hc,n,hd⟩:=pl;exact afi p (.inr rfl) ho hc hd (fun h' c' kp e=>fin its r' hz h' c' kp e) (by simp only[dh] <;> lia)
noncomputable def tyV(K:bB)(T:String)(x:V)(H:Hp):Prop:=match x with
 | .str _=>T = "str"
 | .int _=>T = "int"
 | .ref p=>(T = "list" /\ ∃xs,SqL K H p xs)\/(T = "tuple" /\ ∃o,K.lookup p=some o/\o.cls=.type "tuple" /\ o.dict=none) \/
   (T = "dict" /\ ((∃kvs,H p=some (.dK kvs))\/∃kvs,H p=some (.dT kvs)))\/(T = "set" /\ ∃S n,H p=some (.set S n))
 |_=>False
theorem aip{s:Shared}(I:Inv X pins σ H s)(r:RelV x v)(ty:tyV X.K T x H):
  s.TypeIs v T/\∀a,v=.ref a->∃ob,s.heap.get? a=some ob/\ob.dict=none:=by
 cases x with
 |str z =>
  obtain⟨t,rfl⟩:=r;cases (show T = "str" from ty);exact⟨Fw s z t,fun _ e=>nomatch e⟩
 |int i =>
  obtain⟨t,rfl⟩:=r;cases (show T = "int" from ty);exact⟨typeIs_int s i t,fun _ e=>nomatch e⟩
 |ref p =>
  cases r;rcases ty with⟨rfl,xs,hq⟩|⟨rfl,o,hk,hc,hd⟩|⟨rfl,hk⟩|⟨rfl,S,n,hk⟩
  ·obtain⟨its,_,pl,_⟩:=I.list hq;refine⟨pl.isList.typeIs,fun a e=>?_⟩;cases e;obtain⟨o,n,e,c,hd,_⟩:=pl;exact⟨o,e,hd⟩
  ·refine⟨⟨o,I.kIn p o hk,hc⟩,fun a e=>?_⟩;cases e;exact⟨o,I.kIn _ o hk,hd⟩
  ·have z:∃o,s.heap.get? p=some o/\o.ExactDict:=by
    rcases hk with⟨kvs,hk⟩|⟨kvs,hk⟩
    ·obtain⟨_,_,_,_,o,_,_,e,ex,_⟩:=I.hok p _ hk;exact⟨o,e,ex⟩
    ·obtain⟨_,_,_,_,o,_,_,e,ex,_⟩:=I.hok p _ hk;exact⟨o,e,ex⟩
   obtain⟨o,e,ex⟩:=z;refine⟨⟨o,e,ex.1⟩,fun a e2=>?_⟩;cases e2;exact⟨o,e,ex.2.1⟩
  ·obtain⟨o,_,_,_,e,ex,_⟩:=I.hok p _ hk;refine⟨⟨o,e,ex.1⟩,fun a e2=>?_⟩;cases e2;exact⟨o,e,ex.2.1⟩
 |_=>exact lB ty
noncomputable def tBM0(K:bB)(T:String)(r:V->List V->Hp->VK->Prop)(to:TE):TE:=fun σ H Q=>to σ H fun x H1=>tyV K T x H1/\r x [] H1 Q
noncomputable def tBM(K:bB)(T:String)(r:V->List V->Hp->VK->Prop)(to:TE)(t:TA):TE:=fun σ H Q=>to σ H fun x H1=>tyV K T x H1/\t σ H1 fun xs H2=>r x xs H2 Q
variable{o:Expr}{es:List Expr}{to:TE}{t:TA}{name:Str}{apos cpos:Pos}{id:String}{r:V->List V->Hp->VK->Prop}
theorem aou(pa:PlainAttrs T)(slot:Slot T name id)(hty:typeOf (.builtin id)=pure (.type "method_descriptor"))(hm:MtR X id r)(ho:PE X o to)
  (hbase:xK o name X.env (eval o X.env)=eval o X.env:=by rfl) (hline:(apos.endLine == cpos.line)=true:=by rfl):PE X (.Call (.Attribute o name apos) [] [] cpos) (tBM0 X.K T r to):=by
 intro pins s σ H Q I h;refine wpAny_Call_method0_late hbase hline (thn (ho pins s σ H _ I h) fun v s1 ⟨x,H1,I1,r1,ty,q1⟩=>?_);obtain⟨h1,h2⟩:=aip I1 r1 ty;exact⟨T,id,pa,slot,hty,h1,h2,YW rfl (Qq (hm pins s1 σ H1 x [] v [] Q I1 r1 .nil q1))⟩
theorem lG(pa:PlainAttrs T)(slot:Slot T name id)(hty:typeOf (.builtin id)=pure (.type "method_descriptor"))(hm:MtR X id r)(ho:PE X o to)(ha:PA X (e::es) t)
  (hbase:xK o name X.env (eval o X.env)=eval o X.env:=by rfl)
  (hfew:((iu cpos (cT (e::es) X.env)).all (fun x=>!x.1) && (FJ cpos (Fp [] X.env)).all (fun x=>x.1.isSome)
   && decide ((e::es).length+([]:List Bl).length+(if ([]:List Bl).isEmpty then 0 else 1)<30))=true:=by rfl)
  (hline:(apos.endLine == cpos.line)=true:=by rfl) (hs:cT (e::es) X.env=(false,eval e X.env)::cT es X.env:=by rfl) (hplain:(iu cpos (cT es X.env)).any (·.1)=false:=by rfl):
  PE X (.Call (.Attribute o name apos) (e::es) [] cpos) (tBM X.K T r to t):=by
 intro pins s σ H Q I h;refine wpAny_Call_method_late hbase hfew hline rfl (thn (ho pins s σ H _ I h) fun v s1 ⟨x,H1,I1,r1,ty,q1⟩=>?_);obtain⟨h1,h2⟩:=aip I1 r1 ty;refine⟨T,id,pa,slot,hty,h1,h2,?_⟩;have hA:=ha cpos pins s1 σ H1 _ I1 q1;rw[hs]at hA ⊢;refine YW (by show(false || (iu cpos (cT es X.env)).any (·.1))=false;rw[hplain] <;> rfl) (YX ?_);exact thn hA fun us s2 ⟨vs,H2,I2,r2,q2⟩=>hm pins s2 σ H2 x vs v us Q I2 r1 r2 q2
end
noncomputable def MtM(X:Cx)(id:String)(r:V->List V->Hp->VK->Prop):Prop:=
 ∀(pins:List (Addr × Obj)) (s:Shared) (σ:St) (H:Hp) (x:V) (xs:List V) (v:Value) (us:List Value) (Q:VK),Inv X pins σ H s->RelV x v->Vals xs us->r x xs H Q ->
  wpAny (model X.prog X.w) X.A (call (.builtin id) (v::us)) (EP X pins σ Q) X.xe s
theorem Vals.one:∀{x:V}{us:List Value},Vals [x] us->∃u,us=[u]/\RelV x u
 |_,_,.cons r .nil=>⟨_,rfl,r⟩
theorem Vals.two:∀{x y:V}{us:List Value},Vals [x,y] us->∃u v,us=[u,v]/\RelV x u/\RelV y v
 |_,_,_,.cons r (.cons q .nil)=>⟨_,_,rfl,r,q⟩
theorem Vals.zero:∀{us:List Value},Vals [] us->us=[]
 |_,.nil=>rfl
theorem Vals.eraseIdx:∀{xs:List V}{us:List Value}(i:Nat),Vals xs us->Vals (xs.eraseIdx i) (us.eraseIdx i)
 |_,_,_,.nil=>.nil
 |_,_,0,.cons _ t=>t
 |_,_,i+1,.cons r t=>.cons r (Vals.eraseIdx i t)
theorem Vals.reverse{xs:List V}{us:List Value}(h:Vals xs us):Vals xs.reverse us.reverse:=by
 induction h with
 |nil=>exact .nil
 |cons r t ih=>rw[aeC,aeC];exact Vals.append ih (.cons r .nil)
theorem O2:∀(l:List α)(i:Nat),(l.eraseIdx i).length<=l.length
 |[],_=>bG _
 |_::_,0=>sS _
 |_::r,i+1=>afH (O2 r i)
section
variable{s:Shared}{l b:Addr}{xs ys zs:List V}
theorem Inv.lset{its':List Value}{f:Array Value->Array Value}(I:Inv X pins σ H s)(hH:H l=some (.lst xs))
  (e:s.heap.get? l=some { cls:=.type "list",data:=.seq its.toArray n }) (hf:f its.toArray=its'.toArray) (hv:Vals ys its') (hz:ys.length<=sizeLine):
  Inv X pins σ (upd H l (.lst ys)) { s with heap:=s.heap.update l (mG f),toks:=t' }:=by
 have q:=aof e f;rw[hf]at q;refine I.write (x:=l) (e:=l) (by rw[hH];exact trivial) (.inl rfl) (fun b' u hb hu=>(xY s.heap (mG f) (aX hb)).trans hu) ⟨_,q⟩ ?_;exact⟨hz,its',_,hv,q⟩
theorem Inv.lnew(I:Inv X pins σ H s)(hv:Vals ys its)(hz:ys.length<=sizeLine):
  Inv X pins σ (upd H s.heap.objs.size (.lst ys)) { s with heap:=s.heap.push { cls:=.type "list",data:=.seq its.toArray },toks:=t' }:=
 I.laid (fun _ _ q=>dX _ q) (bG _) ⟨hz,its,0,hv,eE _ rfl⟩
theorem Inv.fresh(I:Inv X pins σ H s):H s.heap.objs.size=none:=I.hok.fresh (bG _)
theorem Inv.Ij(I:Inv X pins σ H s)(hH:H l=some (.lst xs)):xs.length<=sizeLine/\∃(its:List Value)(n:Nat),Vals xs its/\xs.length=its.length/\s.heap.get? l=some { cls:=.type "list",data:=.seq its.toArray n }:=by
 obtain⟨z,its,n,r,e⟩:=I.hok l _ hH;exact⟨z,its,n,r,r.length,e⟩
end
noncomputable def akC:V->List V->Hp->VK->Prop:=fun x vs H Q=>∃l xs y,x=.ref l/\vs=[y]/\H l=some (.lst xs)/\xs.length<sizeLine/\Q .non (upd H l (.lst (xs++[y])))
theorem gF:MtM X "list.append" akC:=by
 intro pins s σ H x vs v us Q I rx rv h;obtain⟨l,xs,y,rfl,rfl,hH,hz,q⟩:=h;cases rx;obtain⟨u,rfl,ru⟩:=rv.one;obtain⟨z,its,n,r,hl,e⟩:=I.Ij hH;refine Bf F.slot_list_append ⟨_,e,rfl⟩ F.entry_list_append (F.args_list_append_2 _ _) (PySem.list_append l its.toArray n u (by rw[dh];lia)) ⟨e,?_⟩;refine⟨.non,_,I.lset (its':=its++[u]) hH e (by simp) (r.append (.cons ru .nil)) ?_,rfl,q⟩;rw[fj,List.length_singleton];lia
noncomputable def aov:V->List V->Hp->VK->Prop:=fun x vs H Q=>∃l xs i k y,x=.ref l/\vs=[.int i]/\H l=some (.lst xs) /\ -(2 ^ 63)<=i/\i<2 ^ 63/\seqIndex? i xs.length=some k/\xs[k]? = some y/\Q y (upd H l (.lst (xs.eraseIdx k)))
theorem aiq:MtM X "list.pop" aov:=by
 intro pins s σ H x vs v us Q I rx rv h;obtain⟨l,xs,i,k,y,rfl,rfl,hH,h1,h2,hk,hy,q⟩:=h;cases rx;obtain⟨u,rfl,ru⟩:=rv.one;obtain⟨t,rfl⟩:=ru;obtain⟨z,its,n,r,hl,e⟩:=I.Ij hH;obtain⟨w,hw,rw'⟩:=r.get hy;refine Bf F.slot_list_pop ⟨_,e,rfl⟩ F.entry_list_pop (F.args_list_pop_2 _ _)
  (an8 l its.toArray n i t k w (ae9 h1 h2) (by rw[dh,<-hl];exact hk) (by rw[<-qQ];exact hw) (by rw[dh];lia)) ⟨e,?_⟩
 refine⟨y,_,I.lset (its':=its.eraseIdx k) hH e ?_ (r.eraseIdx k) ?_,rw',q⟩
 ·show its.toArray.eraseIdxIfInBounds k=(its.eraseIdx k).toArray;rw[List.eraseIdxIfInBounds_toArray]
 ·have:=O2 xs k;lia
noncomputable def rCat:R2:=fun x y H Q=>∃l b xs zs,x=.ref l/\y=.ref b/\H l=some (.lst xs)/\H b=some (.lst zs)/\xs.length+zs.length<=sizeLine/\∀p,H p=none->Q (.ref p) (upd H p (.lst (xs++zs)))
theorem vG:OpR X (pN .Add) rCat:=by
 intro pins s σ H x y v u Q I rx ry h;obtain⟨l,b,xs,zs,rfl,rfl,hH,hB,hz,q⟩:=h;cases rx;cases ry;obtain⟨z,its,n,r,hl,e⟩:=I.Ij hH;obtain⟨z2,its2,n2,r2,hl2,e2⟩:=I.Ij hB;refine PySem.P.add_list e e2 ?_ (by rw[dh,dh];lia);have ea:its.toArray++its2.toArray=(its++its2).toArray:=by simp
 rw[ea];exact⟨.ref _,_,I.lnew (t':=s.toks) (r.append r2) (by rw[fj];lia),rfl,q _ I.fresh⟩
section
variable{prog:bh}{s:Shared}
set_option maxRecDepth 100000 in
end
section
variable{κ:Type}[DecidableEq κ]
noncomputable def zY(kvs:List (κ × V))(k:κ):Option V:=(kvs.find? fun kv=>decide (kv.1=k)).map (·.2)
noncomputable def putK(kvs:List (κ × V))(k:κ)(v:V):List (κ × V):=
 if(kvs.any fun kv=>decide (kv.1=k))=true then kvs.map (fun kv=>if kv.1=k then(kv.1,v)else kv)else kvs++[(k,v)]
theorem CZ{p:κ × V}{r:List (κ × V)}{k:κ}(e:p.1=k):zY (p::r) k=some p.2:=by simp[zY,Az,e]
theorem Dc{p:κ × V}{r:List (κ × V)}{k:κ}(e:¬ p.1=k):zY (p::r) k=zY r k:=by simp[zY,Az,e]
theorem Ve(k:κ):∀kvs:List (κ × V),(kvs.any fun kv=>decide (kv.1=k))=(zY kvs k).isSome
 |[]=>rfl
 |p::r=>by
  rw[Bb];by_cases e:p.1=k
  ·simp only[CZ e,decide_eq_true e,Bool.true_or,Option.isSome_some]
  ·rw[Dc e,decide_eq_false e,afP];exact Ve k r
theorem Hs(kvs:List (κ × V))(k:κ)(v:V):(putK kvs k v).length<=kvs.length+1:=by
 unfold putK;split
 ·rw[aV];lia
 ·rw[fj,jo,List.length_nil];lia
theorem wU.Gv{u:Option Value}(r:wU o u):o.isSome=u.isSome:=by
 cases o with
 |none=>cases u with
  |none=>rfl
  |some _=>exact(show False from r).elim
 |some _=>cases u with
  |none=>exact(show False from r).elim
  |some _=>rfl
theorem wU.getD{u:Option Value}{d:V}{d':Value}(r:wU o u)(rd:RelV d d'):RelV (o.getD d) (u.getD d'):=by
 cases o with
 |none=>cases u with
  |none=>exact rd
  |some _=>exact(show False from r).elim
 |some _=>cases u with
  |none=>exact(show False from r).elim
  |some _=>exact r
theorem KV.val{kvs:List (κ × V)}{vs:List (κ × Value)}(r:KV kvs vs)(k:κ):wU (zY kvs k) (Bm vs k):=by
 unfold KV at r
 induction r with
 |nil=>exact True.intro
 | @cons p q ps qs h t ih =>
  obtain⟨h1,h2⟩:=h;by_cases e:p.1=k
  ·have e':q.1=k:=h1.symm.trans e;have b:Bm (q::qs) k=some q.2:=by simp[Bm,Az,e']
   rw[CZ e,b];exact h2
  ·have e':¬ q.1=k:=fun z=>e (h1.trans z);have b:Bm (q::qs) k=Bm qs k:=by simp[Bm,Az,e']
   rw[Dc e,b];exact ih
theorem KV.any{kvs:List (κ × V)}{vs:List (κ × Value)}(r:KV kvs vs)(k:κ):(kvs.any fun kv=>decide (kv.1=k))=vs.any fun kv=>decide (kv.1=k):=by
 unfold KV at r
 induction r with
 |nil=>rfl
 |cons h t ih=>rw[Bb,Bb,ih,h.1]
theorem KV.repl{kvs:List (κ × V)}{vs:List (κ × Value)}(r:KV kvs vs)(k:κ)(ry:RelV y u):
  KV (kvs.map fun kv=>if kv.1=k then(kv.1,y)else kv) (vs.map fun kv=>if kv.1=k then(kv.1,u)else kv):=by
 unfold KV at r ⊢
 induction r with
 |nil=>exact .nil
 | @cons p q ps qs h t ih =>
  rw[fU,fU];refine .cons ?_ ih;obtain⟨h1,h2⟩:=h;by_cases e:p.1=k
  ·rw[if_pos e,if_pos (h1.symm.trans e)];exact⟨h1,ry⟩
  ·rw[if_neg e,if_neg (fun z=>e (h1.trans z))];exact⟨h1,h2⟩
theorem KV.put{kvs:List (κ × V)}{vs:List (κ × Value)}(r:KV kvs vs)(k:κ)(ry:RelV y u):KV (putK kvs k y) (stored vs k u):=by
 unfold putK stored;rw[r.any k];by_cases e:(vs.any fun kv=>decide (kv.1=k))=true
 ·rw[if_pos e,if_pos e];exact r.repl k ry
 ·rw[if_neg e,if_neg e];exact agU r ⟨rfl,ry⟩
theorem KV.keys{kvs:List (κ × V)}{vs:List (κ × Value)}(r:KV kvs vs):kvs.map (·.1)=vs.map (·.1):=by
 unfold KV at r
 induction r with
 |nil=>rfl
 |cons h t ih=>rw[fU,fU,ih,h.1]
theorem KV.length{kvs:List (κ × V)}{vs:List (κ × Value)}(r:KV kvs vs):kvs.length=vs.length:=Y9 r
end
theorem Vf{k:Key}(r:RelV (kV k) u):(cP P w).is k u=true:=by
 cases k with
 |inl i=>obtain⟨t,e⟩:=(show ∃t,u=Value.int i t from r);subst e;exact U5 P w i t
 |inr x=>obtain⟨t,e⟩:=(show ∃t,u=Value.str x t from r);subst e;exact U6 P w x t
theorem O3:∀{ks:List Key}{us:List Value},Vals (ks.map kV) us->ItemsAre (cP P w) ks us
 |[],_,r=>by rw[JF]at r;cases r;exact .nil
 |k::ks,_,r=>by
  rw[fU]at r;cases r with
  |cons h t=>exact .cons (Vf h) (O3 t)
noncomputable abbrev KT(H:Hp):List (List Key × V)->List (List Key × Addr × Value)->Prop:=Paired fun p q=>p.1=q.1/\H q.2.1=some (.tup (p.1.map kV))/\RelV p.2 q.2.2
theorem KT.val(r:KT H kvs xs)(k:List Key):wU (zY kvs k) ((atKey xs k).map (·.2)):=by
 induction r with
 |nil=>exact True.intro
 | @cons p q ps qs h t ih =>
  obtain⟨h1,_,h2⟩:=h;by_cases e:p.1=k
  ·have e':q.1=k:=h1.symm.trans e;have b:atKey (q::qs) k=some q.2:=by simp[atKey,Az,e']
   rw[CZ e,b];exact h2
  ·have e':¬ q.1=k:=fun z=>e (h1.trans z);have b:atKey (q::qs) k=atKey qs k:=by simp[atKey,Az,e']
   rw[Dc e,b];exact ih
theorem KT.repl(r:KT H kvs xs)(k:List Key)(ry:RelV y u):
  KT H (kvs.map fun kv=>if kv.1=k then(kv.1,y)else kv) (xs.map (putAt k u)):=by
 induction r with
 |nil=>exact .nil
 | @cons p q ps qs h t ih =>
  rw[fU,fU];refine .cons ?_ ih;obtain⟨h1,h2,h3⟩:=h;unfold putAt;by_cases e:p.1=k
  ·rw[if_pos e,if_pos (h1.symm.trans e)];exact⟨h1,h2,ry⟩
  ·rw[if_neg e,if_neg (fun z=>e (h1.trans z))];exact⟨h1,h2,h3⟩
theorem KT.put(r:KT H kvs xs)(k:List Key){b:Addr}(hb:H b=some (.tup (k.map kV)))(ry:RelV y u):
  KT H (putK kvs k y) (storedH xs k b u):=by
 have e:(kvs.any fun kv=>decide (kv.1=k))=(atKey xs k).isSome:=by
  rw[Ve,(r.val k).Gv,agG]
 unfold putK storedH;rw[e];by_cases q:(atKey xs k).isSome=true
 ·rw[if_pos q,if_pos q];exact r.repl k ry
 ·rw[if_neg q,if_neg q];exact agU r ⟨rfl,hb,ry⟩
theorem KT.keeps(r:KT H kvs xs)(ht:∀b ys,H b=some (.tup ys)->H' b=some (.tup ys)):KT H' kvs xs:=
 Paired.mapP r fun _ _ z=>⟨z.1,ht _ _ z.2.1,z.2.2⟩
section
variable{h:Heap}
theorem al3{u:HO}(ok:HOk P w H h)(e:Rd H a u):dR P w H h a u:=e.ok ok
theorem wD{kvs:List (Key × V)}(ok:HOk P w H h)(e:Rd H a (.dK kvs)):kvs.length<=sizeLine/\(a == sy)=false/\∃vs,KV kvs vs/\h.DictOf (cP P w) a vs:=
 show dR P w H h a (.dK kvs)from al3 ok e
theorem al4{kvs:List (Key × V)}(ok:HOk P w H h)(e:H a=some (.dK kvs)):kvs.length<=sizeLine/\(a == sy)=false/\∃vs,KV kvs vs/\h.DictOf (cP P w) a vs:=wD ok (.inl e)
theorem K4{ks:List Key}(ok:HOk P w H h)(e:H a=some (.tup (ks.map kV))):(Fx (cP P w)).is h ks a:=by
 obtain⟨_,its,r,o,h1,h2,n,h3⟩:=(show dR P w H h a (.tup (ks.map kV))from ok a _ e);exact⟨o,its.toArray,n,h1,h2,h3,by simpa using O3 r⟩
theorem O4(ok:HOk P w H h)(e:Rd H a (.dT kvs)):kvs.length<=sizeLine/\(a == sy)=false /\
  ∃xs,KT H kvs xs/\h.DictOfH (Fx (cP P w)) a xs:=by
 obtain⟨z,y,xs,r,o,es,ep,h1,h2,h3,h4,h5⟩:=(show dR P w H h a (.dT kvs)from al3 ok e);refine⟨z,y,xs,r,o,es,ep,h1,h2,h3,h4,fun x hx=>?_,h5⟩;have all:∀{l:List (List Key × V)} {m:List (List Key × Addr × Value)},KT H l m->∀x∈m,(Fx (cP P w)).is h x.1 x.2.1:=by
  intro l m q
  induction q with
  |nil=>intro x hx;exact nomatch hx
  | @cons p q ps qs hq t ih =>
   intro x hx;rcases cO.mp hx with e|hx
   ·subst e;exact K4 ok (by rw[<-hq.1];exact hq.2.1)
   ·exact ih x hx
 exact all r x hx
theorem dt_of(ok:HOk P w H h)(e:H a=some (.dT kvs)):kvs.length<=sizeLine/\(a == sy)=false /\
  ∃xs,KT H kvs xs/\h.DictOfH (Fx (cP P w)) a xs:=O4 ok (.inl e)
end
noncomputable def Ik(H:Hp)(a:Addr)(y:V)(r:Option V):Prop:=
 (∃kvs k,Rd H a (.dK kvs)/\y=kV k/\r=zY kvs k)\/∃kvs k b,Rd H a (.dT kvs)/\y=.ref b/\H b=some (.tup (k.map kV))/\r=zY kvs k
noncomputable def air(H:Hp)(a:Addr)(y v:V)(H':Hp):Prop:=
 (∃kvs k,H a=some (.dK kvs)/\y=kV k/\kvs.length<sizeLine/\H'=upd H a (.dK (putK kvs k v))) \/
 ∃kvs k b,H a=some (.dT kvs)/\y=.ref b/\H b=some (.tup (k.map kV))/\kvs.length<sizeLine/\H'=upd H a (.dT (putK kvs k v))
theorem Ik.k{kvs:List (Key × V)}{k:Key}(e:H a=some (.dK kvs)):Ik H a (kV k) (zY kvs k):=.inl ⟨kvs,k,.inl e,rfl,rfl⟩
theorem air.k{kvs:List (Key × V)}{k:Key}{v:V}(e:H a=some (.dK kvs))(hl:kvs.length<sizeLine):air H a (kV k) v (upd H a (.dK (putK kvs k v))):=.inl ⟨kvs,k,e,rfl,hl,rfl⟩
section
variable{s:Shared}{v:V}{r:Value}
theorem Inv.big(I:Inv X pins σ H s):sy<s.heap.objs.size:=by
 have h:dH<s.heap.objs.size:=(I.mod.glob.keeps I.bk).lt;exact Rj (by decide) h
theorem ade(hu:A.units+1<cLine)(I:Inv X pins σ H s)(g:Ik H a y (some v))(ry:RelV y u)(h:∀w' s',Inv X pins σ H s'->RelV v w'->Q w' s'):
  wpAny (model X.prog X.w) A (QM (.ref a) u) Q E s:=by
 rcases g with⟨kvs,k,e,ey,l⟩|⟨kvs,k,b,e,ey,eb,l⟩
 ·subst ey;obtain⟨z,hd,vs,rel,dd⟩:=wD I.hok e;obtain⟨w',hw,rw'⟩:=wU.some_of (v:=v) (o:=Bm vs k) (by rw[l];exact rel.val k);exact wpAny_getItem_of (Vf ry) dd.mapOf hw (h w' _ (I.tok _) rw')
 ·subst ey;cases (show u=Value.ref b from ry);obtain⟨z,hd,xs,rel,dd⟩:=O4 I.hok e;obtain⟨w',hw,rw'⟩:=wU.some_of (v:=v) (o:=(atKey xs k).map (·.2)) (by rw[l];exact rel.val k);obtain⟨p,hp,hp2⟩:=KC.mp hw;refine wpAny_getItem_heap (Qs hu) (K4 I.hok eb) dd hp ?_;rw[hp2];exact h w' _ (I.tok _) rw'
theorem akD(hu:A.units+1<cLine)(I:Inv X pins σ H s)(g:Ik H a y o)(ry:RelV y u)(h:∀s',Inv X pins σ H s'->Q (.bool (!o.isSome)) s'):
  wpAny (model X.prog X.w) A (iQ .NotIn u (.ref a)) Q E s:=by
 rcases g with⟨kvs,k,e,ey,l⟩|⟨kvs,k,b,e,ey,eb,l⟩
 ·subst ey;obtain⟨z,hd,vs,rel,dd⟩:=wD I.hok e;refine wpAny_notIn_of (Vf ry) hd dd.mapOf ?_;rw[<-(rel.val k).Gv,<-l];exact h _ (I.tok _)
 ·subst ey;cases (show u=Value.ref b from ry);obtain⟨z,hd,xs,rel,dd⟩:=O4 I.hok e;refine wpAny_notIn_heap (Qs hu) (K4 I.hok eb) hd dd ?_;have q:=(rel.val k).Gv;rw[agG]at q;rw[<-q,<-l];exact h _ (I.tok _)
theorem aa8{ob:HO}(I:Inv X pins σ H s)(mu:Mut (H a))(hs:xZ a s.heap h')(he:∃q,h'.get? a=some q)(new:dR X.prog X.w (upd H a ob) h' a ob):
  Inv X pins σ (upd H a ob) { s with heap:=h',toks:=t' }:=
 I.write (x:=a) (e:=a) mu (.inl rfl) (fun b q hb z=>(hs.2 b hb).trans z) he new
theorem ZQ{kvs:List (Key × V)}{vs:List (Key × Value)}(z:kvs.length<=sizeLine)(hd:(a == sy)=false)(rel:KV kvs vs)(dd:h'.DictOf (cP P w) a vs):
  dR P w H' h' a (.dK kvs):=⟨z,hd,vs,rel,dd⟩
theorem adf{Q:Unit->Shared->Prop}(hu:A.units+1<cLine)(I:Inv X pins σ H s)(g:air H a y v H')(ry:RelV y u)(rv:RelV v r)(h:∀s',Inv X pins σ H' s'->Q () s'):
  wpAny (model X.prog X.w) A (setItem (.ref a) u r) Q E s:=by
 rcases g with⟨kvs,k,e,ey,l,eH⟩|⟨kvs,k,b,e,ey,eb,l,eH⟩
 ·subst ey eH;obtain⟨z,hd,vs,rel,dd⟩:=al4 I.hok e;have hz:vs.length<=sizeLine:=by rw[<-rel.length];exact z
  have hl:(putK kvs k v).length<=sizeLine:=by have:=Hs kvs k v;lia
  refine wpAny_setItem_pairs (hsz:=hz) (Vf ry) dd fun h' dd' hs=>h _ ?_;have he:∃q,h'.get? a=some q:=let ⟨q,_,_,hq,_⟩:=dd';⟨q,hq⟩;exact aa8 I (by rw[e];exact True.intro) hs he (ZQ hl hd (rel.put k rv) dd')
 ·subst ey eH;cases (show u=Value.ref b from ry);obtain⟨z,hd,xs,rel,dd⟩:=dt_of I.hok e;have hz:xs.length<=sizeLine:=by rw[<-Y9 rel];exact z
  have hl:(putK kvs k v).length<=sizeLine:=by have:=Hs kvs k v;lia
  refine wpAny_setItem_heap (hsz:=hz) (Qs hu) (K4 I.hok eb) dd fun h' dd' hs=>h _ ?_;obtain⟨q,es,ep,hq,h2,h3,h4,_,h5⟩:=dd';refine aa8 I (by rw[e];exact True.intro) hs ⟨q,hq⟩ ⟨hl,hd,_,(rel.put k eb rv).keeps fun c ys ec=>?_,q,es,ep,hq,h2,h3,h4,h5⟩;rw[aB (iY ec e (fun z=>nomatch z))];exact ec
end
section
variable{s:Shared}{kvs:List (Key × V)}{k:Key}
theorem d_len(I:Inv X pins σ H s)(e:Rd H a (.dK kvs))(h:∀t s',Inv X pins σ H s'->Q (.int kvs.length t) s'):wpAny (model X.prog X.w) A (call (.builtin "len") [.ref a]) Q E s:=by
 obtain⟨z,hd,vs,rel,dd⟩:=wD I.hok e;refine call_len_dict hd dd (by rw[<-rel.length];rw[QD]at z;lia) ?_;rw[<-rel.length];exact h _ _ (I.tok _)
end
theorem Vg{s:Shared}(I:Inv X pins σ H s)(g:Ik H a y o):s.TypeIs (.ref a) "dict" := by
 rcases g with⟨kvs,k,e,_,_⟩|⟨kvs,k,b,e,_,_,_⟩
 ·obtain⟨_,_,vs,_,dd⟩:=wD I.hok e;exact dd.typeIs
 ·obtain⟨_,_,xs,_,dd⟩:=O4 I.hok e;exact dd.typeIs
section
variable{o i value:Expr}{pos pos' tpos:Pos}{td ty tv:TE}
end
theorem ais(h:Heap)(hb:sy<h.objs.size):dR P w H (h.push { cls:=.type "dict",data:=.dict #[] }) h.objs.size (.dK []):=
 ⟨eO _,beq_eq_false_iff_ne.mpr (aX (cH hb)),[],.nil,ag1 h⟩
noncomputable def aow:TE:=fun _ H Q=>∀p,H p=none->Q (.ref p) (upd H p (.dK []))
section
variable{pos:Pos}
theorem K5:PE X (.Dict [] [] pos) aow:=fun pins s σ H Q I h =>
 wpAny_Dict_empty ⟨.ref s.heap.objs.size,_,I.laid (a:=s.heap.objs.size) (o:=.dK []) (t':=s.toks) (fun _ _ q=>dX _ q) (bG _) (ais s.heap I.big),rfl,h _ (I.hok.fresh (bG _))⟩
end
structure M1(X:Cx)(o:Expr)(m:Str)(apos:Pos)(e:Expr)(cpos:Pos):Prop where
 base:xK o m X.env (eval o X.env)=eval o X.env
 few:((iu cpos (cT [e] X.env)).all (fun x=>!x.1) && (FJ cpos (Fp [] X.env)).all (fun x=>x.1.isSome)
  && decide (([e]:List Expr).length+([]:List Bl).length+(if ([]:List Bl).isEmpty then 0 else 1)<30))=true
 line:(apos.endLine == cpos.line)=true
 trees:iu cpos (cT [e] X.env)=[(false,eval e X.env)]
structure M2(X:Cx)(o:Expr)(m:Str)(apos:Pos)(e f:Expr)(cpos:Pos):Prop where
 base:xK o m X.env (eval o X.env)=eval o X.env
 few:((iu cpos (cT [e,f] X.env)).all (fun x=>!x.1) && (FJ cpos (Fp [] X.env)).all (fun x=>x.1.isSome)
  && decide (([e,f]:List Expr).length+([]:List Bl).length+(if ([]:List Bl).isEmpty then 0 else 1)<30))=true
 line:(apos.endLine == cpos.line)=true
 trees:iu cpos (cT [e,f] X.env)=[(false,eval e X.env),(false,eval f X.env)]
noncomputable def IsD(H:Hp)(a:Addr):Prop:=(∃kvs,Rd H a (.dK kvs))\/∃kvs,Rd H a (.dT kvs)
theorem SN{s:Shared}(I:Inv X pins σ H s)(d:IsD H a):
  s.TypeIs (.ref a) "dict" /\ (∀b,Value.ref a=.ref b->∃ob,s.heap.get? b=some ob/\ob.dict=none)/\(a == sy)=false:=by
 rcases d with⟨kvs,e⟩|⟨kvs,e⟩
 ·obtain⟨_,hd,vs,_,dd⟩:=wD I.hok e;refine⟨dd.typeIs,fun b q=>?_,hd⟩;cases q;obtain⟨ob,_,_,h1,h2,_⟩:=dd;exact⟨ob,h1,h2.2.1⟩
 ·obtain⟨_,hd,xs,_,dd⟩:=O4 I.hok e;refine⟨dd.typeIs,fun b q=>?_,hd⟩;cases q;obtain⟨ob,_,_,h1,h2,_⟩:=dd;exact⟨ob,h1,h2.2.1⟩
section
variable{s:Shared}{d:V}{r:Value}
theorem aox(hu:A.units+1<cLine)(I:Inv X pins σ H s)(g:Ik H a y o)(ry:RelV y u)(rd:RelV d r)(h:∀w' s',Inv X pins σ H s'->RelV (o.getD d) w'->Q w' s'):
  wpAny (model X.prog X.w) A (call (.builtin "dict.get") [.ref a,u,r]) Q E s:=by
 rcases g with⟨kvs,k,e,ey,l⟩|⟨kvs,k,b,e,ey,eb,l⟩
 ·subst ey;obtain⟨z,hd,vs,rel,dd⟩:=wD I.hok e;refine afp Yq dd.typeIs af0 (afY _ _ _) (meets_dict_get_default (cP X.prog X.w) a (Vf ry) hd r) ⟨_,dd.mapOf,h _ _ (I.tok _) ?_⟩;rw[l];exact(rel.val k).getD rd
 ·subst ey;cases (show u=Value.ref b from ry);obtain⟨z,hd,xs,rel,dd⟩:=O4 I.hok e;refine afp Yq dd.typeIs af0 (afY _ _ _) (meetsH_dict_get_default (Fx (cP X.prog X.w)) a b hd r) ⟨Qs hu,k,xs,K4 I.hok eb,dd,h _ _ (I.tok _) ?_⟩;rw[l];exact(rel.val k).getD rd
end
noncomputable def aoy(td ty tx:TE):TE:=fun σ H Q=>td σ H fun x H1=>∃a,x=.ref a/\IsD H1 a/\ty σ H1 fun y H2=>tx σ H2 fun z H3=>∃o,Ik H3 a y o/\Q (o.getD z) H3
section
variable{o f:Expr}{apos cpos:Pos}{td ty tx:TE}
theorem K6(hu:X.A.units+1<cLine)(ho:PE X o td)(he:PE X e ty)(hf:PE X f tx)(m:M2 X o "get" apos e f cpos):PE X (.Call (.Attribute o "get" apos) [e,f] [] cpos) (aoy td ty tx):=by
 intro pins s σ H Q I h;refine Qt m.base m.few m.line Rp Yq PySem.F.type_dict_get (thn (ho pins s σ H _ I h) fun u s1 ⟨x,H1,I1,rx,a,ex,d,q1⟩=>?_);subst ex;obtain rfl:u=Value.ref a:=rx;obtain ⟨t1,t2,_⟩:=SN I1 d;refine ⟨t1,t2,?_⟩;rw [m.trees];refine YW rfl (YX (Cw (thn (he pins s1 σ H1 _ I1 q1) fun iv s2 ⟨y,H2,I2,ry,q2⟩ =>
  Cw (thn (hf pins s2 σ H2 _ I2 q2) fun fv s3 ⟨z,H3,I3,rz,ov,g,q3⟩=>yq ?_))))
 exact aox hu I3 g ry rz fun w' s4 I4 rw'=>⟨_,H3,I4,rw',q3⟩
end
section
variable{s:Shared}{kvs:List (Key × V)}
theorem ait(I:Inv X pins σ H s)(e:Rd H a (.dK kvs))(h:∀p s',H p=none->Inv X pins σ (upd H p (.dK kvs)) s'->Q (.ref p) s'):wpAny (model X.prog X.w) A (call (.type "dict") [.ref a]) Q E s:=by
 obtain⟨z,hd,vs,rel,dd⟩:=wD I.hok e;refine kt_call_dict hd dd (by rw[<-rel.length];exact z) fun h' dd' hs=>?_;refine h _ _ (I.hok.fresh (bG _)) (I.laid (a:=s.heap.objs.size) (o:=.dK kvs) (t':=s.toks) (fun b q hq=>?_) (bG _) (ZQ z (beq_eq_false_iff_ne.mpr (aX (cH I.big))) rel dd'));exact(hs.2 b (cH (bU hq))).trans (dX _ hq)
end
section
variable{s:Shared}
end
end L2
namespace Att
open PySem PySem.W PySem.Calls PyProof.Rows
theorem Il{P:FQ}{h:Heap}:∀(ns:List Int)(vs:List Value),WellAll P h vs (ns.map WData.int)->IntsAre vs ns:=by
 intro ns
 induction ns with
 |nil =>
  intro vs w;rw[JF]at w;cases w;exact .nil
 |cons n ns ih =>
  intro vs w;rw[fU]at w;cases w with
  |cons a b =>
   cases a;exact .cons _ _ (ih _ b)
theorem adg{l:OpenLaw}{n:Nat}(hn:l.most=some n){P:FQ}{h:Heap}{args:List WData}{vals:List Value}
  (hpre:l.row.toRowW.claim.pre args=true) (hwl:WellAll P h vals args):
  ∃a vs ns,vals=[Value.ref a]/\args=[WData.list (ns.map WData.int)]/\h.get? a=some { cls:=.type "list",data:=.seq vs.toArray }/\IntsAre vs ns/\ns.length<=n:=by
 have hsh:WShape.hasAll [] args [.list .int]=true:=(pre_splitW hpre).1;have hc:l.pre.holds [] { args:=args }=true:=(pre_splitW hpre).2;obtain⟨d,r,rfl,h1,h2⟩:=hasAllW_cons hsh;obtain rfl:=hasAllW_nil h2;obtain⟨xs,rfl,h3⟩:=hasW_list h1;obtain⟨ns,rfl⟩:=items_int h3;have hlen:ns.length<=n:=by
  unfold OpenLaw.pre at hc;have h4:(WTm.not (.lt (.lit (.int (n:Int))) (.len (.arg 0)))).holds [] { args:=[.list (ns.map .int)] }=true:=by
   have h4:=(holds_andW hc).1;rw[hn]at h4;exact h4
  have h5:=condW_of h4 (w_not (w_lt w_lit (w_len_list (w_arg rfl))));rw[aV]at h5;refine afI fun q=>?_;have q':(n:Int)<((ns.length:Nat):Int):=by lia
  first
   |(rw[decide_eq_true q']at h5;exact absurd h5 (by decide))
   |(simp at h5;lia)
 cases hwl with
 |cons w1 w2 =>
  cases w2;cases w1 with
  |list ho hall=>exact⟨_,_,ns,rfl,rfl,ho,Il ns _ hall,hlen⟩
theorem adh(l:OpenLaw)(args:List WData):l.row.toRowW.claim.post args (.bool true) args=true:=
 postW_of (r:=l.row.toRowW) (X:=(true == true))
  (show WShape.has [] (.bool true) .bool=true by first|rfl|decide|simp[WShape.has,WShape.arms,WShape.armsAll])
  (show(WTm.eq .res (.lit (.bool true))).value [] { args:=args,res:=some (.bool true),after:=args }=some (.bool (true == true))from w_eq_bool (w_res rfl) w_lit) rfl
theorem Vh{l:OpenLaw}{n:Nat}{q:bh}{loose:List Str}{XP:(Str->Option Value)->Heap->Prop}{YP:World->Heap->Prop}{d:QW}
  (hn:l.most=some n) (hdf:d.params.defaults=[])
  (call:∀ (w:World) (s₀ s₁:Shared) (mg mb:Str->Option Value) (fa:Addr) (o:Obj) (pm cd doc:Value) (a:Addr) (vs:List Value) (ns:List Int),
   Ground q loose [] XP w s₀ mg mb s₁.heap->YP w s₁.heap ->
   s₁.heap.get? fa=some o->o.data=.func (docDef d.name d.params d.body d.scope pm cd doc)->s₁.heap.CodeRec cd d.name->mg d.name=some (.ref fa) ->
   s₁.heap.get? a=some { cls:=.type "list",data:=.seq vs.toArray }->IntsAre vs ns->ns.length<=n->s₁.gens=#[] ->
   ig (model l.prog w) Bo (.call (.ref fa) ⟨[.ref a],[]⟩) (fun r s'=>r = .ok (.ret (.bool true))/\OldK s₁.heap s'.heap/\s'.os=s₁.os/\sW s'.gens) s₁) :
  WalkO q loose XP YP l.row.toRowW d [] (fun f vs=>QG f vs):=by
 intro w s₀ s₁ mg mb G Y fa o pm cd doc dV kV ho hd hcd hD hmg hg args vals as hpre hlay hrd hwl hlo;obtain rfl:dV=.none:=Dflts.none hD hdf;obtain rfl:kV=.none:=Dflts.noKw hD;obtain⟨a,vs,ns,rfl,rfl,hobj,hints,hlen⟩:=adg hn hpre hwl;refine enter_call (vm (call w s₀ s₁ mg mb fa o pm cd doc a vs ns G Y ho (fd_plain hd) hcd hmg hobj hints hlen hg) fun r s' hq=>?_);obtain⟨rfl,h2,h3,h4⟩:=hq;exact⟨.inl ⟨.bool true,.bool true,[],rfl,fun _=>rfl,.bool true,adh l _,fun _=>⟨List.Pairwise.nil,fun _ hm=>(nomatch hm)⟩⟩,h2,h3,h4⟩
section
variable{prog:bh}{w:World}{A:bY}{E:Value->Shared->Prop}{s:Shared}{K:Frag}
noncomputable def ledger(h:Heap)(L d:Addr):List (Addr × Obj):=(jY h.objs.size).filterMap fun a=>if a=L\/a=d then none else(h.get? a).map fun o=>(a,o)
end
end Att
namespace L2
open PySem PySem.Spec PyProof.Rows
theorem mR:∀{vs:List Value}{ns:List Int},IntsAre vs ns->Vals (ns.map V.int) vs
 |_,_,.nil=>.nil
 |_,_,.cons n t h=>.cons ⟨t,rfl⟩ (mR h)
noncomputable def Only(H:Hp):Prop:=∀b,H b=none\/∃o xs,H b=some (.frz o (.lst xs))
theorem aiu{P:bh}{w:World}{K:bB}{mg mb:Str->Option Value}{CX:CXT}{k:Nat}{fa a:Addr}{fd:FuncData}{x:Str}{sp:Sp}{s₁:Shared}{vs:List Value}{ns:List Int}
  (KX:K.In s₁.heap) (hns:s₁.heap.Ns dH mg) (hb:s₁.heap.Ns Xz mb) (hbb:∀x:Str,x ≠ "__name__" -> mb x=vh x) (hlim:s₁.heap.NoLimit) (hg:s₁.gens=#[])
  (ha:s₁.heap.get? a=some { cls:=.type "list",data:=.seq vs.toArray }) (hi:IntsAre vs ns) (hl:ns.length<=sizeLine) (hr:jQ k Bo)
  (F:∀base:Heap,K.In base->base.Ns dH mg->bZ P w K mg base CX k fa fd [x] sp) (hbind:∀(s:Shared)(u:Value),FN s fd ⟨[u],[]⟩ [(x,u)])
  (hsp:∀H:Hp,Only H->SqL K H a (ns.map V.int)->sp [.ref a] H (fun v _=>v=.bl true) fun _ _ _=>False)
  (hCX:∀H e s',CX [] H s₁ (fun _ _ _=>False) e s'->False):
  ig (model P w) Bo (.call (.ref fa) ⟨[.ref a],[]⟩) (fun r s'=>r=.ok (.ret (.bool true))/\OldK s₁.heap s'.heap/\s'.os=s₁.os/\sW s'.gens) s₁:=by
 have rv:=mR hi;have lenV:=hi.length;have core:∀H:Hp,Only H->SqL K H a (ns.map V.int)->HOk P w H s₁.heap->(∀b,H b≠none->b=a)->(H a≠none->K.lookup a=none) ->
   ig (model P w) Bo (.call (.ref fa) ⟨[.ref a],[]⟩) (fun r s'=>r=.ok (.ret (.bool true))/\OldK s₁.heap s'.heap/\s'.os=s₁.os/\sW s'.gens) s₁:=by
  intro H hO hS hok hA hK;have aa9:∀{b:Addr}{o:Obj},s₁.heap.get? b=some o->H b=none->(Sh s₁.heap H).get? b=some o:=fun e n=>ah6 e n;have noA:∀{b:Addr}{o:Obj}{es:Array XJ}{ep:Nat},s₁.heap.get? b=some o->o.data=.dict es ep->H b=none:=fun {b o es ep} e d=>by
   cases q:H b with
   |none=>rfl
   |some u =>
    have e':b=a:=hA b (by rw[q];simp);subst e';rw[ha]at e;cases e;have d':Data.seq vs.toArray _=Data.dict es ep:=d;cases d'
  have nsK:∀ {b:Addr} {m:Str->Option Value},s₁.heap.Ns b m->(Sh s₁.heap H).Ns b m:=fun {b m} ⟨o,es,ep,e,d,r⟩=>⟨o,es,ep,aa9 e (noA e d),d,r⟩;have hKb:K.In (Sh s₁.heap H):=fun b o e=>aa9 (KX b o e) (by
   cases q:H b with
   |none=>rfl
   |some u =>
    have e':b=a:=hA b (by rw [q];simp);subst e';rw [hK (by rw [q];simp)] at e;cases e)
  have hM:Mod K mg (Sh s₁.heap H):=⟨hKb,nsK hns,⟨mb,nsK hb,hbb⟩,let ⟨mc,h1,h2⟩:=hlim;⟨mc,nsK h1,h2⟩⟩;have e0:NT P w K mg (Sh s₁.heap H) Bo [] s₁ H:=⟨rfl,hM,fun b o e=>akt e,Ri (ac1 _ _),trivial,fun b hb=>absurd (show b∈([]:List Addr)from hb) (by simp),hok,.of_eq hg⟩;refine vm ((F _ hKb (nsK hns)).run Bo [] s₁ H ⟨[.ref a],[]⟩ [.ref a] [.ref a] _ _ hr e0 (hbind s₁ (.ref a)) (.cons rfl .nil) (hsp H hO hS)) fun r s' h=>?_;cases r with
  |error e=>exact(hCX H e s' h).elim
  |ok fl =>
   cases fl with
   |next=>exact lB h
   |brk=>exact lB h
   |cont=>exact lB h
   |ret u =>
    obtain⟨v,H',os,bare,un,hok',r',q⟩:=h;have q':v=.bl true:=q;subst q';obtain rfl:u=Value.bool true:=r';refine⟨rfl,OldK.of_keep fun b o e=>?_,os,bare⟩;cases q:H b with
    |none=>exact un.keep b o e q (by intro z;exact absurd (show b∈([]:List Addr)from z) (by simp)) (by simp)
    |some u =>
     rcases hO b with z|⟨ob,xs,z⟩
     ·rw[q]at z;cases z
     ·have z2:=un.CP b ob _ z;obtain⟨e1,_⟩:=hok b _ z;obtain⟨e2,_⟩:=hok' b _ z2;rw[e]at e1;cases e1;exact e2
 cases hk:K.lookup a with
 |some o =>
  have e:=KX a o hk;rw[ha]at e;cases e;refine core (fun _=>none) (fun _=>.inl rfl) (.inr ⟨_,vs.toArray,_,hk,rfl,rfl,rfl,by rw[dh,lenV];exact hl,by simpa using rv⟩) (fun b u z=>by have z':(none:Option HO)=some u:=z;cases z') (fun b z=>absurd rfl z) fun z=>absurd rfl z
 |none =>
  refine core (fun b=>if b=a then some (.frz { cls:=.type "list",data:=.seq vs.toArray } (.lst (ns.map V.int)))else none) (fun b=>?_) (.inl (.inr ⟨{ cls:=.type "list",data:=.seq vs.toArray },if_pos rfl⟩)) (fun b u z=>?_) (fun b z=>?_) fun _=>hk
  ·by_cases hb:b=a
   ·exact .inr ⟨_,_,if_pos hb⟩
   ·exact .inl (if_neg hb)
  ·by_cases hb:b=a
   ·have z':=(if_pos hb).symm.trans z;cases z';subst hb;exact⟨ha,by rw[aV];exact hl,vs,_,rv,ha⟩
   ·have z':=(if_neg hb).symm.trans z;cases z'
  ·by_cases hb:b=a
   ·exact hb
   ·exact absurd (if_neg hb) z
noncomputable abbrev KOf{K:bB}{h:Heap}(_:K.In h):bB:=K
theorem akE{l:PySem.W.OpenLaw}{n k:Nat}{q:bh}{loose:List Str}{XP:(Str->Option Value)->Heap->Prop}{YP:World->Heap->Prop}{d:QW}{K:FQ->bB}{CX:World->CXT}{sp:World->Sp}{x:Str}
  (hn:l.most=some n) (hn2:n<=sizeLine) (hdf:d.params.defaults=[]) (hr:jQ k Bo)
  (hY:∀(w:World)(h:Heap),YP w h->(K w.params).In h)
  (F:∀ (w:World) (mg:Str->Option Value) (fa:Addr) (h:Heap),(K w.params).In h->h.Ns dH mg->mg d.name=some (.ref fa) ->
   ∃fd:FuncData,(∀(s:Shared)(u:Value),FN s fd ⟨[u],[]⟩ [(x,u)]) /\
    ∀ base:Heap,(K w.params).In base->base.Ns dH mg->bZ l.prog w (K w.params) mg base (CX w) k fa fd [x] (sp w))
  (hsp:∀(w:World)(H:Hp)(a:Addr)(ns:List Int),ns.length<=n->Only H->SqL (K w.params) H a (ns.map V.int)->sp w [.ref a] H (fun v _=>v=.bl true) fun _ _ _=>False)
  (hCX:∀(w:World)(H:Hp)(s:Shared)(e:Value)(s':Shared),CX w [] H s (fun _ _ _=>False) e s'->False):
  Yc q loose XP YP l.row.toRowW d [] (fun f vs=>QG f vs):=by
 refine Att.Vh hn hdf fun w s₀ s₁ mg mb fa o pm cd doc a vs ns G Y ho hd hcd hmg hobj hints hlen hg=>?_;have KX:=hY w _ Y;obtain⟨fd,hb,hF⟩:=F w mg fa _ KX G.T.g hmg;exact aiu KX G.T.g G.T.b G.T.builtins G.T.nolimit hg hobj hints (eN hlen hn2) hr hF hb (fun H hO hS=>hsp w H a ns hlen hO hS) fun H e s'=>hCX w H s₁ e s'
noncomputable abbrev CX0:CXT:=fun _ _ _ _ _ _=>False
noncomputable abbrev E0:XK:=fun _ _ _=>False
theorem aL{X:Cx}:Passes CX0 X E0:=fun _ _ _ _ _ _ _ h=>h.elim
structure Fun(K:bB)(x qual:Str)(st:Stmt)(f:Addr)(fd:FuncData):Prop where
 ex:∃(oc:Value)(od:Option Addr)(kV doc pm:Value)(an:Option Addr)(cdv ct:Value) (osl:Array (Option Value)),
  fd=oh x qual (m7 st) (jU st) (aF st) .none kV doc pm an cdv ct/\K.lookup f=some ⟨oc,od,.func fd,osl⟩/\Ka K cdv qual=true
 kp:vq K (.ref f)=true
section
variable{P:bh}{w:World}{K:bB}{mg:Str->Option Value}{base:Heap}
theorem Fun.ok{x qual:Str}{st:Stmt}{f:Addr}{fd:FuncData}{N ps:List Str}{k:Nat}{sp:Sp}(F:Fun K x qual st f fd)(S:aK N ps (aF st))(len:∀vs H Q E,sp vs H Q E->vs.length=ps.length)
  (hbody:∀ (cdv:Value) (A:bY) (outer:List Env) (s:Shared) (H:Hp) (vs:List V) (Q:VK) (E:XK),jQ k (A.deeper (j4 qual (aF st) s.heap.objs.size f cdv))->sp vs H Q E ->
   ∃ t,PSs (BK CX0 P w K mg base N qual (aF st) f cdv A outer s H E).nox (jU st) t/\t { nx:=fun _ H'=>Q .non H',rt:=Q } (start N vs) H):bZ P w K mg base CX0 (k+1) f fd ps sp:=by
 obtain⟨oc,od,kV,doc,pm,an,cdv,ct,osl,rfl,lk,hcd⟩:=F.ex;refine al1 lk hcd S len fun A outer s H vs Q E hr hsp=>?_;obtain⟨t,h,q⟩:=hbody cdv A outer s H vs Q E hr hsp;exact⟨t,h.nox,q⟩
theorem Fun.binds{x qual:Str}{st:Stmt}{f:Addr}{fd:FuncData}{ps:List Str}(F:Fun K x qual st f fd)
  (h:∀(kV doc pm:Value)(an:Option Addr)(cdv ct:Value)(us:List Value),us.length=ps.length->Fz (oh x qual (m7 st) (jU st) (aF st) .none kV doc pm an cdv ct) ⟨us,[]⟩=pure (ps.zip us)):Binds K fd ps []:=by
 obtain⟨oc,od,kV,doc,pm,an,cdv,ct,osl,rfl,lk,hcd⟩:=F.ex;exact .all (h kV doc pm an cdv ct)
theorem aoz{x qual:Str}{st:Stmt}{f:Addr}{oc:Value}{od an:Option Addr}{osl:Array (Option Value)}{kV doc pm cdv ct:Value}(l:K.lookup f=some ⟨oc,od,.func (oh x qual (m7 st) (jU st) (aF st) .none kV doc pm an cdv ct),osl⟩)
  (c:Ka K cdv qual=true) (k:vq K (.ref f)=true):Fun K x qual st f (oh x qual (m7 st) (jU st) (aF st) .none kV doc pm an cdv ct):=⟨⟨oc,od,kV,doc,pm,an,cdv,ct,osl,rfl,l,c⟩,k⟩
end
theorem aY{A:bY}{k:Nat}(hr:jQ k A):A.units+1<cLine:=mD (afE (by decide:1<=64) _) hr.units
theorem bI{n:Nat}(h:n<=1000):n<sizeLine:=mD h (by decide)
section
variable{X:Cx}
theorem pv(i:Nat){x:Str}{pos:Pos}(hN:X.N[i]? = some x:=by rfl)(hv:Vis X.env.scope x:=by first|exact Or.inl rfl|exact Or.inr (Or.inl rfl)|exact Or.inr (Or.inr rfl))(hd:(x == ("__debug__" : Str))=false:=by decide)
  (hcd:(x == ("__classdict__" : Str))=false:=by decide):PE X (.Name x pos) (tVar i):=aol hN hv hd hcd
end
theorem uz{A B:Prop}(h:B):if false=true then A else B:=by
 rw[if_neg jr];exact h
theorem nO{A B:Prop}(h:A):if true=true then A else B:=by
 rw[if_pos rfl];exact h
theorem fO{c A B:Prop}[Decidable c](h1:c->A)(h2:¬ c->B):if c then A else B:=by
 by_cases h:c
 ·rw[if_pos h];exact h1 h
 ·rw[if_neg h];exact h2 h
theorem yH{c A B:Prop}[Decidable c](hc:c)(h:B):if(!decide c)=true then A else B:=by
 rw[decide_eq_true hc];exact uz h
noncomputable def Same(H H':Hp):Prop:=∀b o,H b=some o->H' b=some o
theorem Same.refl(H:Hp):Same H H:=fun _ _ h=>h
theorem Same.trans{H H1 H2:Hp}(a:Same H H1)(b:Same H1 H2):Same H H2:=fun c o h=>b c o (a c o h)
theorem Same.free{H H':Hp}(e:Same H H'){l:Addr}(h:H' l=Option.none):H l=Option.none:=by
 cases q:H l with
 |none=>rfl
 |some o =>
  rw[e l o q]at h;cases h
theorem Same.seq{K:bB}{H H':Hp}{a:Addr}{xs:List V}(e:Same H H')(h:SqL K H a xs):SqL K H' a xs:=by
 rcases h with(h|⟨o,h⟩)|h
 ·exact .inl (.inl (e _ _ h))
 ·exact .inl (.inr ⟨o,e _ _ h⟩)
 ·exact .inr h
section
variable{κ:Type}[DecidableEq κ]
end
end L2
set_option Elab.async false
set_option maxRecDepth 100000
namespace L2
open PySem PySem.Spec PyProof.Rows
section
variable{X:Cx}
noncomputable def Vi(K:bB):List V->Hp->VK->Prop:=fun xs H Q=>(∃x n,xs=[x]/\LenV K x H n/\Q (.int n) H)\/∃a kvs,xs=[V.ref a]/\Rd H a (.dK kvs)/\Q (.int kvs.length) H
theorem ZR:ju X (.builtin "len") (fun xs H Q=>∃a kvs,xs=[V.ref a]/\Rd H a (.dK kvs)/\Q (.int kvs.length) H):=by
 intro pins s σ H xs us Q I r h;obtain⟨a,kvs,rfl,ha,q⟩:=h;obtain⟨u,rfl,ru⟩:=vals1 r;cases ru;exact d_len I ha fun t s' I'=>⟨.int kvs.length,H,I',⟨t,rfl⟩,q⟩
theorem bA:ju X (.builtin "len") (Vi X.K):=aii.or ZR
noncomputable def Dd(K:bB):R2:=fun x y H Q=>rIxL K x y H Q\/rIxT K x y H Q\/∃a v,x=.ref a/\Ik H a y (some v)/\Q v H
theorem akF(hu:X.A.units+1<cLine):IxR X (fun x y H Q=>∃a v,x=.ref a/\Ik H a y (some v)/\Q v H):=by
 intro value slice pins s σ H x y v u Q I rx ry h hs;obtain⟨a,z,rfl,g,q⟩:=h;obtain rfl:v=Value.ref a:=rx;have hT:=Vg I g;unfold Rt;refine aJ ?_;rw[getitemInPython_of_ne hT.not_modules];refine aJ (Fl hT PySem.F.slot_dict_getitem.lookup ?_);have fin:wpAny (model X.prog X.w) X.A (Xw slice false (.ref a) u) (fun r s₃=>wpAny (model X.prog X.w) X.A (letTemporaryGo value (.ref a) r >>= fun _=>pure r) (EP X pins σ Q) X.xe s₃) X.xe s:=by
  rw[hs];exact wpAny_operating (ade hu I g ry fun w' s3 I3 rw'=>aJ (wpAny_letTemporaryGo (aU ⟨z,H,I3,rw',q⟩)))
 first
  |exact aU (aJ fin)
  |exact aJ (aU (aJ fin))
  |exact aJ fin
theorem ixG(hu:X.A.units+1<cLine):IxR X (Dd X.K):=akB.or (aor.or (akF hu))
noncomputable def al5:V->V->V->Hp->(Hp->Prop)->Prop:=fun o i v H Q=>al2 o i v H Q\/∃a H',o=.ref a/\air H a i v H'/\Q H'
theorem setG(hu:X.A.units+1<cLine):PSet X al5:=by
 intro pins s σ H o i v ov iv u Q I ro ri rv h;rcases h with h|⟨a,H',rfl,g,q⟩
 ·exact set_list pins s σ H o i v ov iv u Q I ro ri rv h
 ·obtain rfl:ov=Value.ref a:=ro;exact adf hu I g ri rv fun s' I'=>⟨H',I',q⟩
noncomputable def rInG(K:bB)(neg:Bool):R2:=fun x y H Q=>rIn K neg x y H Q\/∃a o,y=.ref a/\Ik H a x o/\Q (.bl (if neg then !o.isSome else o.isSome)) H
theorem aoA(hu:X.A.units+1<cLine):OpR X (iQ .NotIn) (rInG X.K true):=by
 intro pins s σ H x y v u Q I rx ry h;rcases h with h|⟨a,o,rfl,g,q⟩
 ·exact SJ pins s σ H x y v u Q I rx ry h
 ·obtain rfl:u=Value.ref a:=ry;exact akD hu I g rx fun s' I'=>⟨.bl (!o.isSome),H,I',rfl,q⟩
noncomputable def aoB:List V->Hp->VK->Prop:=fun xs H Q=>∃a kvs,xs=[V.ref a]/\Rd H a (.dK kvs)/\∀p,H p=none->Q (.ref p) (upd H p (.dK kvs))
theorem K7:ju X (.type "dict") aoB:=by
 intro pins s σ H xs us Q I r h;obtain⟨a,kvs,rfl,ha,q⟩:=h;obtain⟨u,rfl,ru⟩:=vals1 r;cases ru;exact ait I ha fun p s' hp I'=>⟨.ref p,_,I',rfl,q p hp⟩
theorem abb{P:bh}{w:World}{k:Key}{u:Value}(h:(cP P w).is k u=true):RelV (kV k) u:=by
 rcases gq (show KQ k u=true from h)with⟨i,t,rfl,rfl⟩|⟨x,t,rfl,rfl⟩
 ·exact⟨t,rfl⟩
 ·exact⟨t,rfl⟩
theorem zO{P:bh}{w:World}:∀{kvs:List (Key × V)} {vs:List (Key × Value)} {us:List Value},KV kvs vs->us.length=vs.length ->
  (∀(j:Nat)(u:Value),us[j]? = some u->∃k x,vs[j]? = some (k,x)/\(cP P w).is k u=true)->Vals (kvs.map fun p=>kV p.1) us
 |[],_,[],.nil,_,_=>.nil
 |[],_,_::_,.nil,hl,_=>by cases hl
 |_::_,_,[],.cons _ _,hl,_=>by cases hl
 |p::ps,_,u::us,.cons (b:=q) r t,hl,h=>by
  obtain⟨k,x,e,hk⟩:=h 0 u rfl;have e':q=(k,x):=by simpa using e
  have e2:p.1=k:=by rw[r.1,e']
  refine .cons (by show RelV (kV p.1) u;rw[e2];exact abb hk) (zO (P:=P) (w:=w) t (by simpa using hl) fun j v hv=>?_);obtain⟨k',x',e'',hk'⟩:=h (j+1) v (by simpa using hv);exact⟨k',x',by simpa using e'',hk'⟩
theorem O5:∀{kvs:List (Key × V)} {vs:List (Key × Value)} {us:List Value},KV kvs vs->us.length=vs.length ->
  (∀(j:Nat)(u:Value),us[j]? = some u->∃k,vs[j]? = some (k,u))->Vals (kvs.map (·.2)) us
 |[],_,[],.nil,_,_=>.nil
 |[],_,_::_,.nil,hl,_=>by cases hl
 |_::_,_,[],.cons _ _,hl,_=>by cases hl
 |p::ps,_,u::us,.cons (b:=q) r t,hl,h=>by
  obtain⟨k,e⟩:=h 0 u rfl;have e':q=(k,u):=by simpa using e
  refine .cons (by have:=r.2;rw[e']at this;exact this) (O5 t (by simpa using hl) fun j v hv=>?_);obtain⟨k',e''⟩:=h (j+1) v (by simpa using hv);exact⟨k',by simpa using e''⟩
noncomputable def aiv:List V->Hp->VK->Prop:=fun xs H Q=>∃a kvs,xs=[V.ref a]/\Rd H a (.dK kvs)/\∀p,H p=none->Q (.ref p) (upd H p (.lst (kvs.map fun p=>kV p.1)))
theorem ZS(hc:X.calm=true):ju X (.type "list") aiv:=by
 intro pins s σ H xs us Q I r h;obtain⟨a,kvs,rfl,ha,q⟩:=h;obtain⟨u,rfl,ru⟩:=vals1 r;cases ru;obtain⟨z,hd,vs,rel,dd⟩:=wD I.hok ha;obtain⟨ep,hat⟩:=dd.dictAt;have hl:=rel.length;refine PySem.W.kdl_call (afy (knd:=cP X.prog X.w) (kvs:=vs) (ep:=ep) hd) (I.ok.hd hc) hat (by rw[<-hl];exact z) fun h' tk acc' c' hk hD hacc=>?_;have hv:Vals (kvs.map fun p=>kV p.1) acc'.toList:=zO rel (by rw[mF];exact hacc.1) fun j v e=>hacc.2 j v (by rw[<-qQ];exact e);refine⟨.ref s.heap.objs.size,_,I.laid (a:=s.heap.objs.size) (o:=.lst (kvs.map fun p=>kV p.1)) (t':=tk) hk (bG _) ?_,rfl,q _ (I.hok.fresh (bG _))⟩;exact⟨by rw[aV];exact z,acc'.toList,c',hv,by first|(rw[Yn];exact hD)|simpa using hD⟩
noncomputable def aoC(K:bB):List V->Hp->VK->Prop:=fun xs H Q=>(∃p ys,xs=[.ref p]/\(SqL K H p ys\/SqT K H p ys)/\∀l,H l=none->Q (.ref l) (upd H l (.lst ys)))\/aiv xs H Q
theorem K8(hc:X.calm=true):ju X (.type "list") (aoC X.K):=SM.or (ZS hc)
noncomputable def rIsi(K:bB):List V->Hp->VK->Prop:=fun xs H Q=>∃x c t cv b,xs=[x,c]/\RelV c cv/\(∀u,RelV c u->u=cv)/\Gs K H x t/\xV K t cv=some b/\Q (.bl b) H
theorem call_isinstance:ju X (.builtin "isinstance") (rIsi X.K):=by
 intro pins s σ H xs us Q I r h;obtain⟨x,c,t,cv,b,rfl,rc,inj,ty,e,q⟩:=h;obtain⟨u,w',rfl,ru,rw'⟩:=vals2 r;obtain rfl:=inj w' rw';exact ada I ru ty e fun tk=>⟨.bl b,H,I.tok tk,rfl,q⟩
variable{a b c d:Expr}{ta tb tc td:TE}{pos:Pos}
end
section
variable{P:bh}{w:World}{H H':Hp}{h h':Heap}{a:Addr}{o:HO}
theorem dR.ex(x:dR P w H h a o):∃u,h.get? a=some u:=by
 cases o with
 |lst xs=>obtain⟨_,_,_,_,e⟩:=x;exact⟨_,e⟩
 |tup xs=>obtain⟨_,_,_,ob,e,_⟩:=x;exact⟨ob,e⟩
 |dK kvs=>obtain⟨_,_,_,_,o,_,_,e,_⟩:=x;exact⟨o,e⟩
 |dT kvs=>obtain⟨_,_,_,_,o,_,_,e,_⟩:=x;exact⟨o,e⟩
 |set S n=>obtain⟨o,_,_,_,e,_⟩:=x;exact⟨o,e⟩
 |ins C dx fs=>obtain⟨_,_,_,e,_⟩:=x;exact⟨_,e⟩
 |own y=>exact x
 |xd fs=>obtain⟨_,⟨o,_,_,e,_⟩,_⟩:=x;exact⟨o,e⟩
 |rng lo hi=>obtain⟨_,_,_,e⟩:=x;exact⟨_,e⟩
 |frz ob u=>obtain⟨e,_⟩:=x;exact⟨_,e⟩
 |tbl ps=>exact⟨_,show h.get? a=some _ from x⟩
 |met f y=>exact⟨_,show h.get? a=some _ from x⟩
 |ext φ=>obtain⟨_,⟨o,e⟩,_⟩:=x;exact⟨o,e⟩
theorem HOk.Ht(x:HOk P w H h)(k:∀b u,h.get? b=some u->h'.get? b=some u)(hn:H a=none)(new:dR P w (upd H a o) h' a o):HOk P w (upd H a o) h':=fun b u e=>by
 by_cases hb:b=a
 ·subst hb;rw[ak]at e;cases e;exact new
 ·rw[aB hb]at e;exact(x b u e).stay (fun c v _ q=>k c v q) (fun c q=>by rw[aB (au q hn)];exact q) fun c xs q=>by rw[aB (au q hn)];exact q
theorem Un.Ht{fs ex:List Addr}(k:∀b u,h.get? b=some u->h'.get? b=some u)(hne:∀b u,h.get? b=some u->b≠a)(hn:H a=none):Un fs ex H (upd H a o) h h' where
 keep:=fun b u q _ _ _=>k b u q
 slot:=fun b u q _ _ _=>⟨u.slots,k b u q⟩
 free:=fun b u q n _=>by rw[aB (hne b u q)];exact n
 there:=fun b u q _=>⟨u,k b u q⟩
 tups:=fun b xs q=>by rw[aB (au q hn)];exact q
 CP:=fun b u xs q=>by rw[aB (au q hn)];exact q
 Ii:=fun b ps q=>⟨#[],by rw[aB (au q hn),q];simp⟩
end
section
variable{X:Cx}{pins:List (Addr × Obj)}{σ:St}{H H':Hp}{s:Shared}{h':Heap}
theorem Inv.none_of(I:Inv X pins σ H s){a:Addr}(hne:∀b u,s.heap.get? b=some u->b≠a):H a=none:=by
 cases q:H a with
 |none=>rfl
 |some u =>
  obtain⟨v,e⟩:=(I.hok a u q).ex;exact absurd rfl (hne a v e)
theorem Inv.Ht{a:Addr}{o:HO}{t':Nat}(I:Inv X pins σ H s)(k:∀b u,s.heap.get? b=some u->h'.get? b=some u)(hne:∀b u,s.heap.get? b=some u->b≠a)(new:dR X.prog X.w (upd H a o) h' a o):
  Inv X pins σ (upd H a o) { s with heap:=h',toks:=t' }:=I.un (Un.Ht k hne (I.none_of hne)) (I.hok.Ht k (I.none_of hne) new)
theorem Inv.aiw{t':Nat}{it t:Addr}{o:HO}(I:Inv X pins σ H s)(k:∀b u,b≠it->s.heap.get? b=some u->h'.get? b=some u)(hie:∃u,h'.get? it=some u)(hn:H it=none)(hL:it≠X.env.locals)
  (h1:it∈X.ex\/X.s₀.heap.objs.size<=it) (h2:∀x c,X.env.cells.lookup x=some c->c≠it) (h3:∀p∈X.pn++pins,p.1≠it) (ht:s.heap.objs.size<=t)
  (new:dR X.prog X.w (upd H t o) h' t o):Inv X pins σ (upd H t o) { s with heap:=h',toks:=t' }:=by
 have nit:∀b u,H b=some u->b≠it:=fun b u e z=>by rw[z,hn]at e;cases e
 have ntt:H t=none:=I.hok.fresh ht;have lt:∀b u,s.heap.get? b=some u->b≠t:=fun b u e=>cH (fJ (bU e) ht);refine I.step (g':=s.gens) (d':=s.drawn) (ch:=[it]) (fun b hb=>?_) (fun b o _ _ hc e _=>k b o (fun z=>hc (by simp[z])) e) (fun b o _ _ hc e _=>⟨o.slots,k b o (fun z=>hc (by simp[z])) e⟩) (fun b u _ e n=>by rw[aB (lt b u e)];exact n)
  (fun b o hc e=>⟨o,k b o (fun z=>hc (by simp[z])) e⟩) (fun b xs e=>by rw[aB (au e ntt)];exact e) (fun b q u e=>by rw[aB (au e ntt)];exact e) (fun b ps e=>⟨#[],by rw[aB (au e ntt),e];simp⟩) (fun m hm=>?_) (fun b u e=>?_) I.bare
 ·have e:b=it:=by simpa using hb
  subst e;exact⟨h1,hL,h2,h3⟩
 ·obtain⟨o,es,ep,ho,r⟩:=hm;exact⟨o,es,ep,k _ o (aX hL) ho,r⟩
 ·by_cases hb:b=t
  ·subst hb;rw[ak]at e;cases e;exact new
  ·rw[aB hb]at e;refine(I.hok b u e).stay (fun c v hc q=>k c v ?_ q) (fun c q=>by rw[aB (au q ntt)];exact q) fun c xs q=>by rw[aB (au q ntt)];exact q
   rcases hc with z|z
   ·rw[z];exact nit b u e
   ·exact nit c _ z
theorem Inv.freeze{a:Addr}{kvs:List (Key × V)}(I:Inv X pins σ H s)(e:H a=some (.dK kvs)):∃o es ep,o.data=.dict es ep/\s.heap.get? a=some o/\Inv X pins σ (upd H a (.frz o (.dK kvs))) s:=by
 obtain⟨z,hd,vs,rel,o,es,ep,ho,hx⟩:=al4 I.hok e;refine⟨o,es,ep,hx.2.1,ho,?_⟩;have I':Inv X pins σ (upd H a (.frz o (.dK kvs))) { s with heap:=s.heap,toks:=s.toks }:=I.write (x:=a) (e:=a) (by rw[e];exact trivial) (.inl rfl) (fun _ _ _ q=>q) ⟨o,ho⟩ ⟨ho,z,hd,vs,rel,o,es,ep,ho,hx⟩;exact I'
theorem Inv.thaw{a:Addr}{o:Obj}{kvs:List (Key × V)}(I:Inv X pins σ H s)(e:H a=some (.frz o (.dK kvs)))(th:∀q u,X.H₀ a≠some (.frz q u)):Inv X pins σ (upd H a (.dK kvs)) s:=by
 have ne:∀b,H b=none->b≠a:=fun b n z=>by rw[z,e]at n;cases n
 have nt:∀b xs,H b=some (.tup xs)->b≠a:=fun b xs n z=>by rw[z,e]at n;cases n
 have no:∀b y,H b=some (.own y)->b≠a:=fun b y n z=>by rw[z,e]at n;cases n
 refine⟨I.ok,I.os,I.bare,⟨I.base.keep,I.base.slot,fun b ob q n hx=>?_,I.base.there,fun b xs q=>?_,fun b ob u q=>?_,fun b ps q=>?_⟩,I.loc,I.cell,?_,fun x c q=>?_,fun p hp=>?_,fun b u q=>?_,I.len⟩
 ·have n':=I.base.free b ob q n hx;rw[aB (ne b n')];exact n'
 ·have q':=I.base.tups b xs q;rw[aB (nt b xs q')];exact q'
 ·have q':=I.base.CP b ob u q;rw[aB (fun(z:b=a)=>th ob u (z ▸ q))];exact q'
 ·obtain⟨m,q'⟩:=I.base.Ii b ps q;exact⟨m,by rw[aB (fun z=>by rw[z,e]at q';cases q')];exact q'⟩
 ·rw[aB (ne _ I.free)];exact I.free
 ·have n:=I.pR x c q;rw[aB (ne _ n)];exact n
 ·obtain⟨h1,n,r⟩:=I.pin p hp;exact⟨h1,by rw[aB (ne _ n)];exact n,r⟩
 ·by_cases hb:b=a
  ·subst hb;rw[ak]at q;cases q;obtain⟨_,r⟩:=(show dR X.prog X.w H s.heap b (.frz o (.dK kvs))from I.hok b _ e);exact r
  ·rw[aB hb]at q;exact(I.hok b u q).stay (fun _ _ _ r=>r) (fun c r=>by rw[aB (no c b r)];exact r) fun c xs r=>by rw[aB (nt c xs r)];exact r
end
noncomputable def Iti(a:Addr)(o:Obj)(kvs:List (Key × V)):It:=
 ⟨fun i H=>H a=some (.frz o (.dK kvs))/\i<kvs.length,fun i H x H'=>∃p t,kvs[i]? = some p/\H t=none/\x=.ref t/\H'=upd H t (.tup [kV p.1,p.2]),fun i H=>H a=some (.frz o (.dK kvs))/\kvs.length<=i⟩
theorem ZV{P:bh}{w:World}{H:Hp}{h:Heap}{a:Addr}{o:Obj}{kvs:List (Key × V)}{es:Array XJ}{ep:Nat}(hok:HOk P w H h)(e:H a=some (.frz o (.dK kvs)))(hd:o.data=.dict es ep):
  ∃vs,KV kvs vs/\h.DictAt (cP P w) a vs ep:=by
 obtain⟨ho,_,_,vs,rel,o',es',ep',ho',h2,h3,r⟩:=(show dR P w H h a (.frz o (.dK kvs))from hok a _ e);rw[ho]at ho';cases ho';rw[hd]at h3;cases h3;exact⟨vs,rel,o,_,ho,h2,hd,r⟩
theorem KV.at{kvs:List (Key × V)}{vs:List (Key × Value)}(r:KV kvs vs):∀{i:Nat}{p:Key × V},kvs[i]? = some p->∃v,vs[i]? = some (p.1,v)/\RelV p.2 v:=by
 unfold KV at r
 induction r with
 |nil=>intro i p e;simp at e
 | @cons a b as bs h t ih =>
  intro i p e;cases i with
  |zero =>
   have e':a=p:=by simpa using e
   subst e';exact⟨b.2,by rw[h.1];rfl,h.2⟩
  |succ j =>
   obtain⟨v,h1,h2⟩:=ih (i:=j) (p:=p) (by simpa using e);exact⟨v,by simpa using h1,h2⟩
theorem zZ:vp table "dict_itemiterator.__iter__" = some eG.«dict_keyiterator.__iter__» :=
 Qw (id' := "dict_keyiterator.__iter__") (by kernel_rfl) rfl tb_g% (by kernel_rfl)
theorem wV{prog:bh}{w:World}{A:bY}{E:Value->Shared->Prop}{s:Shared}{it d:Addr}{i n ep:Nat}{ok ov:Value}{Q:Value->Shared->Prop}(hit:IsItemIter s.heap it d i n ep ok ov)(h:Q (.ref it) s):
  wpAny (model prog w) A (xT (.ref it)) Q E s:=by
 have hT:s.TypeIs (.ref it) "dict_itemiterator" := ⟨_,hit,rfl⟩;refine Xk hT F.slot_dict_itemiterator_iter (z9 F.slot_dict_itemiterator_iter hT zZ ?_ (F.args_dict_itemiterator_iter_1 _));show wpAny _ _ (ret (.ref it)) _ _ s;exact aU ⟨_,rfl,"dict_itemiterator",_,hT,F.slot_dict_itemiterator_next.lookup,h⟩
theorem ZW{P:bh}{w:World}{K:bB}{elts:List Expr}{x1}{tpos:Pos}(a it:Addr)(o:Obj)(kvs:List (Key × V)){es:Array XJ}{ep:Nat}(hd:o.data=.dict es ep):
  Turn P w K (.Tuple elts x1 tpos) (Iti a o kvs) [it] it (fun i h=>∃ok ov,IsItemIter h it a i kvs.length ep ok ov) where
 mem:=by simp
 obj:=fun i h st b hb=>by
  have e:b=it:=by simpa using hb
  subst e;obtain⟨ok,ov,e⟩:=st;exact⟨_,e,fun v z=>by cases z⟩
 keep:=fun i h h' st k=>by
  obtain⟨ok,ov,e⟩:=st;exact⟨ok,ov,k it (by simp) _ e⟩
 item:=by
  intro X hP hw hK hc i pins s σ H E I hf st hg;subst hP hw hK;obtain⟨e,hi⟩:=hg;obtain⟨vs,rel,dm⟩:=ZV I.hok e hd;have hl:=rel.length;obtain⟨p,hp⟩:∃p,kvs[i]? = some p:=⟨kvs[i],by simp[hi]⟩;obtain⟨v,hv,rv⟩:=rel.at hp;obtain⟨f0,f1,f2,f3,f4,f5⟩:=hf it (by simp);obtain⟨ok,ov,st⟩:=st;refine wpAny_pyNext_items_item (knd:=cP X.prog X.w) (by rw[<-hl];exact st) dm hv fun key h' hkey heo ht hz hk=>?_;have hit:it<s.heap.objs.size:=bU st;have nt:H s.heap.objs.size=none:=I.hok.fresh (bG _);have I1:Inv X pins σ (upd H s.heap.objs.size (.tup [kV p.1,p.2])) { s with heap:=h' }:=I.aiw (t':=s.toks) hk ⟨_,heo⟩ f0 f1 f3 f4 f5 (bG _)
   ⟨by show 2<=sizeLine;decide,[key,v],.cons (abb hkey) (.cons rv .nil),⟨_,ht,rfl,_,rfl⟩⟩
  have n1:(upd H s.heap.objs.size (.tup [kV p.1,p.2])) it=none:=by rw[aB (cH hit)];exact f0
  refine⟨.ref s.heap.objs.size,rfl,wpAny_letOwnedTupleGo_items heo fun h2 he2 hs2=>?_⟩;refine⟨.ref s.heap.objs.size,_,I1.turned (t':=s.toks) (fun b ob hb q=>(hs2.2 b hb).trans q) n1 f1 f3 f4 f5,rfl,⟨p,_,hp,nt,rfl,rfl⟩,⟨key,v,by rw[<-hl]at he2;exact he2⟩,fun b hb=>?_⟩;have eb:b=it:=by simpa using hb
  subst eb;exact n1
 done:=by
  intro X hP hw hK hc i pins s σ H E I hf st hg;subst hP hw hK;obtain⟨e,hi⟩:=hg;obtain⟨vs,rel,dm⟩:=ZV I.hok e hd;have hl:=rel.length;obtain⟨f0,f1,f2,f3,f4,f5⟩:=hf it (by simp);obtain⟨ok,ov,st⟩:=st;exact wpAny_pyNext_items_end (knd:=cP X.prog X.w) (I.ok.hd hc) (by rw[<-hl];exact st) dm (by rw[WQ];lia) fun h' eb=>⟨rfl,I.turned (t':=s.toks) (fun b o hb e=>eb b o hb e) f0 f1 f3 f4 f5⟩
 self:=fun A i s Q E st h=>by
  obtain⟨ok,ov,e⟩:=st;exact wV e h
section
variable{X:Cx}{tg:Expr}
noncomputable abbrev Warm(X:Cx)(a:Addr):Prop:=∀q u,X.H₀ a≠some (.frz q u)
theorem Inv.warm{pins:List (Addr × Obj)}{σ:St}{H:Hp}{s:Shared}{a:Addr}{kvs:List (Key × V)}(I:Inv X pins σ H s)(e:H a=some (.dK kvs)):Warm X a:=fun q u z=>by
 have:=I.base.CP a q u z;rw[e]at this;cases this
noncomputable def aix(X:Cx)(td:TE):TI:=fun σ H R=>td σ H fun x H1=>∃a kvs,x=.ref a/\H1 a=some (.dK kvs)/\∀o,Warm X a->R (Iti a o kvs) (upd H1 a (.frz o (.dK kvs)))
structure MI(X:Cx)(o:Expr)(m:Str)(apos cpos:Pos):Prop where
 base:xK o m X.env (eval o X.env)=eval o X.env
 line:(apos.endLine == cpos.line)=true
theorem aiy{l:Expr}{td:TE}{elts:List Expr}{x1}{tpos apos cpos:Pos}(hl:PE X l td)(m:MI X l "items" apos cpos):PI X (.Tuple elts x1 tpos) (.Call (.Attribute l "items" apos) [] [] cpos) (aix X td):=by
 intro pins s σ H R I h;refine Qt (T := "dict") (id := "dict.items") m.base rfl m.line Rp afZ PySem.F.type_dict_items (thn (hl pins s σ H _ I h) fun v s1 ⟨x,H1,I1,r1,q1⟩=>?_);obtain ⟨a,kvs,rfl,e,q⟩:=q1;obtain rfl:v=Value.ref a:=r1;obtain ⟨t1,t2,hS⟩:=SN I1 (.inl ⟨kvs,.inl e⟩);refine ⟨t1,t2,?_⟩;obtain ⟨o,es,ep,hd,ho,If⟩:=I1.freeze e;obtain ⟨vs,rel,dm⟩:=ZV If.hok ak hd;have hl':=rel.length;refine Xn afZ PySem.F.entry_dict_items rfl (Qq ⟨rfl,t1,PySem.F.args_dict_items_1 _,_,meets_dict_items (cP X.prog X.w) a hS,⟨vs,dm.dictOf⟩,?_⟩);refine wpAny_pyIter_items (knd:=cP X.prog X.w) (d:=a) ⟨_,eE _ rfl,rfl,rfl⟩ (dm.push _) ?_;have I2:=If.kept (h':=s1.heap.push { cls:=.type "dict_items",data:=.fields #[.ref a] }) (t':=s1.toks) fun b ob e=>dX _ e;refine ⟨(s1.heap.push { cls:=.type "dict_items",data:=.fields #[.ref a] }).objs.size,[(s1.heap.push { cls:=.type "dict_items",data:=.fields #[.ref a] }).objs.size],_,_,_,rfl,I2.kept (t':=s1.toks) fun b ob e=>dX _ e,ZW a _ o kvs hd,
  ⟨.none,.none,by rw [hl'];exact eE _ rfl⟩,fun b hb=>?_,q o (I1.warm e)⟩
 have eb:b=(s1.heap.push { cls:=.type "dict_items",data:=.fields #[.ref a] }).objs.size:=by simpa using hb
 subst eb;exact I2.Zv (bG _) (I2.hok.fresh (bG _))
noncomputable def aiz(X:Cx)(D:Ends):Ends where
 nx:=fun σ H=>∃a kvs o,Warm X a/\H a=some (.frz o (.dK kvs))/\D.nx σ (upd H a (.dK kvs))
 rt:=fun v H=>∃a kvs o,Warm X a/\H a=some (.frz o (.dK kvs))/\D.rt v (upd H a (.dK kvs))
theorem akG{pins:List (Addr × Obj)}{D:Ends}{f:Flow}{s':Shared}(h:SP X pins (aiz X D) f s'):SP X pins D f s':=by
 cases f with
 |next =>
  obtain⟨σ',H',I,a,kvs,o,w,e,q⟩:=h;exact⟨σ',_,I.thaw e w,q⟩
 |brk =>
  obtain⟨σ',H',I,q⟩:=h;exact q.elim
 |cont =>
  obtain⟨σ',H',I,q⟩:=h;exact q.elim
 |ret u =>
  obtain⟨v,σ',H',I,r,a,kvs,o,w,e,q⟩:=h;exact⟨v,σ',_,I.thaw e w,r,q⟩
noncomputable def tForI(X:Cx)(td:TE)(g:TG)(tb:TS):TS:=fun D σ H=>tFor (aix X td) g tb (aiz X D) σ H
theorem abd{l:Expr}{td:TE}{body:List Stmt}{elts:List Expr}{x1}{tpos apos cpos:Pos}{g:TG}{tb:TS}{pos:Pos}(hp:XF (model X.prog X.w) X.A X.env X.xe)(hc:X.calm=true)(hl:PE X l td)(m:MI X l "items" apos cpos)
  (hg:PG X (.Tuple elts x1 tpos) g) (hb:PSs X body tb)
  (hs:∀x,Fb (.Call (.Attribute l "items" apos) [] [] cpos) X.env x=pure x:=by intro _;rfl):PS X (.For (.Tuple elts x1 tpos) (.Call (.Attribute l "items" apos) [] [] cpos) body [] pos) (tForI X td g tb):=
 fun pins s σ H D I h=>thn (j9 hp hc (aiy hl m) hg hb hs pins s σ H (aiz X D) I h) fun _ _ q=>akG q
theorem O6{a:Addr}{o:Obj}{kvs:List (Key × V)}{g:TG}{tb:TS}{D:Ends}{σ:St}{H:Hp}(Pv:Nat->St->Hp->Prop)(h0:Pv 0 σ H)(hl:∀i σ H,Pv i σ H->H a=some (.frz o (.dK kvs)))
  (hs:∀i p t σ H,kvs[i]? = some p->Pv i σ H->H t=none->g (.ref t) σ (upd H t (.tup [kV p.1,p.2])) fun σ2 H2=>tb { D with nx:=Pv (i+1),ct:=Pv (i+1),bk:=D.nx } σ2 H2) (hd:∀σ H,Pv kvs.length σ H->D.nx σ H):
  ∃W:Nat->Nat->St->Hp->Prop,(∃m,W 0 m σ H)/\∀i m σ H,W i m σ H ->
   ((Iti a o kvs).stop i H/\D.nx σ H)\/((Iti a o kvs).go i H/\∃N:St->Hp->Prop,(∀σ' H',N σ' H'->∃m',m'<m/\W (i+1) m' σ' H')/\∀x H',(Iti a o kvs).yld i H x H'->g x σ H' fun σ2 H2=>tb { D with nx:=N,ct:=N,bk:=D.nx } σ2 H2):=by
 refine⟨fun i m σ H=>m=kvs.length-i/\i<=kvs.length/\Pv i σ H,⟨kvs.length,by simp,eO _,h0⟩,?_⟩;rintro i m σ H ⟨rfl,hi,p⟩;have q:=hl i σ H p;by_cases hlt:i<kvs.length
 ·refine .inr ⟨⟨q,hlt⟩,Pv (i+1),fun σ' H' p'=>⟨kvs.length-(i+1),by lia,rfl,hlt,p'⟩,fun x H' y=>?_⟩;obtain⟨pr,t,hp,ht,ex,e⟩:=y;subst e ex;exact hs i pr t σ H hp p ht
 ·have e:i=kvs.length:=by lia
  subst e;exact .inl ⟨⟨q,bG _⟩,hd σ H p⟩
end
section
variable{X:Cx}{l:Expr}{td:TE}{p kp cpos apos pos:Pos}{j:Nat}{bpos:Pos}
noncomputable def akH(td:TE):TE:=fun σ H Q=>td σ H fun x H1=>∃a kvs ns,x=.ref a/\Rd H1 a (.dK kvs)/\kvs.map (·.2)=ns.map V.int/\ns.length<64 /\
 ∀(l:Addr)(ns':List Int),H1 l=none->ns'.Perm ns->ns'.Pairwise (· >= ·)->Q (.ref l) (upd H1 l (.lst (ns'.map V.int)))
theorem K9{A:bY}{E:Value->Shared->Prop}{s:Shared}{T:String}{r d:Addr}{n:Nat}{P:Nat->Value->Prop}{OK:Heap->Prop}{ns:List Int}{bb:Bool}{Q:Value->Shared->Prop}
  (K:afB X.prog X.w T r d n P OK) (hh:A.handled=none) (hok:OK s.heap) (hn:n<=sizeLine) (h64:n<64) (hP:∀us:List Value,us.length=n->(∀(j:Nat)(v:Value),us[j]? = some v->P j v)->IntsAre us ns)
  (h:∀ (h':Heap) (tk:Nat) (l:Addr) (out:Array Value) (ns':List Int) (e:Nat),(∀ b ob,s.heap.get? b=some ob->h'.get? b=some ob)->(∀ b ob,s.heap.get? b=some ob->b≠l)->h'.get? l=some (yh "list" out e) ->
   IntsAre out.toList ns'->ns'.Perm ns->Ordered bb ns'->Q (.ref l) { s with heap:=h',toks:=tk }) :
  wpAny (model X.prog X.w) A (call (.builtin "sorted") [.ref r] [(bK "reverse",.bool bb)]) Q E s:=by
 refine call_function_entry_kw Yz Yx Yy (args_sorted_rev _ _) ?_;unfold eG.«sorted»;refine aJ (m:=XD "sorted" 1 1 _) (aU ?_);refine aJ (aft (A:=A.in1) K hh hok hn fun h1 tk acc hk hacc=>?_);have hl:acc.toList.length=n:=by rw[mF];exact hacc.1
 have hI:=hP acc.toList hl fun j v e=>hacc.2 j v (by rw[<-qQ];exact e);refine aJ (Xq ?_ (by rw[hl];exact hn));have hoL:(h1.push (yh "list" acc.toList.toArray 0)).get? h1.objs.size=some (yh "list" acc.toList.toArray 0):=eE _ rfl;refine aJ (qN (wpAny_call_entry_kw Yt ⟨_,hoL,rfl⟩ Ys (list_sort_tree_rev hoL hI (by rw[hl];exact h64) fun out ns' a1 a2 a3=>⟨_,rfl,?_⟩) (args_list_sort_rev _ _)));refine aU ⟨_,rfl,?_⟩;obtain⟨e,he⟩:=Yv (vs:=acc.toList) (out:=out) hoL;have hb:∀b ob,s.heap.get? b=some ob->b<h1.objs.size:=fun b ob e'=>bU (hk b ob e');refine h _ tk _ out ns' e (fun b ob e'=>?_) (fun b ob e'=>cH (hb b ob e')) he a1 a2 a3;have hlt:=hb b ob e';rw[Yu (cH hlt) (by rw[Rv];exact Cr hlt)];exact dX _ (hk b ob e')
theorem adi(hm0:X.mg "sorted" = none)(hl:PE X l td)(m:MI X l "values" apos cpos)(hc:X.calm=true)(hg:Gl X "sorted" := by rfl):
  PE X (.Call (.Name "sorted" p) [.Call (.Attribute l "values" apos) [] [] cpos] [⟨some "reverse",.Constant (.bool true) j bpos,kp⟩] pos) (akH td):=by
 intro pins s σ H Q I h;refine xr (j7 I hg hm0 boot_sorted ?_);refine callWith_kw (Cw (Qt (T := "dict") (id := "dict.values") m.base rfl m.line Rp afV PySem.F.type_dict_values (thn (hl pins s σ H _ I h) fun v s1 ⟨x,H1,I1,r1,q1⟩=>?_)));obtain⟨a,kvs,ns,rfl,e,ei,h64,q⟩:=q1;obtain rfl:v=Value.ref a:=r1;obtain⟨t1,t2,hS⟩:=SN I1 (.inl ⟨kvs,e⟩);refine⟨t1,t2,?_⟩;obtain⟨z,_,vs,rel,dd⟩:=wD I1.hok e;obtain⟨ep,dm⟩:=dd.dictAt;have hlen:=rel.length;have hns:ns.length=kvs.length:=by have:=congrArg mC ei;simpa using this.symm
 refine Xn afV PySem.F.entry_dict_values rfl (Qq ⟨rfl,t1,PySem.F.args_dict_values_1 _,_,meets_dict_values (cP X.prog X.w) a hS,⟨vs,dd⟩,?_⟩);refine yq (kws_cons ?_);refine agk (kws_nil ?_);show wpAny _ _ (call (.builtin "sorted") [.ref s1.heap.objs.size] [(bK "reverse",.bool true)]) _ _ _;have I2:=I1.kept (h':=s1.heap.push { cls:=.type "dict_values",data:=.fields #[.ref a] }) (t':=s1.toks) fun b ob e=>dX _ e;refine K9 (X:=X) (ns:=ns) (bb:=true) (PySem.W.kdl_values (knd:=cP X.prog X.w) (kvs:=vs) (ep:=ep)) (I1.ok.hd hc) ⟨⟨_,eE _ rfl,rfl,rfl⟩,dm.push _⟩ (by rw[<-hlen];exact z) tb_g% (fun us hu hv=>?_) fun h' tk l' out ns' e' kp hne hl' hI hp ho=>?_
 ·have vv:=O5 rel hu hv;rw[ei]at vv;exact intsAre_of vv
 ·refine⟨.ref l',_,I2.Ht (t':=tk) kp hne (show dR X.prog X.w _ h' l' (.lst (ns'.map V.int))from⟨?_,out.toList,e',mR hI,by simpa using hl'⟩),rfl,q l' ns' (I2.none_of hne) hp ho⟩;rw[aV,hp.length_eq,hns];exact z
end
end L2
set_option autoImplicit false
namespace MG
noncomputable abbrev Tab:=List (Int × Int)
noncomputable def look(c:Tab)(k:Int):Option Int:=(c.find? fun p=>decide (p.1=k)).map (·.2)
noncomputable def low(c:Tab)(k:Int):Int:=(look c k).getD 0
noncomputable def put(c:Tab)(k v:Int):Tab:=
 if(c.any fun p=>decide (p.1=k))=true then c.map (fun p=>if p.1=k then(p.1,v)else p)else c++[(k,v)]
noncomputable def keys(c:Tab):List Int:=c.map (·.1)
noncomputable def vals(c:Tab):List Int:=c.map (·.2)
noncomputable def dD(c:Tab)(cut:Int):Tab:=(c.filter fun p=>decide (cut<p.2)).map fun p=>(p.1,p.2-cut)
theorem aiA(k:Int):look [] k=none:=rfl
theorem jc(p:Int × Int)(r:Tab)(k:Int):look (p::r) k=if p.1=k then some p.2 else look r k:=by
 unfold look;rw[Az];by_cases h:p.1=k
 ·rw[if_pos h];simp[h]
 ·rw[if_neg h];simp[h]
theorem Df(k:Int):low [] k=0:=rfl
theorem uD(p:Int × Int)(r:Tab)(k:Int):low (p::r) k=if p.1=k then p.2 else low r k:=by
 unfold low;rw[jc];by_cases h:p.1=k
 ·rw[if_pos h,if_pos h];rfl
 ·rw[if_neg h,if_neg h]
theorem abe(c:Tab)(k:Int):(c.any fun p=>decide (p.1=k))=true↔k∈keys c:=by
 unfold keys;rw[List.any_eq_true];constructor
 ·rintro⟨p,h1,h2⟩;exact jq.mpr ⟨p,h1,of_decide_eq_true h2⟩
 ·intro h;obtain⟨p,h1,h2⟩:=jq.mp h;exact⟨p,h1,decide_eq_true h2⟩
theorem tu(c:Tab)(k:Int):look c k=none↔k∉keys c:=by
 induction c with
 |nil=>simp[aiA,keys]
 |cons p r ih =>
  rw[jc];by_cases h:p.1=k
  ·rw[if_pos h];simp[keys,h]
  ·rw[if_neg h,ih];simp[keys];intro _ e;exact h e.symm
theorem Im(c:Tab)(k:Int):(look c k).isSome=true↔k∈keys c:=by
 have h:=tu c k;cases e:look c k with
 |none=>rw[e]at h;simp at h;simp[h]
 |some v=>rw[e]at h;simp at h;simp[h]
theorem lH{c:Tab}{k:Int}(h:k∉keys c):low c k=0:=by
 unfold low;rw[(tu c k).mpr h];rfl
theorem Vj{c:Tab}{k v:Int}(h:look c k=some v):(k,v)∈c:=by
 induction c with
 |nil=>cases h
 |cons p r ih =>
  rw[jc]at h;by_cases e:p.1=k
  ·rw[if_pos e]at h;cases h;rw[<-e];exact dO
  ·rw[if_neg e]at h;exact fX _ (ih h)
theorem Vk{c:Tab}(hn:(keys c).Nodup){p:Int × Int}(h:p∈c):look c p.1=some p.2:=by
 induction c with
 |nil=>cases h
 |cons q r ih =>
  rw[jc];have hn':(q.1::keys r).Nodup:=hn;rw[jJ]at hn';rcases cO.mp h with e|e
  ·subst e;rw[if_pos rfl]
  ·have:p.1∈keys r:=jq.mpr ⟨p,e,rfl⟩;rw[if_neg (fun(z:q.1=p.1)=>hn'.1 (z ▸ this))];exact ih hn'.2 e
theorem La{c:Tab}(hn:(keys c).Nodup){p:Int × Int}(h:p∈c):low c p.1=p.2:=by
 unfold low;rw[Vk hn h];rfl
theorem vH{c:Tab}(h:∀p∈c,1<=p.2)(k:Int):0<=low c k:=by
 unfold low;cases e:look c k with
 |none=>exact iW 0
 |some v=>have:=h _ (Vj e);simp at this ⊢; lia
theorem adk(c:Tab)(k v:Int):keys (c.map fun p=>if p.1=k then(p.1,v)else p)=keys c:=by
 unfold keys;rw[mK];apply Es;intro p _;show(if p.1=k then(p.1,v)else p).1=p.1;split <;> rfl
theorem Je{c:Tab}{k v:Int}(h:k∈keys c):put c k v=c.map fun p=>if p.1=k then(p.1,v)else p:=by
 unfold put;rw[if_pos ((abe c k).mpr h)]
theorem Dg{c:Tab}{k v:Int}(h:k∉keys c):put c k v=c++[(k,v)]:=by
 unfold put;rw[if_neg (fun z=>h ((abe c k).mp z))]
theorem aiB(c:Tab)(k v:Int):keys (put c k v)=if k∈keys c then keys c else keys c++[k]:=by
 by_cases h:k∈keys c
 ·rw[if_pos h,Je h,adk]
 ·rw[if_neg h,Dg h];simp[keys]
theorem Lb{c:Tab}(hn:(keys c).Nodup)(k v:Int):(keys (put c k v)).Nodup:=by
 rw[aiB];by_cases h:k∈keys c
 ·rw[if_pos h];exact hn
 ·rw[if_neg h,Ql];refine⟨hn,by simp,?_⟩;intro a ha b hb e;rw[cZ]at hb;exact h (by rw[<-hb,<-e];exact ha)
theorem SQ(c:Tab)(k v:Int):(put c k v).length<=c.length+1:=by
 unfold put;split
 ·rw[aV];lia
 ·rw[fj];simp
theorem adl(c:Tab)(k v j:Int):look (c.map fun p=>if p.1=k then(p.1,v)else p) j=(look c j).map fun x=>if j=k then v else x:=by
 induction c with
 |nil=>rfl
 |cons p r ih =>
  rw[fU,jc,jc,ih];by_cases h:p.1=k
  ·rw[if_pos h];by_cases e:p.1=j
   ·rw[if_pos e,if_pos e,agH,if_pos (e.symm.trans h)]
   ·rw[if_neg e,if_neg e]
  ·rw[if_neg h];by_cases e:p.1=j
   ·rw[if_pos e,if_pos e,agH,if_neg (fun z=>h (e.trans z))]
   ·rw[if_neg e,if_neg e]
theorem adn(c:Tab)(k v j:Int)(h:k∉keys c):look (c++[(k,v)]) j=if j=k then some v else look c j:=by
 induction c with
 |nil =>
  rw[aeG,jc];by_cases e:k=j
  ·rw[if_pos e,if_pos e.symm]
  ·rw[if_neg e,if_neg (fun z=>e z.symm)]
 |cons p r ih =>
  have hk:¬ p.1=k:=fun z=>h (by simp[keys,z]);have hr:k∉keys r:=fun z=>h (fX _ z);rw[aeD,jc,jc,ih hr];by_cases e:p.1=j
  ·rw[if_pos e,if_pos e,if_neg (fun z=>hk (e.trans z))]
  ·rw[if_neg e,if_neg e]
theorem aiC(c:Tab)(k v j:Int):look (put c k v) j=if j=k then some v else look c j:=by
 by_cases h:k∈keys c
 ·rw[Je h,adl];by_cases e:j=k
  ·subst e;cases q:look c j with
   |none=>exact absurd h ((tu c j).mp q)
   |some x=>simp
  ·simp only[if_neg e];cases look c j <;> rfl
 ·rw[Dg h,adn c k v j h]
theorem SX(c:Tab)(k v j:Int):low (put c k v) j=if j=k then v else low c j:=by
 unfold low;rw[aiC];split <;> rfl
theorem S5{c:Tab}(h:∀p∈c,1<=p.2){k v:Int}(hv:1<=v):∀p∈put c k v,1<=p.2:=by
 intro p hp;unfold put at hp;split at hp
 ·obtain⟨q,hq,e⟩:=jq.mp hp;by_cases z:q.1=k
  ·rw[if_pos z]at e;subst e;exact hv
  ·rw[if_neg z]at e;subst e;exact h q hq
 ·rcases dY.mp hp with z|z
  ·exact h p z
  ·rw[cZ]at z;subst z;exact hv
theorem aiD{c:Tab}(hn:(keys c).Nodup){k v:Int}(h:k∈keys c):(vals (c.map fun p=>if p.1=k then(p.1,v)else p)).sum=(vals c).sum-low c k+v:=by
 induction c with
 |nil=>cases h
 |cons p r ih =>
  have hn':(p.1::keys r).Nodup:=hn;rw[jJ]at hn';rw[uD];by_cases e:p.1=k
  ·have hr:k∉keys r:=e ▸ hn'.1;have id_r:(r.map fun p=>if p.1=k then(p.1,v)else p)=r:=by
    have:∀q∈r,(if q.1=k then(q.1,v)else q)=q:=fun q hq=>if_neg (fun(z:q.1=k)=>hr (z ▸ jq.mpr ⟨q,hq,rfl⟩));exact(Es this).trans (aeQ r)
   rw[fU,if_pos e,if_pos e,id_r];simp only[vals,fU,uc];lia
  ·have hr:k∈keys r:=by
    rcases cO.mp h with z|z
    ·exact absurd z.symm e
    ·exact z
   rw[fU,if_neg e,if_neg e];have:=ih hn'.2 hr;simp only[vals,fU,uc]at this ⊢; lia
theorem abf{c:Tab}(hn:(keys c).Nodup)(k w:Int):(vals (put c k (low c k+w))).sum=(vals c).sum+w:=by
 by_cases h:k∈keys c
 ·rw[Je h,aiD hn h];lia
 ·rw[Dg h,lH h];simp only[vals,cM,fU,JF,aeH,uc,List.sum_nil];lia
theorem S6{c:Tab}{cut k:Int}(h:k∈keys (dD c cut)):k∈keys c:=by
 unfold keys dD at h;rw[mK]at h;obtain⟨p,hp,e⟩:=jq.mp h;exact jq.mpr ⟨p,(Ew.mp hp).1,e⟩
theorem aiE(c:Tab)(cut:Int):keys (dD c cut)=keys (c.filter fun p=>decide (cut<p.2)):=by
 unfold keys dD;rw[mK];rfl
theorem aoD{c:Tab}(hn:(keys c).Nodup)(cut:Int):(keys (dD c cut)).Nodup:=by
 rw[aiE];exact agW (ag0 _ List.filter_sublist) hn
theorem akI(c:Tab)(cut:Int):∀p∈dD c cut,1<=p.2:=by
 intro p hp;unfold dD at hp;obtain⟨q,hq,e⟩:=jq.mp hp;have:=of_decide_eq_true (Ew.mp hq).2;subst e;show 1<=q.2-cut;lia
theorem akJ(c:Tab)(cut:Int):(dD c cut).length<=c.length:=by
 unfold dD;rw[aV];exact Jv _ _
theorem aiF{c:Tab}(h:∀p∈c,1<=p.2):dD c 0=c:=by
 unfold dD;rw[aev.mpr (fun p hp=>decide_eq_true (by have:=h p hp;lia))];have:∀p∈c,(p.1,p.2-0)=p:=fun p _=>by rw[Int.sub_zero]
 exact(Es this).trans (aeQ c)
theorem abg{c:Tab}(hn:(keys c).Nodup){cut:Int}(hc:0<=cut)(hp:∀p∈c,0<=p.2)(k:Int):low (dD c cut) k=if low c k-cut<=0 then 0 else low c k-cut:=by
 induction c with
 |nil=>rw[show dD [] cut=[]from rfl,Df];split <;> lia
 |cons p r ih =>
  have hn':(p.1::keys r).Nodup:=hn;rw[jJ]at hn';have ih':=ih hn'.2 (fun q hq=>hp q (fX _ hq));by_cases h:cut<p.2
  ·have e:dD (p::r) cut=(p.1,p.2-cut)::dD r cut:=by
    unfold dD;rw[wZ,if_pos (decide_eq_true h)];rfl
   rw[e,uD,uD,ih'];by_cases z:p.1=k
   ·rw[if_pos z,if_pos z,if_neg tb_g%]
   ·rw[if_neg z,if_neg z]
  ·have e:dD (p::r) cut=dD r cut:=by
    unfold dD;rw[wZ,if_neg (by simp;lia)]
   rw[e,uD,ih'];by_cases z:p.1=k
   ·rw[if_pos z,if_pos (show p.2-cut<=0 by lia)];have:low r k=0:=lH (z ▸ hn'.1);rw[this];split <;> lia
   ·rw[if_neg z]
theorem wF:∀{d:List Int}{room:Nat}{c:Int},d.Pairwise (· >= ·)->d[room]? = some c->(d.filter fun v=>decide (c<v)).length<=room
 |[],_,_,_,h=>by cases h
 |x::r,0,c,hp,h=>by
  have e:x=c:=by simpa using h
  subst e;have:((x::r).filter fun v=>decide (x<v))=[]:=by
   rw[aen];intro v hv;rcases cO.mp hv with z|z
   ·subst z;simp
   ·have:=(kW.mp hp).1 v z;simp;lia
  rw[this];exact bG _
 |x::r,n+1,c,hp,h=>by
  have ih:=wF (d:=r) (room:=n) (c:=c) (kW.mp hp).2 (by simpa using h);rw[wZ];split
  ·simp only[jo];lia
  ·lia
noncomputable def above(c:Int)(l:List Int):Int:=((l.filter fun v=>decide (c<v)).map fun v=>v-c).sum
theorem BL(c x:Int)(r:List Int):above c (x::r)=(if c<x then x-c else 0)+above c r:=by
 unfold above;rw[wZ];by_cases h:c<x
 ·rw[if_pos (decide_eq_true h),if_pos h];rfl
 ·rw[if_neg (by simp;lia),if_neg h];lia
theorem O7{c:Int}:∀{l:List Int},(∀v∈l,v<=c)->above c l=0
 |[],_=>rfl
 |x::r,h=>by
  rw[BL,O7 (l:=r) fun v hv=>h v (fX _ hv)];have:=h x dO;rw[if_neg tb_g%];rfl
theorem Ld:∀{l:List Int},(∀v∈l,0<=v)->0<=l.sum
 |[],_=>iW 0
 |x::r,h=>by
  have:=Ld (l:=r) fun v hv=>h v (fX _ hv);have:=h x dO;rw[uc];lia
theorem Le:∀{d:List Int}{room:Nat}{c:Int},d.Pairwise (· >= ·)->d[room]? = some c->(∀v∈d,0<=v) ->
  above c d+((room:Int)+1)*c<=d.sum/\(d.length=room+1->above c d+((room:Int)+1)*c=d.sum)
 |[],_,_,_,h,_=>by cases h
 |x::r,0,c,hp,h,h0=>by
  have e:x=c:=by simpa using h
  subst e;have hr:∀v∈r,v<=x:=fun v hv=>(kW.mp hp).1 v hv;have hs:=Ld (l:=r) fun v hv=>h0 v (fX _ hv);rw[BL,if_neg tb_g%,O7 hr,uc];refine⟨by simp;lia,fun hl=>?_⟩;have:r=[]:=by
   have:r.length=0:=by simpa using hl
   exact z8.mp this
  subst this;simp
 |x::r,n+1,c,hp,h,h0=>by
  have h':r[n]? = some c:=by simpa using h
  have ih:=Le (d:=r) (room:=n) (c:=c) (kW.mp hp).2 h' fun v hv=>h0 v (fX _ hv);have hx:c<=x:=(kW.mp hp).1 c (List.mem_of_getElem? h');have hm:((n+1:Nat):Int)=(n:Int)+1:=by lia
  have e2:((((n+1:Nat):Int))+1)*c=((n:Int)+1)*c+c:=by rw[hm,vB ((n:Int)+1) 1 c,RK]
  rw[BL,uc,e2];have ex:(if c<x then x-c else 0)=x-c:=by split <;> lia
  rw[ex];refine⟨by have:=ih.1;lia,fun hl=>?_⟩;have:=ih.2 (by simpa using hl);lia
theorem Vl(c:Tab)(cut:Int):vals (dD c cut)=(((vals c).filter fun v=>decide (cut<v)).map fun v=>v-cut):=by
 induction c with
 |nil=>rfl
 |cons p r ih =>
  have hv:vals (p::r)=p.2::vals r:=rfl;rw[hv];by_cases h:cut<p.2
  ·have e:dD (p::r) cut=(p.1,p.2-cut)::dD r cut:=by
    unfold dD;rw[wZ,if_pos (decide_eq_true h)];rfl
   rw[e,wZ,if_pos (decide_eq_true h),fU,<-ih];rfl
  ·have e:dD (p::r) cut=dD r cut:=by
    unfold dD;rw[wZ,if_neg (by simp;lia)]
   rw[e,wZ,if_neg (by simp;lia),ih]
theorem akK(c:Tab)(cut:Int):(vals (dD c cut)).sum=above cut (vals c):=by rw[Vl];rfl
theorem Vm{l l':List Int}(h:l.Perm l'):l.sum=l'.sum:=by
 induction h with
 |nil=>rfl
 |cons x _ ih=>rw[uc,uc,ih]
 |swap x y l=>simp only[uc];lia
 |trans _ _ a b=>exact a.trans b
theorem ZX{c:Int}{l l':List Int}(h:l.Perm l'):above c l=above c l':=by
 unfold above;exact Vm ((h.filter _).map _)
structure IsCut(room:Nat)(c:Tab)(cut:Int):Prop where
 ex:∃d:List Int,d.Perm (vals c)/\d.Pairwise (· >= ·)/\d[room]? = some cut
theorem IsCut.mem{room:Nat}{c:Tab}{cut:Int}(h:IsCut room c cut):cut∈vals c:=by
 obtain⟨d,h1,_,h3⟩:=h;exact h1.mem_iff.mp (List.mem_of_getElem? h3)
theorem IsCut.len{room:Nat}{c:Tab}{cut:Int}(h:IsCut room c cut):(dD c cut).length<=room:=by
 obtain⟨d,h1,h2,h3⟩:=h;have e:(dD c cut).length=((vals c).filter fun v=>decide (cut<v)).length:=by
  have:=congrArg mC (Vl c cut);rw[aV]at this;rw[<-this];unfold vals;rw[aV]
 rw[e,<-(h1.filter _).length_eq];exact wF h2 h3
theorem IsCut.sum{room:Nat}{c:Tab}{cut:Int}(h:IsCut room c cut)(h0:∀p∈c,0<=p.2):
  (vals (dD c cut)).sum+((room:Int)+1)*cut<=(vals c).sum/\(c.length=room+1->(vals (dD c cut)).sum+((room:Int)+1)*cut=(vals c).sum):=by
 obtain⟨d,h1,h2,h3⟩:=h;rw[akK,<-ZX h1,<-Vm h1];have hd:∀v∈d,0<=v:=fun v hv=>by
  obtain⟨p,hp,e⟩:=jq.mp (h1.mem_iff.mp hv);rw[<-e];exact h0 p hp
 have:=Le h2 h3 hd;refine⟨this.1,fun hl=>this.2 ?_⟩;rw[h1.length_eq];unfold vals;rw[aV];exact hl
noncomputable def ou(room:Nat)(c:Tab)(c':Tab)(cut:Int):Prop:=
 if c.length<=room then cut=0/\c'=c else IsCut room c cut/\c'=dD c cut
structure Ok(room:Nat)(c:Tab)(total lost:Int)(tw:Int->Int):Prop where
 nd:(keys c).Nodup
 pos:∀p∈c,1<=p.2
 len:c.length<=room
 l0:0<=lost
 sum:(vals c).sum+((room:Int)+1)*lost<=total
 lo:∀k,low c k<=tw k
 hi:∀k,tw k<=low c k+lost
structure Pre(room:Nat)(c:Tab)(total lost:Int)(tw:Int->Int):Prop where
 nd:(keys c).Nodup
 pos:∀p∈c,1<=p.2
 l0:0<=lost
 sum:(vals c).sum+((room:Int)+1)*lost<=total
 lo:∀k,low c k<=tw k
 hi:∀k,tw k<=low c k+lost
theorem ou.nn{room:Nat}{c c':Tab}{cut:Int}(f:ou room c c' cut)(hp:∀p∈c,1<=p.2):0<=cut:=by
 unfold ou at f;by_cases e:c.length<=room
 ·rw[if_pos e]at f;lia
 ·rw[if_neg e]at f;obtain⟨p,hp',e'⟩:=jq.mp f.1.mem;have:=hp p hp';lia
theorem Pre.fit{room:Nat}{c c':Tab}{total lost cut:Int}{tw:Int->Int}(h:Pre room c total lost tw)(f:ou room c c' cut):Ok room c' total (lost+cut) tw:=by
 have hc:=f.nn h.pos;unfold ou at f;by_cases e:c.length<=room
 ·rw[if_pos e]at f;obtain⟨rfl,rfl⟩:=f;refine⟨h.nd,h.pos,e,by have:=h.l0;lia,by rw[Ge];exact h.sum,h.lo,fun k=>by have:=h.hi k;lia⟩
 ·rw[if_neg e]at f;obtain⟨f,rfl⟩:=f;have hs:=(f.sum fun p hp=>by have:=h.pos p hp;lia).1;have h0:∀p∈c,0<=p.2:=fun p hp=>by have:=h.pos p hp;lia
  refine⟨aoD h.nd _,akI _ _,f.len,by have:=h.l0;lia,?_,fun k=>?_,fun k=>?_⟩
  ·rw[YQ];have:=h.sum;lia
  ·rw[abg h.nd hc h0 k];have:=h.lo k;have:=vH h.pos k;split <;> lia
  ·rw[abg h.nd hc h0 k];have:=h.hi k;split <;> lia
theorem Ok.pre{room:Nat}{c:Tab}{total lost:Int}{tw:Int->Int}(h:Ok room c total lost tw):Pre room c total lost tw:=⟨h.nd,h.pos,h.l0,h.sum,h.lo,h.hi⟩
theorem Ok.add{room:Nat}{c:Tab}{total lost k w:Int}{tw:Int->Int}(h:Ok room c total lost tw)(hw:1<=w):
  Pre room (put c k (low c k+w)) (total+w) lost (fun j=>if j=k then tw j+w else tw j):=by
 refine⟨Lb h.nd _ _,S5 h.pos (by have:=vH h.pos k;lia),h.l0,by rw[abf h.nd];have:=h.sum;lia,fun j=>?_,fun j=>?_⟩
 ·rw[SX];have:=h.lo j;by_cases e:j=k
  ·subst e;rw[if_pos rfl,if_pos rfl];lia
  ·rw[if_neg e,if_neg e];exact this
 ·rw[SX];have:=h.hi j;by_cases e:j=k
  ·subst e;rw[if_pos rfl,if_pos rfl];lia
  ·rw[if_neg e,if_neg e];exact this
noncomputable def p8(c d:Tab):Tab:=d.foldl (fun acc p=>put acc p.1 (low acc p.1+p.2)) c
theorem Lf(c:Tab):p8 c []=c:=rfl
theorem uE(c:Tab)(p:Int × Int)(d:Tab):p8 c (p::d)=p8 (put c p.1 (low c p.1+p.2)) d:=rfl
theorem ado(c d:Tab)(p:Int × Int):p8 c (d++[p])=put (p8 c d) p.1 (low (p8 c d) p.1+p.2):=by
 unfold p8;rw[Xb];rfl
theorem S7:∀(d:Tab){c:Tab},(keys c).Nodup->(keys (p8 c d)).Nodup
 |[],_,h=>h
 |p::d,c,h=>by rw[uE];exact S7 d (Lb h _ _)
theorem Lg:∀(d:Tab){c:Tab},(∀p∈c,1<=p.2)->(∀p∈d,1<=p.2)->∀p∈p8 c d,1<=p.2
 |[],_,h,_=>h
 |q::d,c,h,hd=>by
  rw[uE];refine Lg d (S5 h ?_) fun p hp=>hd p (fX _ hp);have:=vH h q.1;have:=hd q dO;lia
theorem Dh:∀(d c:Tab),(p8 c d).length<=c.length+d.length
 |[],c=>by rw[Lf];simp
 |p::d,c=>by
  rw[uE];have:=Dh d (put c p.1 (low c p.1+p.2));have:=SQ c p.1 (low c p.1+p.2);simp only[jo];lia
theorem Lh:∀(d:Tab)(c:Tab)(k:Int),(keys d).Nodup->low (p8 c d) k=low c k+low d k
 |[],c,k,_=>by rw[Lf,Df];lia
 |p::d,c,k,h=>by
  have h':(p.1::keys d).Nodup:=h;rw[jJ]at h';rw[uE,Lh d _ k h'.2,SX,uD];by_cases e:k=p.1
  ·rw[if_pos e,if_pos e.symm,e,lH h'.1];lia
  ·rw[if_neg e,if_neg (fun z=>e z.symm)]
theorem O8:∀(d:Tab){c:Tab},(keys c).Nodup->(vals (p8 c d)).sum=(vals c).sum+(vals d).sum
 |[],c,_=>by rw[Lf];simp[vals]
 |p::d,c,h=>by
  rw[uE,O8 d (Lb h _ _),abf h];simp only[vals,fU,uc];lia
theorem Ok.aiG{room:Nat}{c d:Tab}{t l t' l':Int}{tw tw':Int->Int}(h:Ok room c t l tw)(h':Ok room d t' l' tw'):
  Pre room (p8 c d) (t+t') (l+l') (fun k=>tw k+tw' k):=by
 refine⟨S7 d h.nd,Lg d h.pos h'.pos,by have:=h.l0;have:=h'.l0;lia,?_,fun k=>?_,fun k=>?_⟩
 ·rw[O8 d h.nd,YQ];have:=h.sum;have:=h'.sum;lia
 ·rw[Lh d c k h'.nd];have:=h.lo k;have:=h'.lo k;lia
 ·rw[Lh d c k h'.nd];have:=h.hi k;have:=h'.hi k;lia
theorem Ok.empty(room:Nat):Ok room [] 0 0 (fun _=>0):=
 ⟨wB,(fun _ h=>by cases h),eO _,iW 0,by simp[vals],fun k=>by rw[Df];exact iW 0,fun k=>by rw[Df];exact iW 0⟩
end MG
set_option autoImplicit false
namespace MK
noncomputable def N5(r:Int)(h:Nat):Prop:=∃m:Int,r=m*2 ^ h/\m % 2=1
theorem jR(n:Nat):(0:Int)<2 ^ n:=RL (by decide)
theorem N5.uniq{r:Int}{h k:Nat}(a:N5 r h)(b:N5 r k):h=k:=by
 have key:∀{h k:Nat}{m n:Int},h<k->m*2 ^ h=n*2 ^ k->m % 2=1->False:=by
  intro h k m n hlt e hm;obtain⟨d,rfl⟩:∃d,k=h+(d+1):=⟨k-h-1,by lia⟩;rw[RM,<-Gd,agt]at e;have e2:=Int.eq_of_mul_eq_mul_right (agw (jR h)) e;rw[vA,<-Gd]at e2;lia
 obtain⟨m,e1,h1⟩:=a;obtain⟨n,e2,h2⟩:=b;rcases afG h k with l|l|l
 ·exact(key l (e1.symm.trans e2) h1).elim
 ·exact l
 ·exact(key l (e2.symm.trans e1) h2).elim
noncomputable def To(r x:Int)(i:Nat):Prop:=r=x*2 ^ i/\x≠0
theorem To.step{r x:Int}{i:Nat}(h:To r x i)(e:x % 2=0):To r (x / 2) (i+1):=by
 obtain⟨h1,h2⟩:=h;have hx:x=x / 2*2:=by lia
 refine⟨?_,by lia⟩;rw[h1,vA,YL (2 ^ i) 2,<-Gd,<-hx]
theorem To.stop{r x:Int}{i:Nat}(h:To r x i)(e:¬ x % 2=0):N5 r i:=⟨x,h.1,by lia⟩
noncomputable def M:Int:=1152921504606846976
theorem al6:(2:Int) ^ 60=1152921504606846976:=by decide
theorem N5.ne{r:Int}{h:Nat}(a:N5 r h):r≠0:=by
 obtain⟨m,e,hm⟩:=a;intro z;rw[z]at e;rcases YG.mp e.symm with q|q
 ·lia
 ·exact absurd q (agw (jR h))
theorem N5.lt{r:Int}{h:Nat}(a:N5 r h)(h0:0<=r)(h1:r<1152921504606846976):h<60:=by
 obtain⟨m,e,hm⟩:=a;rcases jO h 60 with q|q
 ·exact q
 ·obtain⟨d,rfl⟩:∃d,h=60+d:=⟨h-60,by lia⟩;exfalso;rw[RM,al6]at e;have hd:=jR d;rcases agx m 0 with l|l
  ·have:m*(1152921504606846976*2 ^ d)<0:=agr l tb_g%;lia
  ·have h3:1*(1152921504606846976*1)<=m*(1152921504606846976*2 ^ d):=pP tb_g% tb_g% tb_g% tb_g%;lia
theorem To.lt{r x:Int}{i:Nat}(h:To r x i)(h0:0<r)(h1:r<1152921504606846976):i<60/\0<x/\x<=r:=by
 obtain⟨e,hx⟩:=h;have hp:=jR i;have x0:0<x:=by
  rcases agx x 0 with l|l
  ·have:x*2 ^ i<0:=agr l hp;lia
  ·lia
 refine⟨?_,x0,?_⟩
 ·rcases jO i 60 with q|q
  ·exact q
  ·obtain⟨d,rfl⟩:∃d,i=60+d:=⟨i-60,by lia⟩;exfalso;rw[RM,al6]at e;have hd:=jR d;have h3:1*(1152921504606846976*1)<=x*(1152921504606846976*2 ^ d):=pP tb_g% tb_g% tb_g% tb_g%;lia
 ·have h3:x*1<=x*2 ^ i:=Int.mul_le_mul_of_nonneg_left tb_g% tb_g%;lia
end MK
set_option autoImplicit true
namespace L2
open PySem MG
noncomputable def emb(c:Tab):List (Key × V):=c.map fun p=>((Sum.inl p.1:Key),V.int p.2)
theorem rD(c:Tab):(emb c).length=c.length:=aV _
theorem aiH(c:Tab):(emb c).map (·.2)=(vals c).map V.int:=by
 unfold emb vals;rw[mK,mK];rfl
theorem Li(c:Tab):((emb c).map fun p=>kV p.1)=(keys c).map V.int:=by
 unfold emb keys;rw[mK,mK];rfl
theorem aiI{c:Tab}{i:Nat}{p:Key × V}(h:(emb c)[i]? = some p):∃q,c[i]? = some q/\p=(Sum.inl q.1,V.int q.2):=by
 unfold emb at h;rw[gQ]at h;cases e:c[i]? with
 |none=>rw[e]at h;cases h
 |some q=>rw[e]at h;exact⟨q,rfl,(cN h).symm⟩
theorem Jf{a b:Int}:((Sum.inl a:Key)=Sum.inl b)↔a=b:=⟨fun h=>ag4 h,fun h=>by rw[h]⟩
theorem Vn(c:Tab)(k:Int):zY (emb c) (Sum.inl k:Key)=(look c k).map V.int:=by
 induction c with
 |nil=>rfl
 |cons p r ih =>
  have e:emb (p::r)=(Sum.inl p.1,V.int p.2)::emb r:=rfl;rw[e,jc];by_cases h:p.1=k
  ·rw[CZ (p:=((Sum.inl p.1:Key),V.int p.2)) (Jf.mpr h),if_pos h];rfl
  ·rw[Dc (p:=((Sum.inl p.1:Key),V.int p.2)) (fun z=>h (Jf.mp z)),if_neg h,ih]
theorem S8(c:Tab)(k:Int):(zY (emb c) (Sum.inl k:Key)).getD (.int 0)=.int (low c k):=by
 rw[Vn];unfold low;cases look c k <;> rfl
theorem akL(c:Tab)(k:Int):((emb c).any fun kv=>decide (kv.1=(Sum.inl k:Key)))=c.any fun p=>decide (p.1=k):=by
 induction c with
 |nil=>rfl
 |cons p r ih =>
  have e:emb (p::r)=(Sum.inl p.1,V.int p.2)::emb r:=rfl;rw[e,Bb,Bb,ih];congr 1;by_cases h:p.1=k
  ·rw[decide_eq_true h,decide_eq_true (Jf.mpr h)]
  ·rw[decide_eq_false h,decide_eq_false (fun z=>h (Jf.mp z))]
theorem Dj(c:Tab)(k v:Int):putK (emb c) (Sum.inl k:Key) (.int v)=emb (put c k v):=by
 unfold putK put;rw[akL];by_cases h:(c.any fun p=>decide (p.1=k))=true
 ·rw[if_pos h,if_pos h];unfold emb;rw[mK,mK];apply Es;intro p _;by_cases e:p.1=k
  ·simp[e]
  ·simp[e]
 ·rw[if_neg h,if_neg h];unfold emb;rw[cM];rfl
noncomputable def But(p:Addr)(H H':Hp):Prop:=∀b o,H b=some o->b≠p->H' b=some o
theorem Same.but{H H':Hp}(h:Same H H')(p:Addr):But p H H':=fun b o e _=>h b o e
theorem But.trans{p:Addr}{H H1 H2:Hp}(a:But p H H1)(b:But p H1 H2):But p H H2:=fun c o h n=>b c o (a c o h n) n
theorem But.upd{p:Addr}{H:Hp}{o:HO}:But p H (upd H p o):=fun b u h n=>by rw[aB n];exact h
theorem Same.new{H:Hp}{p:Addr}{o:HO}(h:H p=none):Same H (upd H p o):=fun b u e=>by rw[aB (au e h)];exact e
section
variable{K:bB}{H:Hp}{Q:VK}
theorem rdF{a C dx:Addr}{fs:List (Str × V)}{f:Str}{v:V}(h:H a=some (.ins C dx fs))(c:Cls K C)(n:cR K C f)(l:fs.lookup f=some v)(q:Q v H):rFld K f (.ref a) H Q:=⟨a,C,dx,fs,v,rfl,h,c,n,l,q⟩
theorem cD{a:Addr}{xs:List V}{i:Int}{v:V}(h:SqL K H a xs)(e:atI xs i=some v)(q:Q v H):Dd K (.ref a) (.int i) H Q:=.inl ⟨a,xs,i,v,rfl,rfl,h,e,q⟩
theorem jA{a:Addr}{xs:List V}{i:Int}{v:V}(h:SqT K H a xs)(e:atI xs i=some v)(q:Q v H):Dd K (.ref a) (.int i) H Q:=.inr (.inl ⟨a,xs,i,v,rfl,rfl,h,e,q⟩)
theorem Hu{a:Addr}{kvs:List (Key × V)}{i:Int}{v:V}(h:Rd H a (.dK kvs))(e:zY kvs (Sum.inl i:Key)=some v)(q:Q v H):Dd K (.ref a) (.int i) H Q:=
 .inr (.inr ⟨a,v,rfl,.inl ⟨kvs,Sum.inl i,h,rfl,e.symm⟩,q⟩)
theorem cX{a:Addr}{xs:List V}(h:SqL K H a xs)(q:Q (.int xs.length) H):Vi K [.ref a] H Q:=.inl ⟨.ref a,xs.length,rfl,.inl ⟨xs,h,rfl⟩,q⟩
theorem aoE{a:Addr}{kvs:List (Key × V)}(h:Rd H a (.dK kvs))(q:Q (.int kvs.length) H):Vi K [.ref a] H Q:=.inr ⟨a,kvs,rfl,h,q⟩
theorem al7{a:Addr}{kvs:List (Key × V)}{i:Int}(h:Rd H a (.dK kvs)):Ik H a (.int i) (zY kvs (Sum.inl i:Key)):=.inl ⟨kvs,Sum.inl i,h,rfl,rfl⟩
theorem Z0{a:Addr}{kvs:List (Key × V)}{i:Int}{v:V}{R:Hp->Prop}(h:H a=some (.dK kvs))(hl:kvs.length<sizeLine)(q:R (upd H a (.dK (putK kvs (Sum.inl i) v)))):al5 (.ref a) (.int i) v H R:=
 .inr ⟨a,_,rfl,.inl ⟨kvs,Sum.inl i,h,rfl,hl,rfl⟩,q⟩
theorem aiJ{i:Int}{T:String}{b:Bool}(e:xV K (.type "int") (.type T)=some b)(q:Q (.bl b) H):rIsi K [.int i,.ty T] H Q:=
 ⟨_,_,_,_,b,rfl,rfl,fun _ h=>h,.int i,e,q⟩
end
theorem yI(K:bB)(t:Value)(h:(t == t)=true):xV K t t=some true:=by unfold xV;rw[if_pos h]
theorem aoF{K:bB}{a b:String}{r:Bool}(h1:(Value.type a == Value.type b)=false)(h2:afA b=true)(h3:(afa a).map (·.contains (Value.type b))=some r):
  xV K (.type a) (.type b)=some r:=by
 unfold xV Q9;rw[if_neg (by rw[h1];exact jr)];show(if afA b=true then PySem.W.subIn K (.type a) (.type b)else none)=some r;rw[if_pos h2];exact h3
theorem yJ{i j:Int}(h0:-(2 ^ 64)<i)(h1:i<2 ^ 64):aib i j:=.inl ⟨by lia,by lia⟩
theorem iR{i j:Int}(h0:-(2 ^ 64)<j)(h1:j<2 ^ 64):aib i j:=.inr ⟨by lia,by lia⟩
end L2
namespace L2
open PySem PySem.Spec PyProof.Rows
noncomputable def Io(cells:List (Str × Addr)):List (Str × Addr)->Prop
 |[]=>True
 |p::r=>cells.lookup p.1=some p.2/\Io cells r
theorem Io.of{cells:List (Str × Addr)}:∀{cl:List (Str × Addr)} {y:Str} {c:Addr},Io cells cl->cl.lookup y=some c->cells.lookup y=some c
 |[],_,_,_,h=>by cases h
 |p::r,y,c,hs,h=>by
  obtain⟨n,a⟩:=p;rw[Xc]at h;by_cases e:y=n
  ·subst e;rw[beq_self_eq_true]at h;cases h;exact hs.1
  ·rw[beq_eq_false_iff_ne.mpr e]at h;exact Io.of hs.2 h
@[reducible] noncomputable def dw(X:Cx)(N:List Str)(scope:Scope)(cl:List (Str × Addr))(s:Shared)(H:Hp)(fp:List Addr)(C:Addr):Cx where
 prog:=X.prog
 w:=X.w
 K:=X.K
 mg:=X.mg
 base:=X.base
 A:=X.A
 N:=N
 s₀:=s
 H₀:=H
 env:=QL scope cl C X.env
 outer:=X.stack
 stack:=X.stack
 ex:=fp
 fn:=fun _=>false
 calm:=X.calm
 pn:=[]
 xe:=fun _ _=>False
structure Aj(X:Cx)(N:List Str)(scope:Scope)(cl:List (Str × Addr))(i j:Nat):Prop where
 ok:∃y c,N[i]? = some y/\X.N[j]? = some y/\(X.env.kindOf y=some .cell\/X.env.kindOf y=some .free)/\((gH scope X.env).names.lookup y=some .cell\/(gH scope X.env).names.lookup y=some .free)/\cl.lookup y=some c
noncomputable def kj(σ:St)(x:Option V)(caps:List Nat):St:=x::caps.map fun j=>(σ[j]?).join
section
variable{X:Cx}{pins:List (Addr × Obj)}{σ:St}{H:Hp}{s:Shared}
theorem Inv.comp{N:List Str}{scope:Scope}{cl:List (Str × Addr)}{fp:List Addr}{caps:List Nat}{h4:Heap}{D C:Addr}{tk:Nat}(I:Inv X pins σ H s)(hkind:scope.kind=.function)(hsub:Io X.env.cells cl)
  (hhas:∀y,((gH scope X.env).names.lookup y=some .cell\/(gH scope X.env).names.lookup y=some .free)->∃c,cl.lookup y=some c) (hf:∀b∈fp,yF X pins H b) (hfo:∀b∈fp,∃o,s.heap.get? b=some o)
  (hlen:N.length=caps.length+1) (hcap:∀(i:Nat)(j:Nat),caps[i]? = some j->Aj X N scope cl (i+1) j) (hD:s.heap.objs.size<=D) (hC:s.heap.objs.size<=C) (hDC:C≠D)
  (hk:∀b o,s.heap.get? b=some o->h4.get? b=some o) (hlist:∃n,h4.get? D=some { cls:=.type "list",data:=.seq #[] n }) (hns:∃m,h4.Ns C m):
  Inv (dw X N scope cl s H fp C) (X.pn++pins) (kj σ none caps) (upd H D (.lst [])) { s with heap:=h4,toks:=tk }:=by
 have hnD:H D=none:=I.hok.fresh hD;have hnC:H C=none:=I.hok.fresh hC;have lt:∀b o,s.heap.get? b=some o->b≠D/\b≠C:=fun b o e=>⟨cH (fJ (bU e) hD),cH (fJ (bU e) hC)⟩;have nst:∀b,b≠X.env.locals->b∉X.fs->b∉frs X.stack:=fun b h1 h2 z=>by
  rcases cO.mp (I.yw b z)with e|e
  ·exact h1 e
  ·exact h2 e
 refine ⟨⟨I.ok.mod,hkind,I.ok.glob,I.ok.blt,hC,fun x y c h1 h2=>I.ok.inj x y c (hsub.of h1) (hsub.of h2),fun y hy=>hhas y hy,fun y c h=>(nomatch h),I.ok.hd,I.ok.frames,.inl rfl,fun b hb=>?_,I.bs,eN I.ok.bsz I.sz,fun b o e hb=>?_,fun b hb=>?_,I.stack,I.zN⟩,
  rfl,I.bare,Un.laid hk hD hnD,?_,fun y c e=>?_,?_,fun y c e=>?_,fun p hp=>?_,?_,?_⟩
 ·obtain⟨o,e⟩:=hfo b hb;exact⟨(lt b o e).2,fun x c q=>(hf b hb).2.2.2.2.1 x c (hsub.of q)⟩
 ·rcases(hf b hb).2.2.2.1 with z|z
  ·exact I.ok.U7 b o e z
  ·exact absurd (fJ (bU e) I.ok.bsz) (Yh.mpr z)
 ·exact nst b (hf b hb).2.1 (hf b hb).2.2.1
 ·obtain⟨m,hm⟩:=hns;obtain⟨m0,_,hl⟩:=I.loc;refine⟨m,hm,fun i y v h1 h2 h3=>?_⟩;cases i with
  |zero=>cases h2
  |succ i =>
   have h2':((caps.map fun j=>(σ[j]?).join)[i]?)=some (some v):=h2;rw[gQ]at h2';cases ec:caps[i]? with
   |none=>rw[ec]at h2';cases h2'
   |some j =>
    rw[ec]at h2';have S9:(σ[j]?).join=some v:=cN h2';have e2:σ[j]? = some (some v):=by
     cases q:σ[j]? with
     |none=>rw[q]at S9;cases S9
     |some z=>rw[q]at S9;exact congrArg some S9
    obtain⟨y',c,n1,n2,k1,k2,lc⟩:=(hcap i j ec).ok;have ey:y=y':=by
     have h1':N[i+1]? = some y:=h1;rw[n1]at h1';exact(cN h1').symm
    subst ey;have vis:Vis X.env.scope y:=k1.elim (fun z=>.inr (.inl z)) fun z=>.inr (.inr z);obtain⟨u,ru,lk⟩:=hl j y v n2 e2 vis;refine⟨u,ru,.inr ⟨k2,c,lc,?_⟩⟩;rcases lk with⟨z,_⟩|⟨_,c',lc',ic⟩
    ·rcases k1 with k1|k1 <;> (rw[z]at k1;cases k1)
    ·rw[hsub.of lc]at lc';cases lc';obtain⟨o,ho,hd⟩:=ic;exact⟨o,hk c o ho,hd⟩
 ·obtain⟨v,o,ho,hd⟩:=I.cell y c (hsub.of e);exact⟨v,o,hk c o ho,hd⟩
 ·show(upd H D (.lst [])) C=none;rw[aB hDC];exact hnC
 ·have n:=I.pR y c (hsub.of e);obtain⟨v,o,ho,hd⟩:=I.cell y c (hsub.of e);rw[aB (lt c o ho).1];exact n
 ·have hp':p∈X.pn++pins:=hp;obtain⟨e,n,ne,nf,d⟩:=I.pin p hp';exact⟨hk _ _ e,by rw[aB (lt _ _ e).1];exact n,(lt _ _ e).2,nst _ ne nf,d⟩
 ·obtain⟨n,e⟩:=hlist;exact I.hok.laid hk hD ⟨eO _,[],n,.nil,e⟩
 ·show(kj σ none caps).length=N.length;unfold kj;rw[jo,aV,hlen]
theorem Inv.Tc{N:List Str}{scope:Scope}{cl:List (Str × Addr)}{fp:List Addr}{C:Addr}{aa3:List (Addr × Obj)}{σ':St}{H':Hp}{s':Shared}{h':Heap}(I:Inv X pins σ H s)(hf:∀b∈fp,yF X pins H b)(hC:s.heap.objs.size<=C)
  (I':Inv (dw X N scope cl s H fp C) aa3 σ' H' s') (hs:xZ C s'.heap h'):Inv X pins σ H' { s' with heap:=h' }:=by
 obtain⟨hp,g,d,t,os⟩:=s';have eo:os=s.os:=I'.os;subst eo;have ne:∀b o,s.heap.get? b=some o->b≠C:=fun b o e=>cH (fJ (bU e) hC);have hn:H' C=none:=I'.free;have B:Un (frs X.stack) fp H H' s.heap hp:=I'.base;have kp:∀b o,b≠C->hp.get? b=some o->h'.get? b=some o:=fun b o hb e=>(hs.2 b hb).trans e
 suffices r:Inv X pins σ H' { s with heap:=h',gens:=g,drawn:=d,toks:=t }from r
 refine I.call (h':=h') (g':=g) (d':=d) (t':=t) (ch:=fp) ⟨fun b o e n h1 h2=>kp b o (ne b o e) (B.keep b o e n h1 h2),fun b o e n h1 h2=>?_,B.free,fun b o e h2=>?_,B.tups,B.CP,B.Ii⟩ (fun b u e=>?_) I'.bare fun b hb=>?_
 ·obtain⟨sl,q⟩:=B.slot b o e n h1 h2;exact⟨sl,kp b _ (ne b o e) q⟩
 ·obtain⟨o',q⟩:=B.there b o e h2;exact⟨o',kp b _ (ne b o e) q⟩
 ·have nb:∀c v,H' c=some v->c≠C:=fun c v q z=>by rw[z,hn]at q;cases q
  refine(I'.hok b u e).stay (fun c v hc q=>kp c v ?_ q) (fun _ q=>q) fun _ _ q=>q;rcases hc with z|z
  ·rw[z];exact nb b u e
  ·exact nb c _ z
 ·obtain⟨f0,f1,f2,f3,f4,f5⟩:=hf b hb;exact⟨f3,f1,f4,f5⟩
end
noncomputable def vI(J:It)(caps:List Nat)(tt:TT)(te:TE)(σ:St)(D:Addr)(Q:VK)(H1:Hp):Prop:=∃W:Nat->Nat->List V->Hp->Prop,(∃m,W 0 m [] (upd H1 D (.lst [])))/\∀i m ys H,W i m ys H ->
 H D=some (.lst ys)/\((J.stop i H/\Q (.ref D) H)\/(J.go i H/\ys.length<sizeLine/\∀ x H',J.yld i H x H'->tt (kj σ (some x) caps) H' fun b H2=>if b=true then
  te (kj σ (some x) caps) H2 fun y H3=>H3 D=some (.lst ys)/\∃m',m'<m/\W (i+1) m' (ys++[y]) (upd H3 D (.lst (ys++[y])))
  else H2 D=some (.lst ys)/\∃ m',m'<m/\W (i+1) m' ys H2))
noncomputable def al8(wi:TI)(caps:List Nat)(tt:TT)(te:TE):TE:=fun σ H Q=>wi σ H fun J H1=>∀D,H1 D=none->vI J caps tt te σ D Q H1
noncomputable def PTs(X:Cx)(ifs:List Expr)(tt:TT):Prop:=∀(pins:List (Addr × Obj)) (s:Shared) (σ:St) (H:Hp) (Q:Bool->Hp->Prop),Inv X pins σ H s->tt σ H Q ->
 wpAny (model X.prog X.w) X.A (forIn ifs true fun c r=>if r=true then do let ok <-J0 c X.env (eval c X.env);pure (ForInStep.yield ok)else pure (ForInStep.yield r)) (TP X pins σ Q) X.xe s
noncomputable def oZ:TT:=fun _ H Q=>Q true H
theorem iC{X:Cx}:PTs X [] oZ:=fun _ _ _ H _ I h=>wpAny_tests_nil ⟨H,I,h⟩
theorem Jg{X:Cx}{c:Expr}{tt:TT}(h:PT X c tt):PTs X [c] tt:=fun pins s σ H Q I q=>wpAny_tests_one (h pins s σ H Q I q)
section
variable{X:Cx}
theorem Lj{elt iter:Expr}{x:Str}{px:Pos}{ifs:List Expr}{scope:Scope}{pos:Pos}{cl:List (Str × Addr)}{N:List Str}{caps:List Nat}{tt:TT}{te:TE}{pins:List (Addr × Obj)}{σ:St}{H2:Hp}{s2:Shared}{Q:VK}{it:Addr}{fp:List Addr}{tn:Nat->Heap->Prop}{J:It}
  {RR:Value->Addr->n8->Shared->Prop} {E:Value->Shared->Prop} (hc:X.calm=true)
  (hcell:∀y∈scope.names,y.2≠.cell) (hkind:scope.kind=.function) (hsub:Io X.env.cells cl)
  (hhas:∀y,((gH scope X.env).names.lookup y=some .cell\/(gH scope X.env).names.lookup y=some .free)->∃c,cl.lookup y=some c)
  (hN:N.Nodup) (hN0:N[0]? = some x) (hx:(gH scope X.env).names.lookup x=some .local) (hlen:N.length=caps.length+1) (hcap:∀(i:Nat)(j:Nat),caps[i]? = some j->Aj X N scope cl (i+1) j)
  (ht:∀s H fp C,PTs (dw X N scope cl s H fp C) ifs tt) (he:∀s H fp C,PE (dw X N scope cl s H fp C) elt te)
  (I2:Inv X pins σ H2 s2) (T:Turn X.prog X.w X.K (.Name x px) J fp it tn) (st2:tn 0 s2.heap) (f2:∀b∈fp,yF X pins H2 b) (w2:∀D,H2 D=none->vI J caps tt te σ D Q H2)
  (hRR:∀D C σ' H' s5,s2.heap.objs.size<=C->Inv (dw X N scope cl s2 H2 fp C) (X.pn++pins) σ' H' s5->Q (.ref D) H'->RR (.ref D) C (.ok .next) s5):
  wpAny (model X.prog X.w) X.A (JZ []) (fun acc s₃=>wpAny (model X.prog X.w) X.A (afb scope X.env.globals cl [] X.env.qual none .none (some X.env)) (fun cenv s₄ =>
   ig (model X.prog X.w) X.A (.compStart (.ListComp elt [⟨.Name x px,iter,ifs,0⟩] scope pos) 0 (.ref it) acc { cenv with scope:=gH scope X.env }) (RR acc cenv.locals) s₄) E s₃) E s2:=by
 refine xH (aeW hcell (by intro y hy;simp at hy) (fun h₁ hns₁ hsb₁=>?_) hkind);dsimp only at hns₁ hsb₁ ⊢;generalize hH2:s2.heap.push { cls:=.type "list",dict:=none,data:=.seq ([]:List Value).toArray }=G2 at hns₁ hsb₁ ⊢;have hC:G2.objs.size=s2.heap.objs.size+1:=by rw[<-hH2,qO]
 have hCle:s2.heap.objs.size<=G2.objs.size:=by rw[hC];exact sS _
 have hDC:G2.objs.size≠s2.heap.objs.size:=by rw[hC];exact sI (yc _)
 have old:∀b o,s2.heap.get? b=some o->h₁.get? b=some o:=fun b o e =>
  hsb₁.extBut b o (by rw[hC];exact cH (Cr (bU e))) (dX _ (hH2 ▸ dX _ e))
 have hacc:∃n,h₁.get? s2.heap.objs.size=some { cls:=.type "list",data:=.seq #[] n }:=⟨_,hsb₁.extBut _ _ (aX hDC) (dX _ (hH2 ▸ eE _ rfl))⟩;have hnD:H2 s2.heap.objs.size=none:=I2.hok.fresh (bG _);obtain⟨W,⟨m0,w0⟩,turn⟩:=w2 s2.heap.objs.size hnD;have fo:∀b∈fp,∃o,s2.heap.get? b=some o:=fun b hb=>by
  obtain⟨o,e,_⟩:=T.obj _ _ st2 b hb;exact⟨o,e⟩
 have I3:Inv (dw X N scope cl s2 H2 fp G2.objs.size) (X.pn++pins) (kj σ none caps) (upd H2 s2.heap.objs.size (.lst [])) { s2 with heap:=h₁,toks:=s2.toks+([]:List (Str × Value)).length }:=
  I2.comp hkind hsub hhas f2 fo hlen hcap (bG _) hCle hDC old hacc ⟨_,hns₁⟩
 have st3:tn 0 h₁:=T.keep _ _ _ st2 fun b _ o e=>old b o e;have nf:∀b∈fp,b≠s2.heap.objs.size:=fun b hb=>by
  obtain⟨o,e⟩:=fo b hb;exact cH (bU e)
 have stat:∀{H':Hp},(∀b∈fp,H' b=none)->∀b∈fp,yF (dw X N scope cl s2 H2 fp G2.objs.size) (X.pn++pins) H' b:=fun {H'} hn b hb=>by
  obtain⟨f0,f1,f2',f3,f4,f5⟩:=f2 b hb;obtain⟨o,e⟩:=fo b hb;refine⟨hn b hb,cH (fJ (bU e) hCle),fun z=>?_,.inl hb,fun y c q=>f4 y c (hsub.of q),fun p hp=>f5 p hp⟩;rcases cO.mp (I2.yw b z)with q|q
  ·exact f1 q
  ·exact f2' q
 have loop:ig (model X.prog X.w) X.A (.compLoop (.ListComp elt [⟨.Name x px,iter,ifs,0⟩] scope pos) 0 (.ref it) (.ref s2.heap.objs.size) (QL scope cl G2.objs.size X.env))
   (RR (.ref s2.heap.objs.size) G2.objs.size) { s2 with heap:=h₁,toks:=s2.toks+([]:List (Str × Value)).length }:=by
  refine codeAny_compLoop_tests (fun n s'=>∃i ys σ' H',Inv (dw X N scope cl s2 H2 fp G2.objs.size) (X.pn++pins) σ' H' s'/\(∃z,σ'=kj σ z caps)/\tn i s'.heap/\(∀b∈fp,H' b=none)/\W i n ys H') ?_ m0
   ⟨0,[],_,_,I3,⟨none,rfl⟩,st3,fun b hb=>by rw[aB (nf b hb)];exact(f2 b hb).1,w0⟩
  rintro n s' ⟨i,ys,σ',H',I',⟨z,rfl⟩,st',fr',w'⟩;obtain⟨hl,ends⟩:=turn i n ys H' w';rcases ends with⟨stop,q⟩|⟨go,hsz,step⟩
  ·refine fP (T.done (dw X N scope cl s2 H2 fp G2.objs.size) rfl rfl rfl hc i _ s' _ H' (fun _ _=>False) I' (stat fr') st' stop) (fun r s5 ⟨hr,I5⟩=>?_) fun _ _ f=>f.elim;subst hr;exact hRR _ _ _ _ _ hCle I5 q
  ·refine fP (T.item (dw X N scope cl s2 H2 fp G2.objs.size) rfl rfl rfl hc i _ s' _ H' (fun _ _=>False) I' (stat fr') st' go) (fun r s5 ⟨u,hr,h5⟩=>?_) fun _ _ f=>f.elim;subst hr;show wpAny _ _ (JM (.Name x px) (.ref it) u >>= fun _=>lA (.Name x px) (QL scope cl G2.objs.size X.env) u) _ _ _;refine aJ (fP h5 (fun _ s6 ⟨y,H6,I6,r6,y6,st6,fr6⟩=>?_) fun _ _ f=>f.elim);have I6':=I6.pinned (stat fr6) (T.obj _ _ st6);have hg:PG (dw X N scope cl s2 H2 fp G2.objs.size) (.Name x px) (nM 0):=rA hN hN0 (.inl hx) (.inr hx);have again:∀{σ7:St}{H7:Hp}{s7:Shared},Inv (dw X N scope cl s2 H2 fp G2.objs.size) ((X.pn++pins)++Gp fp s6.heap) σ7 H7 s7->tn (i+1) s7.heap/\∀b∈fp,H7 b=none:=fun {σ7 H7 s7} I7=>by
    refine⟨T.keep _ _ _ st6 fun b hb o e=>(I7.pin (b,o) (mj _ (mj _ (mQ hb e)))).1,fun b hb=>?_⟩;obtain⟨o,e,d⟩:=T.obj _ _ st6 b hb;exact(I7.pin (b,o) (mj _ (mj _ (mQ hb e)))).2.1
   refine fP (hg _ s6 _ H6 y u (fun σ7 H7=>σ7=kj σ (some y) caps/\H7=H6) I6' r6 ⟨rfl,rfl⟩) (fun _ s7 ⟨σ7,H7,I7,e7,e7'⟩=>?_) fun _ _ f=>f.elim;subst e7 e7';refine fP (ht s2 H2 fp G2.objs.size _ s7 _ _ _ I7 (step y H7 y6)) (fun ok s8 ⟨H8,I8,q8⟩=>?_) fun _ _ f=>f.elim;cases ok with
   |false =>
    obtain⟨_,m',hm,w8⟩:=q8;have a8:=again I8;exact⟨m',hm,i+1,ys,_,H8,I8.pW,⟨_,rfl⟩,a8.1,a8.2,w8⟩
   |true =>
    refine fP (he s2 H2 fp G2.objs.size _ s8 _ _ _ I8 q8) (fun x9 s9 ⟨y9,H9,I9,r9,l9,m',hm,w9⟩=>?_) fun _ _ f=>f.elim;refine fP (gF (X:=dw X N scope cl s2 H2 fp G2.objs.size) _ s9 _ H9 (.ref s2.heap.objs.size) [y9] _ [x9] (fun _ H10=>H10=upd H9 s2.heap.objs.size (.lst (ys++[y9]))) I9 rfl (.cons r9 .nil) ⟨_,ys,y9,rfl,rfl,l9,hsz,rfl⟩) (fun _ s10 ⟨_,H10,I10,_,e10⟩=>?_) fun _ _ f=>f.elim;subst e10;have a10:=again I10;exact⟨m',hm,i+1,ys++[y9],_,_,I10.pW,⟨_,rfl⟩,a10.1,a10.2,w9⟩
 exact aeU loop (T.self _ 0 _ _ _ st3 loop)
theorem lJ{elt iter:Expr}{x:Str}{px:Pos}{ifs:List Expr}{scope:Scope}{pos:Pos}{cl:List (Str × Addr)}{N:List Str}{caps:List Nat}{wi:TI}{tt:TT}{te:TE}(hc:X.calm=true)(hclos:QH scope X.env=pure cl)
  (hcell:∀y∈scope.names,y.2≠.cell) (hkind:scope.kind=.function) (hnames:∀y∈scope.names,y.2=.local->scope.names.lookup y.1=some .local) (hsub:Io X.env.cells cl)
  (hhas:∀y,((gH scope X.env).names.lookup y=some .cell\/(gH scope X.env).names.lookup y=some .free)->∃c,cl.lookup y=some c)
  (hN:N.Nodup) (hN0:N[0]? = some x) (hx:(gH scope X.env).names.lookup x=some .local) (hlen:N.length=caps.length+1) (hcap:∀(i:Nat)(j:Nat),caps[i]? = some j->Aj X N scope cl (i+1) j)
  (hi:PI X (.Name x px) iter wi) (ht:∀s H fp C,PTs (dw X N scope cl s H fp C) ifs tt) (he:∀s H fp C,PE (dw X N scope cl s H fp C) elt te)
  (hs:∀x,Fb iter X.env x=pure x:=by intro _;rfl):PE X (.ListComp elt [⟨.Name x px,iter,ifs,0⟩] scope pos) (al8 wi caps tt te):=by
 intro pins s σ H Q I h;rw[afj];refine Qo (use:=none) rfl hs hclos hkind hnames (thn (hi pins s σ H _ I h) fun v s1 h1=>thn h1 fun itv s2 h2=>?_);obtain⟨it,fp,tn,J,H2,e,I2,T,st2,f2,w2⟩:=h2;subst e;exact Lj hc hcell hkind hsub hhas hN hN0 hx hlen hcap ht he I2 T st2 f2 w2 fun D C σ' H' s5 hC I5 q=>by
  obtain⟨m,hm,_⟩:=I5.loc;exact⟨m,hm,fun h' hs'=>⟨.ref D,H',I2.Tc f2 hC I5 hs',rfl,q⟩⟩
theorem mU{i:Nat}{y:Str}{py spos:Pos}{elt iter:Expr}{x:Str}{px:Pos}{ifs:List Expr}{scope:Scope}{pos:Pos}{cl:List (Str × Addr)}{N:List Str}{caps:List Nat}{wi:TI}{tt:TT}{te:TE}(hXN:X.N.Nodup)(hi0:X.N[i]? = some y)(hy:Loc X.env.scope y)
  (hc:X.calm=true) (hclos:QH scope X.env=pure cl)
  (hcell:∀y∈scope.names,y.2≠.cell) (hkind:scope.kind=.function) (hnames:∀y∈scope.names,y.2=.local->scope.names.lookup y.1=some .local) (hsub:Io X.env.cells cl)
  (hhas:∀y,((gH scope X.env).names.lookup y=some .cell\/(gH scope X.env).names.lookup y=some .free)->∃c,cl.lookup y=some c)
  (hN:N.Nodup) (hN0:N[0]? = some x) (hx:(gH scope X.env).names.lookup x=some .local) (hlen:N.length=caps.length+1) (hcap:∀(i:Nat)(j:Nat),caps[i]? = some j->Aj X N scope cl (i+1) j)
  (hi:PI X (.Name x px) iter wi) (ht:∀s H fp C,PTs (dw X N scope cl s H fp C) ifs tt) (he:∀s H fp C,PE (dw X N scope cl s H fp C) elt te)
  (hs:∀x,Fb iter X.env x=pure x:=by intro _;rfl) (hsw:Bg (.ListComp elt [⟨.Name x px,iter,ifs,0⟩] scope pos) (some (.Name y py)) spos.line X.env=pure true:=by rfl)
  (hf:X.fn y=true\/X.env.scope.names.lookup y=some .local:=by first|exact .inl rfl|exact .inr rfl|assumption):
  PS X (.Assign [.Name y py] (.ListComp elt [⟨.Name x px,iter,ifs,0⟩] scope pos) spos) (ah8 (al8 wi caps tt te) (nM i)):=by
 intro pins s σ H D I h;rw [aeV _ _ _ _ hsw];refine aJ (QB (aJ ?_));show wpAny _ X.A (do let _ <- afk (.ListComp elt [⟨.Name x px,iter,ifs,0⟩] scope pos) scope X.env _ (JZ []) false (eval iter X.env) (some (lA (.Name y py) X.env))) _ _ s;refine aJ (fP (Qo (use:=some (lA (.Name y py) X.env)) (Q:=fun _ s'=>SP X pins D .next s') rfl hs hclos hkind hnames
  (thn (hi pins s σ H _ I h) fun v s1 h1=>thn h1 fun itv s2 h2=>?_)) (fun _ s' hq=>aU (aU hq)) fun _ _ e=>e)
 obtain⟨it,fp,tn,J,H2,e,I2,T,st2,f2,w2⟩:=h2;subst e;refine Lj (RR:=fun acc C=>compPost (model X.prog X.w) X.A X.xe (some (lA (.Name y py) X.env)) (fun _ s'=>SP X pins D .next s') acc C) hc hcell hkind hsub hhas hN hN0 hx hlen hcap ht he I2 T st2 f2 w2 fun D' C σ' H' s5 hC I5 q=>?_;show wpAny _ X.A (lA (.Name y py) X.env (.ref D')) _ _ _;have IX:Inv X pins σ H' s5:=I2.Tc (h':=s5.heap) f2 hC I5 ⟨rfl,fun _ _=>rfl⟩;have nL:C≠X.env.locals:=by
  obtain⟨m,⟨o,_,_,ho,_⟩,_⟩:=I2.loc;exact sI (fJ (bU ho) hC)
 have nC:∀z c,X.env.cells.lookup z=some c->c≠C:=fun z c e=>by
  obtain⟨v,o,ho,_⟩:=I2.cell z c e;exact cH (fJ (bU ho) hC)
 refine Xi (Gk IX hXN hi0 hy (v:=.ref D') rfl (fun s6 I6 hb=>?_) hf);obtain⟨m,hm,_⟩:=I5.loc;obtain⟨a,sb,ha⟩:=hb;have na:C≠a:=by
  rcases ha with z|z
  ·rw[z];exact nL
  ·exact aX (nC _ _ z)
 refine⟨m,hm.sameBut sb na,fun h' hs'=>⟨_,H',?_,q⟩⟩;obtain⟨hp6,g6,d6,t6,o6⟩:=s6;refine I6.turned (it:=C) (t':=t6) (fun b o hb e=>(hs'.2 b hb).trans e) I5.free nL (.inr (eN I2.sz hC)) nC fun p hp z=>?_;have:=(I2.pin p hp).1;exact absurd (fJ (bU this) (by rw[z];exact hC)) (ud _)
end
theorem iJ{names:List (Str × Bh)}{cl:List (Str × Addr)}(h:(names.all fun p=>(p.2 != .cell && p.2 != .free) || (cl.lookup p.1).isSome)=true)(y:Str)(hy:names.lookup y=some .cell\/names.lookup y=some .free):∃c,cl.lookup y=some c:=by
 have key:∀k:Bh,(k=.cell\/k=.free)->names.lookup y=some k->∃c,cl.lookup y=some c:=fun k hk e=>by
  have m:=Et.mp h _ (Ez e);have:(k != .cell && k != .free)=false:=by rcases hk with z|z <;> (subst z;rfl)
  rw[show((y,k):Str × Bh).2=k from rfl,this,afP]at m;exact YZ.mp m
 rcases hy with z|z
 ·exact key _ (.inl rfl) z
 ·exact key _ (.inr rfl) z
noncomputable def cG(X:Cx)(N:List Str)(scope:Scope)(cl:List (Str × Addr)):Nat->List Nat->Prop
 |_,[]=>True
 |i,j::r=>Aj X N scope cl i j/\cG X N scope cl (i+1) r
theorem cG.at{X:Cx}{N:List Str}{scope:Scope}{cl:List (Str × Addr)}:∀{caps:List Nat}{k:Nat},cG X N scope cl k caps->∀(i j:Nat),caps[i]? = some j->Aj X N scope cl (i+k) j
 |[],_,_,i,j,h=>by simp at h
 |a::r,k,hc,0,j,h=>by
  have e:a=j:=by simpa using h
  subst e;rw[FZ];exact hc.1
 |a::r,k,hc,i+1,j,h=>by
  have:=cG.at hc.2 i j (by simpa using h);rw[show i+1+k=i+(k+1) by lia];exact this
theorem Z1{lo:Int}{n:Nat}{caps:List Nat}{te:TE}{σ:St}{H:Hp}{D:Addr}{Q:VK}(Pv:Nat->List V->Hp->Prop)(h0:Pv 0 [] (upd H D (.lst [])))(hl:∀i ys H,i<=n->Pv i ys H->H D=some (.lst ys)/\ys.length<sizeLine)
  (hs:∀i ys H,i<n->Pv i ys H->te (kj σ (some (.int (lo+i))) caps) H fun y H3=>H3 D=some (.lst ys)/\Pv (i+1) (ys++[y]) (upd H3 D (.lst (ys++[y])))) (hd:∀ys H,Pv n ys H->Q (.ref D) H)
  (mono:∀σ H (Q Q':VK),(∀y H,Q y H->Q' y H)->te σ H Q->te σ H Q'):
  vI (Itr lo n) caps oZ te σ D Q H:=by
 refine⟨fun i m ys H=>m=n-i/\i<=n/\Pv i ys H,⟨n,by simp,eO _,h0⟩,?_⟩;rintro i m ys H ⟨rfl,hi,p⟩;obtain⟨q,z⟩:=hl i ys H hi p;refine⟨q,?_⟩;by_cases hlt:i<n
 ·refine .inr ⟨hlt,z,fun x H' y=>?_⟩;obtain⟨e,y⟩:=y;subst e y;unfold oZ;dsimp only;rw[if_pos rfl];exact mono _ _ _ _ (fun y H3 ⟨a,b⟩=>⟨a,n-(i+1),by lia,rfl,hlt,b⟩) (hs i ys _ hlt p)
 ·have e:i=n:=by lia
  subst e;exact .inl ⟨bG _,hd ys H p⟩
theorem jd{K:bB}{a:Addr}{xs:List V}{caps:List Nat}{te:TE}{σ:St}{H:Hp}{D:Addr}{Q:VK}(Pv:Nat->List V->Hp->Prop)(h0:Pv 0 [] (upd H D (.lst [])))
  (hl:∀i ys H,i<=xs.length->Pv i ys H->SqL K H a xs/\H D=some (.lst ys)/\ys.length<sizeLine)
  (hs:∀i ys H x,xs[i]? = some x->Pv i ys H->te (kj σ (some x) caps) H fun y H3=>H3 D=some (.lst ys)/\Pv (i+1) (ys++[y]) (upd H3 D (.lst (ys++[y])))) (hd:∀ys H,Pv xs.length ys H->Q (.ref D) H)
  (mono:∀σ H (Q Q':VK),(∀y H,Q y H->Q' y H)->te σ H Q->te σ H Q'):
  vI (Itl K a) caps oZ te σ D Q H:=by
 refine⟨fun i m ys H=>m=xs.length-i/\i<=xs.length/\Pv i ys H,⟨xs.length,by simp,eO _,h0⟩,?_⟩;rintro i m ys H ⟨rfl,hi,p⟩;obtain⟨sq,q,z⟩:=hl i ys H hi p;refine⟨q,?_⟩;by_cases hlt:i<xs.length
 ·refine .inr ⟨⟨xs,xs[i],sq,by simp[hlt]⟩,z,fun x H' y=>?_⟩;obtain⟨e,y⟩:=y;subst e;unfold oZ;dsimp only;rw[if_pos rfl];exact mono _ _ _ _ (fun y H3 ⟨a,b⟩=>⟨a,xs.length-(i+1),by lia,rfl,hlt,b⟩) (hs i ys _ x (y xs sq) p)
 ·have e:i=xs.length:=by lia
  subst e;exact .inl ⟨⟨xs,sq,bG _⟩,hd ys H p⟩
section
variable{X:Cx}
theorem Lk{A:bY}{E:Value->Shared->Prop}{s:Shared}{T:String}{r d:Addr}{n:Nat}{P:Nat->Value->Prop}{OK:Heap->Prop}{ns:List Int}{Q:Value->Shared->Prop}
  (K:afB X.prog X.w T r d n P OK) (hh:A.handled=none) (hok:OK s.heap) (hn:n<=sizeLine) (h64:n<64) (hP:∀us:List Value,us.length=n->(∀(j:Nat)(v:Value),us[j]? = some v->P j v)->IntsAre us ns)
  (h:∀ (h':Heap) (tk:Nat) (l:Addr) (out:Array Value) (ns':List Int) (e:Nat),(∀ b ob,s.heap.get? b=some ob->h'.get? b=some ob)->(∀ b ob,s.heap.get? b=some ob->b≠l)->h'.get? l=some (yh "list" out e) ->
   IntsAre out.toList ns'->ns'.Perm ns->ns'.Pairwise (· <= ·)->Q (.ref l) { s with heap:=h',toks:=tk }) :
  wpAny (model X.prog X.w) A (call (.builtin "sorted") [.ref r]) Q E s:=by
 refine agE Yz Yx Yy (agm _) ?_;unfold eG.«sorted»;refine aJ (m:=XD "sorted" 1 1 _) (aU ?_);refine aJ (aft (A:=A.in1) K hh hok hn fun h1 tk acc hk hacc=>?_);have hl:acc.toList.length=n:=by rw[mF];exact hacc.1
 have hI:=hP acc.toList hl fun j v e=>hacc.2 j v (by rw[<-qQ];exact e);refine aJ (Xq ?_ (by rw[hl];exact hn));have hoL:(h1.push (yh "list" acc.toList.toArray 0)).get? h1.objs.size=some (yh "list" acc.toList.toArray 0):=eE _ rfl;refine aJ (qN (z9 Yt ⟨_,hoL,rfl⟩ Ys (agi hoL hI (by rw[hl];exact h64) fun out ns' a1 a2 a3=>⟨_,rfl,?_⟩) (agj _)));refine aU ⟨_,rfl,?_⟩;obtain⟨e,he⟩:=Yv (vs:=acc.toList) (out:=out) hoL;have hb:∀b ob,s.heap.get? b=some ob->b<h1.objs.size:=fun b ob e'=>bU (hk b ob e');refine h _ tk _ out ns' e (fun b ob e'=>?_) (fun b ob e'=>cH (hb b ob e')) he a1 a2 a3;have hlt:=hb b ob e';rw[Yu (cH hlt) (by rw[Rv];exact Cr hlt)];exact dX _ (hk b ob e')
noncomputable def aiK:List V->Hp->VK->Prop:=fun xs H Q=>∃a kvs ns,xs=[V.ref a]/\Rd H a (.dK kvs)/\(kvs.map fun p=>kV p.1)=ns.map V.int/\ns.length<64 /\
 ∀(l:Addr)(ns':List Int),H l=none->ns'.Perm ns->ns'.Pairwise (· <= ·)->Q (.ref l) (upd H l (.lst (ns'.map V.int)))
noncomputable def aiL(K:bB):List V->Hp->VK->Prop:=fun xs H Q=>∃a ns,xs=[V.ref a]/\SqL K H a (ns.map V.int)/\ns.length<64 /\
 ∀(l:Addr)(ns':List Int),H l=none->ns'.Perm ns->ns'.Pairwise (· <= ·)->Q (.ref l) (upd H l (.lst (ns'.map V.int)))
theorem Z2(hc:X.calm=true):ju X (.builtin "sorted") aiK:=by
 intro pins s σ H xs us Q I r h;obtain⟨a,kvs,ns,rfl,ha,ei,h64,q⟩:=h;obtain⟨u,rfl,ru⟩:=vals1 r;cases ru;obtain⟨z,hd,vs,rel,dd⟩:=wD I.hok ha;obtain⟨ep,hat⟩:=dd.dictAt;have hl:=rel.length;have hns:ns.length=kvs.length:=by have:=congrArg mC ei;simpa using this.symm
 refine Lk (X:=X) (ns:=ns) (afy (knd:=cP X.prog X.w) (kvs:=vs) (ep:=ep) hd) (I.ok.hd hc) hat (by rw[<-hl];exact z) tb_g% (fun us hu hv=>?_) fun h' tk l' out ns' e' kp hne hl' hI hp ho=>?_
 ·have vv:=zO rel hu hv;rw[ei]at vv;exact intsAre_of vv
 ·refine⟨.ref l',_,I.Ht (t':=tk) kp hne (show dR X.prog X.w _ h' l' (.lst (ns'.map V.int))from⟨?_,out.toList,e',mR hI,by simpa using hl'⟩),rfl,q l' ns' (I.none_of hne) hp ho⟩;rw[aV,hp.length_eq,hns];exact z
theorem Z4:ju X (.builtin "sorted") (aiL X.K):=by
 intro pins s σ H xs us Q I r h;obtain⟨a,ns,rfl,ha,h64,q⟩:=h;obtain⟨u,rfl,ru⟩:=vals1 r;cases ru;obtain⟨its,rv,p,hz⟩:=I.list ha;have hI:=intsAre_of rv;have hl:its.length=ns.length:=by rw[<-rv.length,aV]
 refine sorted_ints p.isList hI tb_g% fun out ns' a1 a2 a3=>?_;obtain⟨e,he⟩:=sortedAll_at s.heap its out;refine⟨.ref (s.heap.objs.size+1),_,I.laid (t':=s.toks) (fun _ _=>sortedAll_old) (sS _) (show dR X.prog X.w _ _ (s.heap.objs.size+1) (.lst (ns'.map V.int))from⟨?_,out.toList,e,mR a1,by simpa using he⟩),rfl,q _ ns' (I.hok.fresh (sS _)) a2 a3⟩;rw[aV,a2.length_eq];rw[aV]at hz;exact hz
noncomputable def aoG(K:bB):List V->Hp->VK->Prop:=fun xs H Q=>aiK xs H Q\/aiL K xs H Q
theorem o8(hc:X.calm=true):ju X (.builtin "sorted") (aoG X.K):=(Z2 hc).or Z4
end
structure Fg(K:bB)(mg:Str->Option Value)(x:Str)(s:Stmt)(f:Addr)(d:FuncData)(ps:List Str):Prop extends Fun K x x s f d where
 b:Binds K d ps []
 g:mg x=some (.ref f)
section
variable{X:Cx}{x:Str}{pos pos':Pos}{e:Expr}{te:TE}{i:Nat}
theorem aD{CX:CXT}{k:Nat}{f:Addr}{fd:FuncData}{ps:List Str}{sp:Sp}{E:XK}{s:Stmt}{es:List Expr}{t:TA}(F:bZ X.prog X.w X.K X.mg X.base CX k f fd ps sp)(hr:jQ k X.A)(g:Fg X.K X.mg x s f fd ps)(hx:Passes CX X E)
  (ha:PA X (e::es) t) (hg:Gl X x:=by rfl) (hdb:(x == ("__debug__" : Str))=false:=by decide) (he:cT (e::es) X.env=(false,eval e X.env)::cT es X.env:=by rfl) (hpl:(iu pos (cT es X.env)).any (·.1)=false:=by rfl):
  PE X (.Call (.Name x pos') (e::es) [] pos) (alZ sp [] E t):=aky F hr hg g.g g.kp g.b .nil hx ha hdb he hpl
theorem psS(i:Nat)(hN:X.N.Nodup)(he:PE X e te)(hi:X.N[i]? = some x:=by rfl)(hx:Loc X.env.scope x:=by exact Or.inl rfl)(hs:Bg e (some (.Name x pos')) pos.line X.env=pure false:=by rfl)(hf:X.fn x=true\/X.env.scope.names.lookup x=some .local:=by first|exact .inl rfl|exact .inr rfl|assumption):
  PS X (.Assign [.Name x pos'] e pos) (ah8 te (nM i)):=Gm hN hi hx he hs hf
theorem pgN(i:Nat)(hN:X.N.Nodup)(hi:X.N[i]? = some x:=by rfl)(hx:Loc X.env.scope x:=by exact Or.inl rfl)(hf:X.fn x=true\/X.env.scope.names.lookup x=some .local:=by first|exact .inl rfl|exact .inr rfl|assumption):PG X (.Name x pos) (nM i):=rA hN hi hx hf
theorem pf(i:Nat){f:Str}(hN:X.N[i]? = some x:=by rfl)(hv:Vis X.env.scope x:=by first|exact Or.inl rfl|exact Or.inr (Or.inl rfl)|exact Or.inr (Or.inr rfl))(hd:(x == ("__debug__" : Str))=false:=by decide)(hcd:(x == ("__classdict__" : Str))=false:=by decide)
  (hb:xK (.Name x pos) f X.env (eval (.Name x pos) X.env)=eval (.Name x pos) X.env:=by rfl):PE X (.Attribute (.Name x pos) f pos') (ZF X.K (tVar i) f):=aop (pv i hN hv hd hcd) hb
end
end L2
namespace Sx
open PySem
noncomputable def Ris(l:List Nat):Prop:=l.Pairwise (· < ·)
theorem Ln{xs:Array Nat}{j:Nat}(hr:Ris xs.toList):∀(f lo hi:Nat),hi-lo<=f->lo<=hi->hi<=xs.size->(∀(i v:Nat),xs[i]? = some v->i<lo->v<j)->(∀(i v:Nat),xs[i]? = some v->hi<=i->j<=v) ->
  RT xs j f lo hi<=xs.size/\(∀(i v:Nat),xs[i]? = some v->i<RT xs j f lo hi->v<j)/\∀(i v:Nat),xs[i]? = some v->RT xs j f lo hi<=i->j<=v
 |0,lo,hi,h1,h2,h3,h4,h5=>by
  obtain rfl:hi=lo:=by lia
  exact⟨h3,h4,h5⟩
 |f+1,lo,hi,h1,h2,h3,h4,h5=>by
  unfold RT;by_cases c:lo<hi
  ·rw[if_pos c];dsimp only;have mh:(lo+hi) / 2<xs.size:=by lia
   have em:xs[(lo+hi) / 2]? = some xs[(lo+hi) / 2]:=getElem?_pos xs _ mh;have eg:xs.getD ((lo+hi) / 2) j=xs[(lo+hi) / 2]:=by rw[Array.getD_eq_getD_getElem?,em];rfl
   have mono:∀(i k v u:Nat),xs[i]? = some v->xs[k]? = some u->i<=k->v<=u:=fun i k v u e1 e2 h=>by
    rw[<-qQ]at e1 e2;obtain⟨l1,rfl⟩:=gn.mp e1;obtain⟨l2,rfl⟩:=gn.mp e2;rcases jO i k with z|z
    ·exact qP (WR.mp hr i k l1 l2 z)
    ·obtain rfl:i=k:=by lia
     exact bG _
   rw[eg];by_cases d:xs[(lo+hi) / 2]<j
   ·rw[if_pos d];refine Ln hr f _ hi tb_g% tb_g% h3 (fun i v e g=>?_) h5;have:=mono i _ v _ e em tb_g%;lia
   ·rw[if_neg d];refine Ln hr f lo _ tb_g% tb_g% tb_g% h4 fun i v e g=>?_;have:=mono _ i _ v em e g;lia
  ·rw[if_neg c];obtain rfl:hi=lo:=by lia
   exact⟨h3,h4,h5⟩
theorem Dk{xs:Array Nat}(hr:Ris xs.toList)(j:Nat):
  jP xs j<=xs.size/\(∀(i v:Nat),xs[i]? = some v->i<jP xs j->v<j)/\∀(i v:Nat),xs[i]? = some v->jP xs j<=i->j<=v:=
 Ln hr _ 0 _ tb_g% (eO _) (bG _) (fun _ _ _ h=>absurd h (Rg _)) fun i v e h=>by
  obtain⟨l,_⟩:=Ym.mp e;lia
theorem Z6{xs:Array Nat}(hr:Ris xs.toList):jP xs 0=0:=by
 obtain⟨a,b,c⟩:=Dk hr 0;rcases Ke (jP xs 0)with z|z
 ·exact z
 ·have l:0<xs.size:=by lia
  exact absurd (b 0 _ (getElem?_pos xs 0 l) z) (Rg _)
theorem Z7{xs:Array Nat}(hr:Ris xs.toList){i v:Nat}(e:xs[i]? = some v):jP xs (v+1)=i+1:=by
 obtain⟨a,b,c⟩:=Dk hr (v+1);obtain⟨l,e'⟩:=Ym.mp e;have strict:∀(k u:Nat),xs[k]? = some u->i<k->v<u:=fun k u e2 h=>by
  have e1:=e;rw[<-qQ]at e1 e2;obtain⟨l1,rfl⟩:=gn.mp e1;obtain⟨l2,rfl⟩:=gn.mp e2;exact WR.mp hr i k l1 l2 h
 rcases afG (jP xs (v+1)) (i+1)with z|z|z
 ·have:=c i v e tb_g%;lia
 ·exact z
 ·have l2:i+1<xs.size:=by lia
  have e2:=getElem?_pos xs (i+1) l2;have:=b (i+1) _ e2 z;have:=strict (i+1) _ e2 tb_g%;lia
structure Tk(t:gG)(n:Nat)(ld:Bool):Prop where
 n:t.place.size=n
 r:Ris t.place.toList
 d:t.dummies=#[]
 l:t.led=ld
theorem Z8{t:gG}{n j:Nat}{ld:Bool}(h:Tk t n ld)(e:t.slot j=.empty):j∉t.place.toList:=fun m=>by
 obtain⟨i,l,q⟩:=Qi.mp m;have e1:t.place[i]? = some j:=by rw[<-qQ,gA l,q]
 obtain⟨a,b,c⟩:=Dk h.r j;have ge:jP t.place j<=i:=afI fun z=>ud _ (b i j e1 z);have eq:jP t.place j=i:=by
  rcases jO (jP t.place j) i with z|z
  ·have l3:i<t.place.size:=by simpa using l
   have l2:jP t.place j<t.place.size:=by lia
   have c1:=c _ _ (getElem?_pos t.place _ l2) (bG _);have:=WR.mp h.r (jP t.place j) i (by simpa using l2) l z;rw[q]at this;have c2:j<=t.place.toList[jP t.place j]'(by simpa using l2):=by simpa using c1
   lia
  ·lia
 unfold agn at e;dsimp only at e;rw[eq,e1]at e;simp at e
theorem N6{t:gG}{n j:Nat}{ld:Bool}(h:Tk t n ld):t.slot j≠.dummy:=fun e=>by
 unfold agn at e;dsimp only at e;split at e
 ·cases e
 ·rw[h.d]at e;have hs:Rx #[] j=false:=by unfold Rx;simp
  rw[hs]at e;simp at e
theorem Vo{t:gG}{n:Nat}{ld:Bool}(h:Tk t n ld){g:Nat->Int}{hh:Int}:∀(f:Nat)(p:am6)(j:Nat)(d:Option Nat),p.dummy=none->agY t g hh f p=some (.empty j d)->d=none/\t.slot j=.empty
 |0,_,_,_,_,e=>by cases e
 |f+1,p,j,d,hp,e=>by
  unfold agY at e;have adv:(t.advance p).dummy=none:=by
   unfold am3;split
   ·exact hp
   ·exact hp
  cases hs:t.slot p.j with
  |empty =>
   rw[hs]at e;simp only[Yj,an3]at e;obtain⟨rfl,rfl⟩:=e;exact⟨hp,hs⟩
  |dummy=>exact absurd hs (N6 h)
  |live i =>
   rw[hs]at e;dsimp only at e;split at e
   ·cases e
   ·exact Vo h f _ j d adv e
theorem akM{t:gG}{n:Nat}{ld:Bool}(h:Tk t n ld){hh:Int}{slot:Nat}{wd:Bool}(e:t.freeSlot hh=some (slot,wd)):slot∉t.place.toList:=by
 unfold am0 at e;split at e
 ·rename_i j d hq;obtain⟨rfl,q⟩:=Vo h _ _ j d (by unfold amX;rfl) hq;simp only[Y0,Option.isSome_none,Yj,Y8]at e;rw[<-e.1];exact Z8 h q
 ·cases e
theorem akN{xs:Array Nat}(hr:Ris xs.toList){j:Nat}(nj:j∉xs.toList):Ris (am1 xs (jP xs j) j).toList:=by
 obtain⟨a,b,c⟩:=Dk hr j;rw[amW];unfold Ris at hr ⊢;rw[Qj];have e:xs.toList=xs.toList.take (jP xs j)++xs.toList.drop (jP xs j):=(Qh _ _).symm;have lo:∀v∈xs.toList.take (jP xs j),v<j:=fun v m=>by
  obtain⟨i,l,q⟩:=Qi.mp m;rw[iw]at l;rw[List.getElem_take]at q;exact b i v (by rw[<-qQ,gA tb_g%,q]) tb_g%
 have hi:∀v∈xs.toList.drop (jP xs j),j<v:=fun v m=>by
  have m':v∈xs.toList:=Jy m;obtain⟨i,l,q⟩:=Qi.mp m;rw[List.getElem_drop]at q;rw[JB]at l;have:=c (jP xs j+i) v (by rw[<-qQ,gA tb_g%,q]) tb_g%;rcases jO j v with z|z
  ·exact z
  ·exact absurd m' (by rw[show v=j by lia];exact nj)
 refine⟨hr.sublist (Xa _ _),kW.mpr ⟨hi,hr.sublist (List.drop_sublist _ _)⟩,fun v m u m2=>?_⟩;rcases cO.mp m2 with rfl|m2
 ·exact lo v m
 ·exact Rj (lo v m) (hi u m2)
theorem adp(n:Nat):Ris (Array.range n).toList:=by
 unfold Ris;rw[Array.toList_range];exact aeo
theorem vJ{t:gG}(n:Nat){ld:Bool}(hl:t.led=ld):Tk (t.standIn n) n ld:=⟨by unfold am4;simp,adp n,rfl,hl⟩
theorem adq{t:gG}{es:Array (Int × Value)}{ld:Bool}(h:Tk t es.size ld)(hh:Int)(x:Value):Tk (J8 t es hh x).2.1 (es.size+1) ld/\(J8 t es hh x).1.size=es.size+1:=by
 have sz:(J8 t es hh x).1.size=es.size+1:=by
  have:=(layNew_perm t es hh x).length_eq;simpa using this
 refine⟨?_,sz⟩;rw[<-sz];unfold J8;split
 ·rename_i slot wd e;dsimp only;unfold amY;split
  ·rename_i hf;refine⟨?_,?_,?_,h.l⟩
   ·unfold ago at hf;simp only[Kl,beq_iff_eq]at hf;exact hf.1
   ·exact akN h.r (akM h e)
   ·unfold am8;dsimp only;rw[h.d];have hs:Rx #[] slot=false:=by unfold Rx;simp
    rw[hs];rfl
  ·exact vJ _ h.l
 ·have e:(es.push (hh,x)).size=es.size+1:=Array.size_push ..;rw[e];exact vJ _ h.l
theorem aiM(owner:Array (Option Nat))(m:Nat):Ris (((jY (m+1)).filterMap fun j=>(owner.getD j none).map (j,·)).map (·.1)):=by
 unfold Ris;rw[aeA];refine an5 _ (R:=(· < ·)) (fun a a' hlt b hb b' hb'=>?_) aeo;cases h1:owner.getD a none with
 |none=>rw[h1]at hb;cases hb
 |some u =>
  cases h2:owner.getD a' none with
  |none=>rw[h2]at hb';cases hb'
  |some u' =>
   rw[h1]at hb;rw[h2]at hb';simp at hb hb';lia
theorem aiN{t:gG}{es:Array (Int × Value)}{ld:Bool}(hl:t.led=ld)(wanted:Nat):Tk (xQ t es wanted).2.1 es.size ld/\(xQ t es wanted).1.size=es.size:=by
 have sz:(xQ t es wanted).1.size=es.size:=by
  have:=(afl t es wanted).length_eq;simpa using this
 refine⟨?_,sz⟩;have hf:=afm t es wanted;rw[sz]at hf;unfold xQ at hf ⊢;split
 ·rename_i t' order e;rw[e]at hf;dsimp only at hf ⊢;split
  ·rename_i hc;rw[if_pos hc]at hf;dsimp only at hf ⊢;unfold am5 am7 at e;cases ow:am2 (amZ wanted-1) (es.map (·.1))with
   |none=>rw[ow]at e;cases e
   |some owner =>
    rw[ow]at e;simp only[Option.bind_eq_bind,Option.bind_some,Option.pure_def,Yj,Y8]at e;obtain⟨rfl,_⟩:=e;refine⟨?_,?_,rfl,hl⟩
    ·unfold ago at hf;simp only[Kl,beq_iff_eq]at hf;exact hf.1
    ·exact aiM owner _
  ·exact vJ _ hl
 ·exact vJ _ hl
theorem BP{α:Type}{l:List α}{i:Nat}(h:i<l.length):(l[i]::l.eraseIdx i).Perm l:=by
 rw[List.eraseIdx_eq_take_drop_succ];refine aeE.symm.trans ?_;rw[List.getElem_cons_drop h,Qh]
theorem abh{α:Type}(next:Nat->Nat):∀(f k:Nat)(left:List α)(out:Array α),left.length=f->(pickOrder.go next f k left out).toList.Perm (out.toList++left)
 |0,k,left,out,h=>by
  rw[z8.mp h,Eu];exact .rfl
 |f+1,k,left,out,h=>by
  unfold pickOrder.go;have lt:next k % left.length<left.length:=afM _ tb_g%;rw[gA lt];dsimp only;have ih:=abh next f (k+1) (left.eraseIdx (next k % left.length)) (out.push left[next k % left.length]) (by rw[WM lt];lia);refine ih.trans ?_;rw[Yo,pL];exact anA _ (BP lt)
theorem adt{α:Type}(next:Nat->Nat)(xs:Array α):(QK next xs).toList.Perm xs.toList:=by
 have:=abh next xs.size 0 xs.toList #[] (by simp);simpa[QK]using this
end Sx
set_option autoImplicit false
namespace Sx
open PySem
noncomputable def iv:Value->Int
 | .int n _=>n
 |_=>0
noncomputable def keys(es:Array (Int × Value)):List Int:=es.toList.map fun e=>iv e.2
noncomputable def dd1(C:List Int)(x:Int):List Int:=if x∈C then C else C++[x]
noncomputable def dd(ns:List Int):List Int:=ns.foldl dd1 []
theorem aiO{C D:List Int}(x:Int)(h:C.Perm D):(dd1 C x).Perm (dd1 D x):=by
 unfold dd1;by_cases m:x∈C
 ·rw[if_pos m,if_pos (h.mem_iff.mp m)];exact h
 ·rw[if_neg m,if_neg (fun z=>m (h.mem_iff.mpr z))];exact h.append_right _
theorem akO{ns:List Int}{i:Nat}{x:Int}(e:ns[i]? = some x):dd (ns.take (i+1))=dd1 (dd (ns.take i)) x:=by
 unfold dd;rw[qM,e,Xb];rfl
theorem akP{C:List Int}{x z:Int}:z∈dd1 C x↔z∈C\/z=x:=by
 unfold dd1;split
 ·rename_i h;exact⟨.inl,fun q=>q.elim id fun e=>e ▸ h⟩
 ·rw[dY,cZ]
theorem O9{C:List Int}{x:Int}(h:C.Nodup):(dd1 C x).Nodup:=by
 unfold dd1;split
 ·exact h
 ·rename_i n;refine Ql.mpr ⟨h,jJ.mpr ⟨iM,wB⟩,fun a m b m2 e=>?_⟩;rw[cZ]at m2;exact n (by rw[<-m2,<-e];exact m)
theorem Z9(ns:List Int):∀C:List Int,C.Nodup->(ns.foldl dd1 C).Nodup/\(∀z,z∈ns.foldl dd1 C↔z∈C\/z∈ns)/\(ns.foldl dd1 C).length<=C.length+ns.length:=by
 induction ns with
 |nil=>exact fun C h=>⟨h,fun z=>by simp,by simp⟩
 |cons x r ih =>
  intro C h;obtain⟨a,b,c⟩:=ih (dd1 C x) (O9 h);refine⟨a,fun z=>?_,?_⟩
  ·show z∈r.foldl dd1 (dd1 C x)↔_;rw[b z,akP,cO];constructor
   ·rintro((q|q)|q)
    ·exact .inl q
    ·exact .inr (.inl q)
    ·exact .inr (.inr q)
   ·rintro(q|q|q)
    ·exact .inl (.inl q)
    ·exact .inl (.inr q)
    ·exact .inr q
  ·show(r.foldl dd1 (dd1 C x)).length<=_;have:(dd1 C x).length<=C.length+1:=by unfold dd1;split <;> simp
   rw[jo];lia
theorem Vp(ns:List Int):(dd ns).Nodup:=(Z9 ns [] wB).1
theorem aiP{ns:List Int}{z:Int}:z∈dd ns↔z∈ns:=by
 rw[show dd ns=ns.foldl dd1 []from rfl,(Z9 ns [] wB).2.1 z];simp
theorem Td(ns:List Int):(dd ns).length<=ns.length:=by have:=(Z9 ns [] wB).2.2;simpa[dd]using this
section
variable{prog:bh}{w:World}{A:bY}{E:Value->Shared->Prop}{s:Shared}
structure gb(prog:bh)(w:World)(h:Heap)(a:Addr)(es:Array (Int × Value))(ep:Nat)(t:gG)(ld:Bool):Prop where
 o:h.get? a=some { cls:=.type "set",dict:=none,data:=.set es ep t,slots:=#[] }
 el:QS (jj prog w) es.toList
 tk:Tk t es.size ld
 few:es.size<scanBound
 ft:t.fits es.size=true
theorem gb.keep{h h':Heap}{a:Addr}{es:Array (Int × Value)}{ep:Nat}{t:gG}{ld:Bool}(x:gb prog w h a es ep t ld)(k:∀o,h.get? a=some o->h'.get? a=some o):gb prog w h' a es ep t ld:=⟨k _ x.o,x.el,x.tk,x.few,x.ft⟩
theorem gb.ty{a:Addr}{es:Array (Int × Value)}{ep:Nat}{t:gG}{ld:Bool}(x:gb prog w s.heap a es ep t ld):s.TypeIs (.ref a) "set" := ⟨_,x.o,rfl⟩
theorem al9{k:Int}{v:Value}(h:(jj prog w).is k v=true)(hs:v.scannable=true):iv v=k:=by
 have h:Gg k v=true:=h;cases v <;> simp_all [Gg,iv,Value.scannable]
theorem aoH{es:List (Int × Value)}(h:QS (jj prog w) es){e:Int × Value}(m:e∈es):(jj prog w).is (iv e.2) e.2=true:=by
 obtain⟨⟨k,hk,_⟩,hs⟩:=h e m;rw[al9 hk hs];exact hk
theorem aiQ{h:Heap}{a:Addr}{es:Array (Int × Value)}{ep:Nat}{t:gG}(o:h.get? a=some { cls:=.type "set",dict:=none,data:=.set es ep t,slots:=#[] })(es':Array (Int × Value))(t':gG):
  (h.update a (RQ es' t')).get? a=some { cls:=.type "set",dict:=none,data:=.set es' (ep+1) t',slots:=#[] }:=by
 have:=Aa (RQ es' t') o (by rw[putSet_of es' t' rfl];rfl);rw[putSet_of es' t' rfl]at this;exact this
theorem aoI{a:Addr}{es:Array (Int × Value)}{ep:Nat}{t:gG}{ld:Bool}{n:Int}{k:Tok}{Q:Bool->Shared->Prop}(x:gb prog w s.heap a es ep t ld)(room:es.size+1<scanBound)
  (q:∀(h':Heap) (es':Array (Int × Value)) (ep':Nat) (t':gG) (b:Bool),xZ a s.heap h'->gb prog w h' a es' ep' t' ld->(keys es').Perm (dd1 (keys es) n)->Q b { s with heap:=h' }):
  wpAny (model prog w) A (afq a (.int n k) ((jj prog w).hash n)) Q E s:=by
 have key:(jj prog w).is n (.int n k)=true:=decide_eq_true rfl;unfold afq Qx;refine qN (aJ (Fd x.o rfl x.ft ?_));dsimp only;rw[byScan_of rfl x.few x.el,if_pos rfl];unfold setAddByScan;refine aJ (aJ (xO (aJ (wpAny_setScan_of key x.o rfl x.ft x.el ?_))));cases hr:List.findIdx? (fun e=>(jj prog w).is n e.2) es.toList with
 |some j =>
  dsimp only;obtain⟨hj,hp,_⟩:=List.findIdx?_eq_some_iff_getElem.mp hr;have hm:n∈keys es:=by
   have sc:=(x.el _ (uZ hj)).2;exact jq.mpr ⟨_,uZ hj,al9 hp sc⟩
  refine aU (aU ?_);have:=q s.heap es ep t false (anw a s.heap) x (by unfold dd1;rw[if_pos hm]);cases s;exact this
 |none =>
  dsimp only;have hm:n∉keys es:=fun m=>by
   obtain⟨e,me,q1⟩:=jq.mp m;have h1:=List.findIdx?_eq_none_iff.mp hr e me;have h2:=aoH x.el me;rw[q1]at h2;rw[h2]at h1;cases h1
  have p1:=layNew_perm t es ((jj prog w).hash n) (.int n k);have f1:=layNew_fits t es ((jj prog w).hash n) (.int n k);obtain⟨k1,z1⟩:=adq x.tk ((jj prog w).hash n) (.int n k);generalize J8 t es ((jj prog w).hash n) (.int n k)=L at p1 f1 k1 z1 ⊢;obtain⟨es1,t1,wd,gv⟩:=L;dsimp only at p1 f1 k1 z1 ⊢;have e1:QS (jj prog w) es1.toList:=(x.el.push key rfl).perm (by rw[Yo]at p1;exact p1);have pk:(keys es1).Perm (dd1 (keys es) n):=by
   unfold dd1;rw[if_neg hm];have:=p1.map fun e=>iv e.2;rw[Yo,cM]at this;exact this
  have S1:∀ h':Heap,h'.get? a=some { cls:=.type "set",dict:=none,data:=.set es1 (ep+1) t1,slots:=#[] }->gb prog w h' a es1 (ep+1) t1 ld:=fun h' o=>⟨o,e1,by rw [z1];exact k1,by lia,f1⟩;have rest:wpAny (model prog w) A (Bj a es1 t1 >>= fun _=>if (!wd && t1.tooFull)=true then (match xQ t1 es1 (Bu es1.size) with
    | (es2,t2,gave)=>(match gave with | true=>rule "set.scan.the-table-gave-way" | false=>pure ()) >>= fun _=>Bj a es2 t2 >>= fun _=>pure (some true)) else pure (some true))
    (fun r s'=>wpAny (model prog w) A (match r with|some added=>pure added|none=>Qx a (.int n k) ((jj prog w).hash n) 99999) Q E s') E s:=by
   refine aJ (ae4 x.o rfl ?_ (Fe tb_g%));have o1:=aiQ x.o es1 t1;have b1:=agT s.heap a (RQ es1 t1);split
   ·have p2:=afl t1 es1 (Bu es1.size);have f2:=afm t1 es1 (Bu es1.size);obtain⟨k2,z2⟩:=aiN (es:=es1) k1.l (Bu es1.size);generalize xQ t1 es1 (Bu es1.size)=L2 at p2 f2 k2 z2 ⊢;obtain⟨es2,t2,gv2⟩:=L2;dsimp only at p2 f2 k2 z2 ⊢;refine aJ ?_;have fin:wpAny (model prog w) A (Bj a es2 t2 >>= fun _=>pure (some true)) (fun r s'=>wpAny (model prog w) A (match r with|some added=>pure added|none=>Qx a (.int n k) ((jj prog w).hash n) 99999) Q E s') E { s with heap:=s.heap.update a (RQ es1 t1) }:=by
     refine aJ <| ae4 o1 rfl (aU (aU ?_)) (Fe tb_g%);refine q _ es2 (ep+1+1) t2 true (b1.trans (agT _ a _)) ⟨aiQ o1 es2 t2,e1.perm p2,by rw[z2];exact k2,by lia,f2⟩ ?_;exact(show(keys es2).Perm (keys es1)from p2.map _).trans pk
    cases gv2
    ·exact aU fin
    ·exact xO fin
   ·exact aU (aU (q _ es1 (ep+1) t1 true b1 (S1 _ o1) pk))
  have go:∀ b:Bool,wpAny (model prog w) A (if b=true then hashByValue 8 (.int n k) >>= fun v=>(fun byValue=>Bj a es1 (if byValue=true then t1 else { t1 with plain:=false }) >>= fun _=>if (!wd && (if byValue=true then t1 else { t1 with plain:=false }).tooFull)=true then (match xQ (if byValue=true then t1 else { t1 with plain:=false }) es1 (Bu es1.size) with
    | (es2,t2,gave)=>(match gave with | true=>rule "set.scan.the-table-gave-way" | false=>pure ()) >>= fun _=>Bj a es2 t2 >>= fun _=>pure (some true)) else pure (some true)) v else pure true >>= fun v=>(fun byValue=>Bj a es1 (if byValue=true then t1 else { t1 with plain:=false }) >>= fun _=>if (!wd && (if byValue=true then t1 else { t1 with plain:=false }).tooFull)=true then (match xQ (if byValue=true then t1 else { t1 with plain:=false }) es1 (Bu es1.size) with
    | (es2,t2,gave)=>(match gave with | true=>rule "set.scan.the-table-gave-way" | false=>pure ()) >>= fun _=>Bj a es2 t2 >>= fun _=>pure (some true)) else pure (some true)) v)
    (fun r s'=>wpAny (model prog w) A (match r with|some added=>pure added|none=>Qx a (.int n k) ((jj prog w).hash n) 99999) Q E s') E s:=fun b=>by
   cases b
   ·exact aJ (aU rest)
   ·exact aJ (vo (a:=true) rfl rest)
  cases gv
  ·exact aJ (aU (go t1.plain))
  ·exact aJ (xO (go t1.plain))
end
end Sx
set_option autoImplicit false
namespace Sx
open PySem PyProof.Rows
theorem aoJ{vs:List Value}{ns:List Int}(h:IntsAre vs ns):∀{i:Nat}{v:Value},vs[i]? = some v->∃n t,ns[i]? = some n/\v=.int n t:=by
 induction h with
 |nil=>intro i v e;cases i <;> cases e
 |cons n t _ ih =>
  intro i v e;cases i with
  |zero=>cases e;exact⟨n,t,rfl,rfl⟩
  |succ i=>exact ih e
section
variable{prog:bh}{w:World}{A:bY}{E:Value->Shared->Prop}{s:Shared}
theorem aiR{R:n8->Shared->Prop}{S I l:Addr}{items:Array Value}{ns:List Int}{ld:Bool}(hh:A.in1.handled=none)(n1:S≠I)(n2:S≠l)(n3:l≠I)(hi:IntsAre items.toList ns)(few:items.size+1<scanBound):
  ∀(k i:Nat)(s:Shared) (es:Array (Int × Value)) (ep:Nat) (t:gG),items.size-i=k->i<=items.size->s.heap.IsListIter I l i->s.heap.IsList l items->gb prog w s.heap S es ep t ld->(keys es).Perm (dd (ns.take i)) ->
   (∀(h':Heap)(tk:Nat) (es':Array (Int × Value)) (ep':Nat) (t':gG),(∀b o,b≠S->b≠I->s.heap.get? b=some o->h'.get? b=some o)->gb prog w h' S es' ep' t' ld->(keys es').Perm (dd ns)->R (.ok (.ret .none)) { s with heap:=h',toks:=tk }) ->
   ig (model prog w) A (.builtin "set.update.loop" ⟨[.ref S,.ref I],[]⟩) R s:=by
 have len:ns.length=items.size:=by rw[<-mF,hi.length]
 have W:=RW (prog:=prog) (w:=w) hh I l n3 items;intro k
 induction k with
 |zero =>
  intro i s es ep t hk hle it li x pk q;obtain rfl:i=items.size:=by lia
  refine xq F.entry_set_update_loop ?_;rw[Ac F.plain_set_update_loop _];show wpAny _ A.in1 (jk (.ref I) >>= _) _ _ s;refine aJ (W.done s _ _ ⟨it,li⟩ fun h' tk kp=>?_);show wpAny _ A.in1 (ret Value.none) _ _ _;refine aU (q h' tk es ep t (fun b o _ b2 e=>kp b o (by simpa using b2) e) (x.keep fun o e=>kp S o (by simpa using n1) e) ?_);rw[<-len,m9]at pk;exact pk
 |succ k ih =>
  intro i s es ep t hk hle it li x pk q;have lt:i<items.size:=by lia
  refine xq F.entry_set_update_loop ?_;rw[Ac F.plain_set_update_loop _];show wpAny _ A.in1 (jk (.ref I) >>= _) _ _ s;refine aJ (W.item i s _ _ lt ⟨it,li⟩ fun v h' tk hP st kp=>?_);obtain⟨n,t0,en,rfl⟩:=aoJ hi (v:=v) (by rw[qQ];exact hP);have x1:gb prog w h' S es ep t ld:=x.keep fun o e=>kp S o (by simpa using n1) e;show wpAny _ A.in1 (xR [Value.int n t0] (setAdd S (.int n t0)) >>= _) _ _ _;refine aJ (qN ?_);unfold setAdd;refine qN (aJ ((jj prog w).pyHash (k:=n) (decide_eq_true rfl) ?_));have room:es.size+1<scanBound:=by
   have h1:=pk.length_eq;have h2:=Td (ns.take i);rw[iw]at h2;have h3:(keys es).length=es.size:=by unfold keys;simp
   lia
  refine aoI (s:={ s with heap:=h',toks:=tk+1 }) x1 room fun h2 es2 ep2 t2 b sb x2 p2=>?_;have aiS:∀b o,b≠S->h'.get? b=some o->h2.get? b=some o:=fun b o nb e=>by rw[sb.2 b nb];exact e
  refine aU ⟨nU F.plain_set_update_loop _,ih (i+1) _ es2 ep2 t2 tb_g% lt (st.1.at fun o e=>aiS I o (aX n1) e) (st.2.at fun o e=>aiS l o (aX n2) e) x2 ?_ fun h3 tk3 es3 ep3 t3 kp3 x3 p3=>?_⟩
  ·rw[akO en];exact p2.trans (aiO n pk)
  ·exact q h3 tk3 es3 ep3 t3 (fun b o b1 b2 e=>kp3 b o b1 b2 (aiS b o b1 (kp b o (by simpa using b2) e))) x3 p3
end
end Sx
set_option autoImplicit false
set_option maxRecDepth 100000
namespace Sx
open PySem PyProof.Rows
section
variable{prog:bh}{w:World}{A:bY}{E:Value->Shared->Prop}{s:Shared}
noncomputable def jB(w:World):Bool:=!w.params.followText "set-order"
noncomputable def aac(ld:Bool):Obj:={ cls:=.type "set",dict:=none,data:=.set #[] 0 (.fresh 0 0 ld) }
theorem akQ(a:Value){Q₁:Value->Shared->Prop}(h:Q₁ (.ref s.heap.objs.size) { s with heap:=s.heap.push (aac (jB w)) }):
  ig (model prog w) A (.call (.builtin "set.__new__") ⟨[.type "set",a],[]⟩) (wants Q₁ E) s:=by
 refine ae7 ?_;show wpAny _ A.in1 (Xm "set.__new__" ⟨[.type "set",a],[]⟩ >>= fun _=>again (.builtin "set.__new__" ⟨[.type "set",a],[]⟩)) _ _ s;refine aJ (vo (F.newCall_set_1 a) (aU ⟨nU F.plain_set_new _,xq F.entry_set_new ?_⟩));rw[Ac F.plain_set_new _];unfold eG.«set.__new__» anD;have hsub:=sub_set_self;obtain⟨hp,g,d,tk,os⟩:=s;dsimp only;wp_walk;refine Fi (aU ?_);dsimp only;simp only[newObj];refine aJ (wpAny_alloc (aU (aU ?_)));exact h
set_option maxHeartbeats 3200000 in
theorem aiT{l:Addr}{items:Array Value}{ns:List Int}{Q:Value->Shared->Prop}(hh:A.handled=none)(hl:s.heap.IsList l items)(hi:IntsAre items.toList ns)(few:items.size+1<scanBound)
  (q:∀(h':Heap)(tk:Nat) (es:Array (Int × Value)) (ep:Nat) (t:gG),gb prog w h' s.heap.objs.size es ep t (jB w)->(keys es).Perm (dd ns)->(∀b o,s.heap.get? b=some o->h'.get? b=some o)->Q (.ref s.heap.objs.size) { s with heap:=h',toks:=tk }):
  wpAny (model prog w) A (call (.type "set") [.ref l]) Q E s:=by
 obtain⟨c,tl,hmro⟩:=F.called_set.mro;have hmade:=F.called_set.made;have hsub:=F.called_set.sub;refine JT (ae7 ?_);show wpAny _ _ (callAny (.type "set") _) _ _ _;refine aU ⟨Code.quiet_builtin _ tb_g%,xq F.entry_type_call ?_⟩;rw[Around.under_plain (weight_type_call_type "set" [.ref l] []) rfl];have h1:=F.called_set.notType;have h2:=F.called_set.canCreate;have hct:=F.typeCall_set_1 (.ref l)
 repeat (any_goals (first|assumption|wp_step))
 refine vm (akQ (.ref l) (E:=E) (Q₁:=fun obj s₁=>obj=.ref s.heap.objs.size/\s₁={ s with heap:=s.heap.push (aac (jB w)) }) ⟨rfl,rfl⟩) fun r s₁ hr=>?_;rcases r with e|fl
 ·exact hr
 cases fl with
 |ret obj =>
  obtain⟨rfl,rfl⟩:=hr;have hS:(s.heap.push (aac (jB w))).get? s.heap.objs.size=some (aac (jB w)):=eE _ rfl;have hT:ag2 { s with heap:=s.heap.push (aac (jB w)) } (.ref s.heap.objs.size) "set" := ⟨_,hS,rfl⟩;have hli:=F.called_set.init.lookup;have hbi:=F.called_set.init.bind (.ref s.heap.objs.size)
  repeat (any_goals (first|assumption|wp_step))
  refine vm (aeX (R:=wants (fun r s₂=>r = .none/\∃ h' tk es ep t,s₂={ s with heap:=h',toks:=tk }/\gb prog w h' s.heap.objs.size es ep t (jB w)/\(keys es).Perm (dd ns)/\∀ b o,s.heap.get? b=some o->h'.get? b=some o) E)
   F.called_set.init.plain F.entry_set_init (check_set_init_1 hT ?_)) fun r₂ s₂ hr₂=>?_
  ·obtain⟨ol,hol,hcl,nl,hdl⟩:=hl;obtain⟨ocls,odict,odata,oslots⟩:=ol;simp only at hcl hdl;subst hcl;subst hdl;have hlS:l<s.heap.objs.size:=bU hol;have hol':=dX (aac (jB w)) hol;unfold aac at hS hT hol' ⊢;have hsls:=F.sub_list_set;have hslf:=F.sub_list_frozenset;have hne:(Value.type "list" == Value.type "dict")=false:=by decide
   have hl1:Ra (s.heap.push { cls:=.type "set",dict:=none,data:=.set #[] 0 (.fresh 0 0 (jB w)) }) l items:=⟨_,hol',rfl,nl,rfl⟩;unfold eG.«set.__init__» noKeywords anC;generalize hPI:xT=PI;wp_walk;subst hPI;refine EY hl1 ?_;refine aJ (afc ?_);have z:(s.heap.push { cls:=.type "set",dict:=none,data:=.set #[] 0 (.fresh 0 0 (jB w)) }).objs.size=s.heap.objs.size+1:=qO ..;refine aiR (ld:=jB w) (by simp[hh]) (by rw[z];exact cH (yc _)) (sI hlS) (by rw[z];exact cH (Cr hlS)) hi few (items.size-0) 0 _ #[] 0 (.fresh 0 0 (jB w)) rfl (eO _)
    ⟨_,eE _ rfl,rfl,rfl⟩ (hl1.push _) ⟨dX _ hS,fun e m=>by simp at m,⟨rfl,List.Pairwise.nil,rfl,rfl⟩,by decide,rfl⟩ (by exact .nil) fun h' tk es ep t kp x p=>?_
   show wpAny _ _ _ _ _ _;refine aU ?_;show wpAny _ _ (ret Value.none) _ _ _;refine aU ⟨rfl,h',tk,es,ep,t,rfl,x,p,fun b o e=>?_⟩;have hb:=bU e;exact kp b o (cH hb) (by rw[z];exact cH (Cr hb)) (dX _ (dX _ e))
  ·rcases r₂ with e|fl₂
   ·exact hr₂
   cases fl₂ with
   |ret r =>
    obtain⟨rfl,h',tk,es,ep,t,rfl,x,p,kp⟩:=hr₂
    repeat (any_goals (first|assumption|wp_step))
    exact q _ _ _ _ _ x p kp
   |_=>exact hr₂.elim
 |_=>exact hr.elim
end
end Sx
set_option autoImplicit false
set_option maxRecDepth 100000
namespace Sx
open PySem PyProof.Rows
theorem lK:Slot "set_iterator" "__next__" "set_iterator.__next__" := .of (owner := "set_iterator") (n := "__next__") (by rw[Fo,Ey];kernel_rfl) tb_g% tb_g% tb_g% (by first|exact .inl tb_g% | exact .inr tb_g%) (by rw[Qy];kernel_rfl)
theorem abj:Slot "set_iterator" "__iter__" "set_iterator.__iter__" := .of (owner := "set_iterator") (n := "__iter__") (by rw[Fo,Ey];kernel_rfl) tb_g% tb_g% tb_g% (by first|exact .inl tb_g% | exact .inr tb_g%) (by rw[Qy];kernel_rfl)
theorem Jh:vp table "set_iterator.__next__" = some eG.«set_iterator.__next__» := ae6 (by kernel_rfl)
theorem akR:vp table "set_iterator.__iter__" = some eG.«dict_keyiterator.__iter__» := Qw (id' := "dict_keyiterator.__iter__") (by kernel_rfl) rfl tb_g% (by kernel_rfl)
theorem aiU:vp table "set.__iter__" = some eG.«frozenset.__iter__» := Qw (id' := "frozenset.__iter__") (by kernel_rfl) rfl tb_g% (by kernel_rfl)
theorem Ji(a:Value):sH "set_iterator.__next__" ⟨[a],[]⟩:=by unfold sH;kernel_rfl
theorem akS(a:Value):sH "set_iterator.__iter__" ⟨[a],[]⟩:=by unfold sH;kernel_rfl
section
variable{prog:bh}{w:World}{A:bY}{E:Value->Shared->Prop}{s:Shared}
theorem adu{M:Model}{src:Source}{n:Nat}{Q:Nat->Shared->Prop}(h0:n≠0)(q:∀(i:Nat)(d:Drawn),i<n->Q i { s with drawn:=d }):wpAny M A (choose src n) Q E s:=fun Γ p _=>by
 unfold choose;rw[Sem.wp_choose];exact⟨h0,q _ _ (afM _ (Nat.pos_of_ne_zero h0))⟩
theorem abk{M:Model}{α:Type}:∀(n:Nat)(xs:List α)(s:Shared){Q:List α->Shared->Prop},xs.length=n->(∀(ys:List α)(d:Drawn),ys.Perm xs->Q ys { s with drawn:=d })->wpAny M A (drawOrder n xs) Q E s
 |0,xs,s,Q,h,q=>by
  obtain rfl:=z8.mp h;exact aU (q [] s.drawn .nil)
 |n+1,[],s,Q,h,q=>by cases h
 |n+1,x::xs,s,Q,h,q=>by
  show wpAny M A (choose .order (x::xs).length >>= _) Q E s;refine aJ (adu (by rw[h];exact Nat.succ_ne_zero n) fun i d hi=>?_);rw[gA hi];refine aJ (abk n ((x::xs).eraseIdx i) _ (by rw[WM hi,h];rfl) fun ys d2 p=>aU (q _ d2 ?_));exact(p.cons _).trans (BP hi)
noncomputable def itO(f:Value)(i:Nat)(a:Addr)(n ep:Nat):Obj:={ cls:=.type "set_iterator",dict:=none,data:=.fields #[f,.int i 0,.ref a,.int n 0,.int ep 0],slots:=#[] }
theorem abl{I a:Addr}{f:Value}{i n ep:Nat}{Q:Value->Shared->Prop}(o:s.heap.get? I=some (itO f i a n ep))(q:Q (.ref I) s):wpAny (model prog w) A (xT (.ref I)) Q E s:=by
 have hT:s.TypeIs (.ref I) "set_iterator" := ⟨_,o,rfl⟩;refine Xk hT abj (z9 abj hT akR ?_ (akS _));show wpAny _ _ (ret (.ref I)) _ _ s;exact aU ⟨_,rfl,"set_iterator",_,hT,lK.lookup,q⟩
theorem abm{α:Type}{Q:α->Shared->Prop}(hh:A.handled=none)(q:∀(h':Heap)(x:Addr),(∀b o,s.heap.get? b=some o->h'.get? b=some o)->ag2 { s with heap:=h' } (.ref x) "StopIteration" -> E (.ref x) { s with heap:=h' }):
  wpAny (model prog w) A (newExc (.type "StopIteration") [] >>= fun e=>(raiseNew e:Sem α)) Q E s:=by
 refine aJ ?_;simp only[newExc,newTuple];refine aJ (xH ?_ (by size_fits));refine aJ (m:=afd _ _) (vo (a:=Value.none) (by first|rfl|(simp only[afd];rfl)) ?_);refine xH ?_ (by size_fits);simp only[raiseNew];refine aJ (wpAny_handled ?_);rw[hh];refine aJ (aU (wpAny_throw (q _ _ (fun b o e=>dX _ (dX _ e)) ⟨_,eE _ rfl,rfl⟩)))
end
end Sx
set_option autoImplicit false
set_option maxRecDepth 100000
namespace Sx
open PySem PyProof.Rows
section
variable{prog:bh}{w:World}{A:bY}{E:Value->Shared->Prop}{s:Shared}{I a:Addr}{es:Array (Int × Value)}{ep:Nat}{t:gG}{ld:Bool}
noncomputable def Gx(prog:bh)(w:World)(s:Shared)(a:Addr)(sl i ep:Nat)(r:Option (Value × Nat)):Prop:=∀(A:bY)(E:Value->Shared->Prop) (Q:Option (Value × Nat)->Shared->Prop),Q r s->wpAny (model prog w) A (setNext a sl i ep) Q E s
theorem adw{sl i nx:Nat}{x:Value}{Q:Option Value->Shared->Prop}(o:s.heap.get? I=some (itO (.int sl 0) i a es.size ep))(X:gb prog w s.heap a es ep t ld)(N:Gx prog w s a sl i ep (some (x,nx)))
  (q:∀h',h'.get? I=some (itO (.int nx 0) (i+1) a es.size ep)->xZ I s.heap h'->Q (some x) { s with heap:=h' }):wpAny (model prog w) A (jk (.ref I)) Q E s:=by
 have hT:s.TypeIs (.ref I) "set_iterator" := ⟨_,o,rfl⟩;unfold jk;refine aJ (JQ (JG (name:=bK "__next__") hT lK (z9 lK hT Jh ?_ (Ji _))));unfold eG.«set_iterator.__next__»;refine aJ (vo (a:=(Value.ref I,[])) rfl ?_);refine aJ (Qz o rfl ?_);dsimp only;refine aJ (JH X.o rfl X.ft ?_);rw[if_neg (by simp)];refine aJ (N _ _ _ ?_);dsimp only;refine aJ (xu o (by simp) fun h1 o1 b1=>?_);refine aJ (xu o1 (by simp) fun h2 o2 b2=>aU ⟨x,rfl,aU (q h2 ?_ (b1.trans b2))⟩);rw[o2];rfl
theorem adx{sl i:Nat}{Q:Option Value->Shared->Prop}(hh:A.handled=none)(o:s.heap.get? I=some (itO (.int sl 0) i a es.size ep))(X:gb prog w s.heap a es ep t ld)(N:Gx prog w s a sl i ep none)
  (q:∀h',(∀b u,b≠I->s.heap.get? b=some u->h'.get? b=some u)->Q none { s with heap:=h' }):wpAny (model prog w) A (jk (.ref I)) Q E s:=by
 have hT:s.TypeIs (.ref I) "set_iterator" := ⟨_,o,rfl⟩;unfold jk;refine aJ (JQ (JG (name:=bK "__next__") hT lK (z9 lK hT Jh ?_ (Ji _))));unfold eG.«set_iterator.__next__»;refine aJ (vo (a:=(Value.ref I,[])) rfl ?_);refine aJ (Qz o rfl ?_);dsimp only;refine aJ (JH X.o rfl X.ft ?_);rw[if_neg (by simp)];refine aJ (N _ _ _ ?_);dsimp only;refine aJ (xu o (by simp) fun h1 o1 b1=>?_);refine abm (A:=A.in1) hh fun h2 x kp ty=>?_;refine aJ (JK (T := "StopIteration") (b:=true) ty Xo (aU (q h2 fun b u nb e=>kp b u ?_)));rw[b1.2 b nb];exact e
theorem bt'(h:w.params.followText "set-order" = true):({ program:=(model prog w).prog,params:=(model prog w).w.params }:Setting).params.followText "set-order" = true:=h
theorem ady(X:gb prog w s.heap a es ep t ld)(bt:w.params.followText "set-order" = true)(i:Nat):Gx prog w s a 0 i ep (((QK (w.params.setOrder a ep) es)[i]?).map fun e=>(e.2,0)):=fun A E Q q=>by
 unfold setNext;refine aJ (Fd X.o rfl X.ft ?_);dsimp only;unfold QJ;refine aJ (aJ (Fi (aU ?_)));rw[if_pos (bt' bt),if_neg (by simp)];unfold setWalk;refine aJ (aJ (Fd X.o rfl X.ft ?_));dsimp only;unfold QJ;refine aJ (aJ (Fi (aU ?_)));rw[if_pos (bt' bt)];exact aJ (Fi (aU (aU q)))
noncomputable def slotAt(t:gG):Nat->Nat
 |0=>0
 |i+1=>t.place.getD i 0+1
theorem aad(X:gb prog w s.heap a es ep t ld)(bt:w.params.followText "set-order" = false)(hl:ld=true)(pl:(!t.plain && decide (es.size>1))=false){i:Nat}(hi:i<=es.size):
  Gx prog w s a (slotAt t i) i ep ((es[i]?).map fun e=>(e.2,slotAt t (i+1))):=fun A E Q q=>by
 have bl:jP t.place (slotAt t i)=i:=by
  cases i with
  |zero=>exact Z6 X.tk.r
  |succ i =>
   have l:i<t.place.size:=by rw[X.tk.n];lia
   have e:=getElem?_pos t.place i l;show jP t.place (t.place.getD i 0+1)=i+1;rw[Array.getD_eq_getD_getElem?,e];exact Z7 X.tk.r e
 unfold setNext;refine aJ (Fd X.o rfl X.ft ?_);dsimp only;unfold QJ;refine aJ (aJ (Fi (aU ?_)));rw[if_neg (fun z=>by have z:w.params.followText "set-order" = true:=z;rw[bt]at z;cases z)];show wpAny _ _ (if(!t.plain && decide (es.size>1))=true then _ else _) _ _ _;rw[if_neg (by rw[pl];decide)];refine aJ (m:=if(!t.led && !es.isEmpty)=true then Xx "set:maker-not-led" else pure ()) ?_;rw[if_neg (by rw[X.tk.l,hl];simp)];refine aU ?_;rw[bl];refine aU ?_;rcases jO i es.size with l|l
 ·have l2:i<t.place.size:=by rw[X.tk.n];exact l
  rw[getElem?_pos es i l]at q ⊢;rw[getElem?_pos t.place i l2];have:slotAt t (i+1)=t.place[i]+1   := by show t.place.getD i 0+1=_;rw[Array.getD_eq_getD_getElem?,getElem?_pos t.place i l2];rfl
  simpa[this]using q
 ·rw[getElem?_neg es i tb_g%]at q ⊢;exact q
theorem aiV{ord:List Value}{sl:Nat->Nat}(hh:A.handled=none)(ne:a≠I)(hn:ord.length=es.size)(N:∀(s:Shared)(i:Nat),gb prog w s.heap a es ep t ld->i<=es.size->Gx prog w s a (sl i) i ep ((ord[i]?).map fun v=>(v,sl (i+1)))):
  Walks prog w A I [I,a] [I] es.size (fun i v=>ord[i]? = some v) (fun i h=>h.get? I=some (itO (.int (sl i) 0) i a es.size ep)/\gb prog w h a es ep t ld) where
 sub:=fun b hb=>by simp at hb;simp[hb]
 frame:=fun i h h' st kp=>⟨kp I (by simp) _ st.1,st.2.keep fun o e=>kp a (by simp) o e⟩
 item:=fun i s Q E hi st q=>by
  have nx:=N s i st.2 (qP hi);rw[gA (by rw[hn];exact hi)]at nx;refine adw st.1 st.2 nx fun h' o b=>?_;have kp:∀c u,c≠I->s.heap.get? c=some u->h'.get? c=some u:=fun c u nc e=>by rw[b.2 c nc];exact e
  exact q _ h' s.toks (gA (by rw[hn];exact hi)) ⟨o,st.2.keep fun u e=>kp a u ne e⟩ fun c u nc e=>kp c u (by simpa using nc) e
 done:=fun s Q E st q=>by
  have nx:=N s es.size st.2 (bG _);rw[wX (by rw[hn];exact bG _)]at nx;exact adx hh st.1 st.2 nx fun h' kp=>q h' s.toks fun c u nc e=>kp c u (by simpa using nc) e
 self:=fun i s Q E st q=>abl st.1 q
end
end Sx
set_option autoImplicit false
set_option maxRecDepth 100000
namespace Sx
open PySem PyProof.Rows
section
variable{prog:bh}{w:World}{A:bY}{E:Value->Shared->Prop}{s:Shared}{I a tp:Addr}{es:Array (Int × Value)}{ep:Nat}{t:gG}{ld:Bool}
noncomputable def ordD(es:Array (Int × Value))(ps:List Nat):List Value:=ps.map fun p=>(es.getD p (0,.none)).2
theorem adz{ps:List Nat}(h:ps.Perm (jY es.size)):(ordD es ps).Perm (es.toList.map (·.2)):=by
 refine(h.map _).trans ?_;have:(jY es.size).map (fun p=>(es.getD p (0,.none)).2)=es.toList.map (·.2):=by
  apply List.ext_getElem
  ·simp
  ·intro i h1 h2;have l:i<es.size:=by simpa using h1
   rw[aeF,aeF,List.getElem_range,Array.getD_eq_getD_getElem?,getElem?_pos es i l];simp
 rw[this]
noncomputable def N7(ps:List Nat):Obj:={ cls:=.type "tuple",data:=.seq (ps.map fun(i:Nat)=>nZ i).toArray }
theorem aae{i p:Nat}{h0:Int}{x:Value}{ps:List Nat}{Q:Option Value->Shared->Prop}(o:s.heap.get? I=some (itO (.ref tp) i a es.size ep))(ot:s.heap.get? tp=some (N7 ps))(X:gb prog w s.heap a es ep t ld)
  (hp:ps[i]? = some p) (hx:es[p]? = some (h0,x)) (q:∀h',h'.get? I=some (itO (.ref tp) (i+1) a es.size ep)->xZ I s.heap h'->Q (some x) { s with heap:=h' }):wpAny (model prog w) A (jk (.ref I)) Q E s:=by
 have hT:s.TypeIs (.ref I) "set_iterator" := ⟨_,o,rfl⟩;unfold jk;refine aJ (JQ (JG (name:=bK "__next__") hT lK (z9 lK hT Jh ?_ (Ji _))));unfold eG.«set_iterator.__next__»;refine aJ (vo (a:=(Value.ref I,[])) rfl ?_);refine aJ (Qz o rfl ?_);dsimp only;refine aJ (JH X.o rfl X.ft ?_);rw[if_neg (by simp)];refine aJ (xJ ot rfl ?_);dsimp only;have e1:((ps.map fun(i:Nat)=>nZ i).toArray)[(i:Int).toNat]? = some (.int p 0):=by
  show((ps.map fun(i:Nat)=>nZ i).toArray)[i]? = _;rw[WX,gQ,hp];rfl
 rw[e1];dsimp only;refine aJ ?_;unfold setNextDrawn;refine aJ (Fd X.o rfl X.ft ?_);dsimp only;rw[if_neg (by simp)];have e2:es[(p:Int).toNat]? = some (h0,x):=hx;rw[e2];refine aU ?_;refine aJ (xu o (by simp) fun h1 o1 b1=>aU ⟨x,rfl,aU (q h1 ?_ b1)⟩);rw[o1];rfl
theorem aaf{ps:List Nat}{Q:Option Value->Shared->Prop}(hh:A.handled=none)(o:s.heap.get? I=some (itO (.ref tp) ps.length a es.size ep))(ot:s.heap.get? tp=some (N7 ps))(X:gb prog w s.heap a es ep t ld)
  (q:∀h',(∀b u,b≠I->s.heap.get? b=some u->h'.get? b=some u)->Q none { s with heap:=h' }):wpAny (model prog w) A (jk (.ref I)) Q E s:=by
 have hT:s.TypeIs (.ref I) "set_iterator" := ⟨_,o,rfl⟩;unfold jk;refine aJ (JQ (JG (name:=bK "__next__") hT lK (z9 lK hT Jh ?_ (Ji _))));unfold eG.«set_iterator.__next__»;refine aJ (vo (a:=(Value.ref I,[])) rfl ?_);refine aJ (Qz o rfl ?_);dsimp only;refine aJ (JH X.o rfl X.ft ?_);rw[if_neg (by simp)];refine aJ (xJ ot rfl ?_);dsimp only;have e1:((ps.map fun(i:Nat)=>nZ i).toArray)[(ps.length:Int).toNat]? = none:=by
  show((ps.map fun(i:Nat)=>nZ i).toArray)[ps.length]? = _;rw[WX,gQ,wX (bG _)];rfl
 rw[e1];dsimp only;refine aJ (xu o (by simp) fun h1 o1 b1=>?_);refine aJ (xu o1 (by simp) fun h2 o2 b2=>?_);refine abm (A:=A.in1) hh fun h3 x kp ty=>?_;refine aJ (JK (T := "StopIteration") (b:=true) ty Xo (aU (q h3 fun b u nb e=>kp b u ?_)));rw[b2.2 b nb,b1.2 b nb];exact e
theorem aag{ps:List Nat}(hh:A.handled=none)(ne:a≠I)(nt:tp≠I)(hp:ps.Perm (jY es.size)):
  Walks prog w A I [I,a,tp] [I] es.size (fun i v=>(ordD es ps)[i]? = some v) (fun i h=>h.get? I=some (itO (.ref tp) i a es.size ep)/\h.get? tp=some (N7 ps)/\gb prog w h a es ep t ld) where
 sub:=fun b hb=>by simp at hb;simp[hb]
 frame:=fun i h h' st kp=>⟨kp I (by simp) _ st.1,kp tp (by simp) _ st.2.1,st.2.2.keep fun o e=>kp a (by simp) o e⟩
 item:=fun i s Q E hi st q=>by
  have hl:ps.length=es.size:=by rw[hp.length_eq,Jz]
  have lt:i<ps.length:=by lia
  have pm:ps[i]<es.size:=xg.mp (hp.mem_iff.mp (uZ lt));have ex:=getElem?_pos es ps[i] pm;refine aae (h0:=es[ps[i]].1) (x:=es[ps[i]].2) st.1 st.2.1 st.2.2 (gA lt) ex fun h' o b=>?_;have kp:∀c u,c≠I->s.heap.get? c=some u->h'.get? c=some u:=fun c u nc e=>by rw[b.2 c nc];exact e
  refine q _ h' s.toks ?_ ⟨o,kp tp _ nt st.2.1,st.2.2.keep fun u e=>kp a u ne e⟩ fun c u nc e=>kp c u (by simpa using nc) e;unfold ordD;rw[gQ,gA lt];show some (es.getD ps[i] (0,.none)).2=_;rw[Array.getD_eq_getD_getElem?,ex];rfl
 done:=fun s Q E st q=>by
  have hl:ps.length=es.size:=by rw[hp.length_eq,Jz]
  exact aaf hh (by rw[hl];exact st.1) st.2.1 st.2.2 fun h' kp=>q h' s.toks fun c u nc e=>kp c u (by simpa using nc) e
 self:=fun i s Q E st q=>abl st.1 q
end
end Sx
set_option autoImplicit false
set_option maxRecDepth 100000
namespace Sx
open PySem PyProof.Rows
section
variable{prog:bh}{w:World}{A:bY}{E:Value->Shared->Prop}{s:Shared}{a:Addr}{es:Array (Int × Value)}{ep:Nat}{t:gG}
theorem akT{Q:Value->Shared->Prop}(hh:A.handled=none)(X:gb prog w s.heap a es ep t (jB w))
  (q:∀ (h':Heap) (d:Drawn) (I:Addr) (fp:List Addr) (ord:List Value) (St:Nat->Heap->Prop),ord.Perm (es.toList.map (·.2))->(∀ b o,s.heap.get? b=some o->h'.get? b=some o)->s.heap.objs.size<=I->(∀ b∈fp,b=a\/s.heap.objs.size<=b) ->
   (∀ B:bY,B.handled=none->Walks prog w B I fp [I] es.size (fun i v=>ord[i]? = some v) St)->St 0 h'->Q (.ref I) { s with heap:=h',drawn:=d }):wpAny (model prog w) A (xT (.ref a)) Q E s:=by
 have la:=bU X.o;refine Xk X.ty F.slot_set_iter (z9 F.slot_set_iter X.ty aiU ?_ (F.args_set_iter_1 _));unfold eG.«frozenset.__iter__»;refine aJ (vo (a:=a) rfl ?_);refine aJ ?_;unfold anE;refine aJ (JH X.o rfl X.ft (aU ?_));refine aJ ?_;unfold setDrawn;refine aJ (Fd X.o rfl X.ft ?_);dsimp only;unfold QJ;refine aJ (aJ (Fi (aU (aU ?_))));show wpAny _ _ (if(!w.params.followText "set-order" && (!t.plain && decide (es.size>1)))=true then _ else _) _ _ _;have ways:∀(ord:List Value)(sl:Nat->Nat),sl 0=0->ord.Perm (es.toList.map (·.2))->(∀(s:Shared)(i:Nat),gb prog w s.heap a es ep t (jB w)->i<=es.size->Gx prog w s a (sl i) i ep ((ord[i]?).map fun v=>(v,sl (i+1)))) ->
   Q (.ref s.heap.objs.size) { s with heap:=s.heap.push (itO (.int 0 0) 0 a es.size ep) }:=fun ord sl h0 hp N=>by
  refine q _ s.drawn s.heap.objs.size [s.heap.objs.size,a] ord (fun i h=>h.get? s.heap.objs.size=some (itO (.int (sl i) 0) i a es.size ep)/\gb prog w h a es ep t (jB w)) hp (fun b o e=>dX _ e) (bG _) ?_ (fun B hB=>aiV hB (cH la) (by rw[hp.length_eq];simp) N)
   ⟨by rw[h0];exact eE _ rfl,X.keep fun o e=>dX _ e⟩
  intro b m;rcases cO.mp m with rfl|m
  ·exact .inr (bG _)
  ·exact .inl (cZ.mp m)
 have fin:∀{Q':Value->Shared->Prop},Q' (.ref s.heap.objs.size) { s with heap:=s.heap.push (itO (.int 0 0) 0 a es.size ep) }->wpAny (model prog w) A.in1 (setEpoch a >>= fun e=>XM "set_iterator" [nZ 0,nZ 0,.ref a,nZ es.size,nZ e] >>= fun r=>ret r) (fun fin s'=>∃v,fin=.done (.ret v)/\∃T' r,s'.TypeIs v T'/\xM (.type T') "__next__" = pure (some r)/\Q' v s') E s:=fun {Q'} z=>by
  refine aJ (ae5 X.o rfl X.ft ?_);unfold XM;refine aJ (xH (aU ⟨_,rfl,"set_iterator",_,⟨_,eE _ rfl,rfl⟩,lK.lookup,?_⟩));exact z
 cases bt:w.params.followText "set-order" with
 |true =>
  rw[if_neg (by simp)];refine aJ (aU (fin ?_));have pp:=adt (w.params.setOrder a ep) es;refine ways ((QK (w.params.setOrder a ep) es).toList.map (·.2)) (fun _=>0) rfl (pp.map _) fun s i X' _=>?_;have:=ady X' bt i;rw[gQ,qQ,agI];exact this
 |false =>
  have hl:jB w=true:=by unfold jB;rw[bt];rfl
  cases pl:(!t.plain && decide (es.size>1))with
  |false =>
   rw[if_neg (by simp)];refine aJ (aU (fin ?_));refine ways (es.toList.map (·.2)) (slotAt t) rfl .rfl fun s i X' hi=>?_;have:=aad X' bt hl pl hi;rw[gQ,qQ,agI];exact this
  |true =>
   rw[if_pos (by simp)];refine aJ (abk es.size (jY es.size) _ (Jz) fun ps d hp=>aJ ?_);have zl:(ps.map fun(i:Nat)=>nZ i).length<=sizeLine:=by rw[aV,hp.length_eq,Jz];exact Fe X.few
   refine wpAny_newTuple ?_ zl;have X1:gb prog w (s.heap.push (N7 ps)) a es ep t (jB w):=X.keep fun o e=>dX _ e;refine aJ (ae5 (s:={ s with heap:=s.heap.push (N7 ps),drawn:=d }) X1.o rfl X1.ft ?_);unfold XM;refine aJ (xH (aU ⟨_,rfl,"set_iterator",_,⟨_,eE _ rfl,rfl⟩,lK.lookup,?_⟩));have zt:(s.heap.push (N7 ps)).objs.size=s.heap.objs.size+1:=qO ..;refine q _ d (s.heap.push (N7 ps)).objs.size [(s.heap.push (N7 ps)).objs.size,a,s.heap.objs.size] (ordD es ps) (fun i h=>h.get? (s.heap.push (N7 ps)).objs.size=some (itO (.ref s.heap.objs.size) i a es.size ep)/\h.get? s.heap.objs.size=some (N7 ps)/\gb prog w h a es ep t (jB w)) (adz hp) (fun b o e=>dX _ (dX _ e)) (by rw[zt];exact sS _) ?_
    (fun B hB=>aag hB (by rw[zt];exact cH (Cr la)) (by rw[zt];exact cH (yc _)) hp) ⟨eE _ rfl,dX _ (eE _ rfl),X1.keep fun o e=>dX _ e⟩
   intro b m;rcases cO.mp m with rfl|m
   ·exact .inr (by rw[zt];exact sS _)
   rcases cO.mp m with rfl|m
   ·exact .inl rfl
   ·exact .inr (by rw[cZ.mp m];exact bG _)
end
end Sx
set_option autoImplicit false
set_option maxRecDepth 100000
namespace Sx
open PySem PyProof.Rows
section
variable{prog:bh}{w:World}{A:bY}{E:Value->Shared->Prop}{s:Shared}{r:Addr}{es:Array (Int × Value)}{ep:Nat}{t:gG}
theorem aiW{Q:Bool->Shared->Prop}(hT:s.TypeIs (.ref r) "set")(h:Q false s):wpAny (model prog w) A (Kv (.ref r)) Q E s:=by
 unfold Kv;refine aJ (Fl hT F.slot_set_len.lookup ?_);generalize hid:("set.__len__" : String)=id0
 wp_delta;rw[show splitId id0=some ("set","__len__")from by subst hid;decide +kernel];subst hid
 refine aJ (JK (T := "set") (b:=true) hT (by rw[Qy];kernel_rfl) ?_);refine vf (fun hab=>absurd hab (by decide)) (fun _=>?_);refine vf (fun _=>?_) (fun hab=>absurd tb_g% hab);exact aJ (JR hT (aU h))
noncomputable def Lp(acc:Array Value)(c:Nat):Obj:={ cls:=.type "list",dict:=none,data:=.seq acc c,slots:=#[] }
theorem Vq{Q:List Value->Shared->Prop}(hh:A.handled=none)(X:gb prog w s.heap r es ep t (jB w))
  (q:∀(h':Heap)(tk:Nat)(d:Drawn)(acc:List Value),acc.Perm (es.toList.map (·.2))->(∀b o,s.heap.get? b=some o->h'.get? b=some o)->Q acc { s with heap:=h',toks:=tk,drawn:=d }):
  wpAny (model prog w) A (collect (.ref r)) Q E s:=by
 have lr:=bU X.o;have hn:=Fe X.few;unfold collect;refine aJ (afc (xq F.entry_proto_collect ?_));rw[Ac F.plain_proto_collect _];show wpAny _ A.in1 (JZ [] >>= fun l=>again (.builtin "list.__iadd__" ⟨[l,.ref r],[]⟩)) _ _ s;refine aJ (xH ?_);refine aU ⟨nU F.plain_list_iadd _,xq F.entry_list_iadd ?_⟩;rw[Ac F.plain_list_iadd _];have hS:(s.heap.push (Lp #[] 0)).get? s.heap.objs.size=some (Lp #[] 0):=eE _ rfl;have X1:gb prog w (s.heap.push (Lp #[] 0)) r es ep t (jB w):=X.keep fun o e=>dX _ e;have z1:(s.heap.push (Lp #[] 0)).objs.size=s.heap.objs.size+1:=qO ..;show wpAny _ A.in1 (Cu (.ref s.heap.objs.size) (.ref r) (.ref s.heap.objs.size)) _ _ { s with heap:=s.heap.push (Lp #[] 0) };unfold Cu;refine aJ (JR (T := "set") (gb.ty (s:={ s with heap:=s.heap.push (Lp #[] 0) }) X1) ?_);have h1:Oq (.ref s.heap.objs.size) (.ref r)=false:=by simp[Oq,sI lr]
 rw[if_neg (by rw[h1];decide)];refine aJ (akT (A:=A.in1) (s:={ s with heap:=s.heap.push (Lp #[] 0) }) hh X1 fun h' d I fp ord St hp kp hI hfp W st=>?_);have hS2:h'.get? s.heap.objs.size=some (Lp #[] 0):=kp _ _ hS;have X2:gb prog w h' r es ep t (jB w):=X1.keep fun o e=>kp r o e;have nI:s.heap.objs.size≠I:=by rw[z1]at hI;lia
 have nf:s.heap.objs.size∉fp:=fun m=>by
  rcases hfp _ m with e|e
  ·exact sI lr e
  ·rw[z1]at e;lia
 have hlen:ord.length=es.size:=by rw[hp.length_eq];simp
 have key:∀(h2:Heap)(c:Nat),St 0 h2->(∀b o,b≠s.heap.objs.size->h'.get? b=some o->h2.get? b=some o)->h2.get? s.heap.objs.size=some (Lp #[] c) ->
   ig (model prog w) A (.builtin "list.extend.loop" ⟨[.ref s.heap.objs.size,.ref I,.ref s.heap.objs.size],[]⟩) (fun res s'=>∃(h3:Heap)(tk:Nat)(acc:Array Value)(c':Nat),res=.ok (.ret (.ref s.heap.objs.size))/\s'={ s with heap:=h3,toks:=tk,drawn:=d }/\acc.toList=ord/\h3.get? s.heap.objs.size=some (Lp acc c')/\∀b o,s.heap.get? b=some o->h3.get? b=some o)
    { s with heap:=h2,drawn:=d }:=fun h2 c st2 kp2 hS3=>by
  refine aeY (W A.in1 hh).toS hn s.heap.objs.size nf (.ref s.heap.objs.size) es.size 0 _ #[] c rfl (eO _) st2 hS3 (ag5 _) fun s' acc c' hm hS' hacc=>?_;obtain⟨h3,g3,d3,tk3,o3⟩:=s';have e1:g3=s.gens:=hm.gens;have e2:d3=d:=hm.drawn;have e3:o3=s.os:=hm.os;subst e1;subst e2;subst e3;refine⟨h3,tk3,acc,c',rfl,rfl,?_,hS',fun b o e=>hm.heap b o (fun m=>?_) (kp2 b o (cH (bU e)) (kp b o (dX _ e)))⟩
  ·apply List.ext_getElem?;intro i;rw[qQ];rcases jO i es.size with l|l
   ·have e:=getElem?_pos acc i (by rw[hacc.1];exact l);rw[hacc.2 i _ e,e]
   ·rw[getElem?_neg acc i (by rw[hacc.1];lia),wX tb_g%]
  ·have lb:=bU e;rcases cO.mp m with rfl|m
   ·exact ud _ lb
   ·have m:b=I:=cZ.mp m;have hI:s.heap.objs.size+1<=I:=by rw[<-z1];exact hI
    have lb:I<s.heap.objs.size:=m ▸ lb;exact absurd lb (Yh.mpr (Nat.le_of_succ_le hI))
 have fin:∀(res:n8)(s':Shared),(∃(h3:Heap)(tk:Nat)(acc:Array Value)(c':Nat),res=.ok (.ret (.ref s.heap.objs.size))/\s'={ s with heap:=h3,toks:=tk,drawn:=d }/\acc.toList=ord/\h3.get? s.heap.objs.size=some (Lp acc c')/\∀b o,s.heap.get? b=some o->h3.get? b=some o) ->
   ∃ v,res = .ok (.ret v)/\wpAny (model prog w) A (match v with
    | .ref a=>load a >>= fun o=>match o.data with
     | .seq xs _=>pure xs.toList
     |_=>Xx "internal:collect"
    | _=>Xx "internal:collect") Q E s':=by
  rintro res s' ⟨h3,tk,acc,c',rfl,rfl,ea,hS',kp3⟩;refine⟨_,rfl,aJ (wpAny_load hS' (aU ?_))⟩;exact q h3 tk d acc.toList (by rw[ea];exact hp) kp3
 refine aJ (qN (aiW (gb.ty (s:={ s with heap:=h',drawn:=d }) X2) ?_));refine vf (fun _=>?_) (fun _=>?_)
 ·refine aJ (xO (aJ ?_));show wpAny _ _ (Fy s.heap.objs.size (·.push .none) >>= fun _=>Fy s.heap.objs.size (·.pop)) _ _ _;refine aJ (vg hS2 rfl ?_);have hS3:=Aa (mG (·.push Value.none)) hS2 rfl;refine vg (hz:=by seq_fits) hS3 rfl ?_;have hS4:=Aa (mG (·.pop)) hS3 rfl;have ot:∀b o,b≠s.heap.objs.size->h'.get? b=some o->((h'.update s.heap.objs.size (mG (·.push Value.none))).update s.heap.objs.size (mG (·.pop))).get? b=some o:=fun b o nb e=>(xY _ _ (aX nb)).trans ((xY _ _ (aX nb)).trans e);refine aU ⟨nU F.plain_extend_loop _,vm (key _ _ ((W A hh).frame 0 _ _ st fun b m o e=>ot b o (fun z=>nf (by rw[<-z];exact m)) e) ot hS4) fun res s' z=>?_⟩;obtain⟨v,rfl,g⟩:=fin res s' z;exact g
 ·refine aU ⟨nU F.plain_extend_loop _,vm (key h' 0 st (fun b o _ e=>e) hS2) fun res s' z=>?_⟩;obtain⟨v,rfl,g⟩:=fin res s' z;exact g
end
end Sx
namespace L2
open PySem PySem.Spec PyProof.Rows
section
variable{X:Cx}
noncomputable def SetO(P:bh)(w:World)(a:Addr)(ns:List Int):HO:=.ext fun h=>∃es ep t,Sx.gb P w h a es ep t (Sx.jB w)/\(Sx.keys es).Perm (Sx.dd ns)
theorem Inv.drew{pins:List (Addr × Obj)}{σ:List (Option V)}{H:Hp}{s:Shared}(d:Drawn)(I:Inv X pins σ H s):Inv X pins σ H { s with drawn:=d }:=⟨I.ok,I.os,I.bare,I.base,I.loc,I.cell,I.free,I.pR,I.pin,I.hok,I.len⟩
noncomputable def rSetC(P:bh)(w:World)(K:bB):List V->Hp->VK->Prop:=fun xs H Q=>∃a ns,xs=[V.ref a]/\SqL K H a (ns.map V.int)/\ns.length<1000/\∀l:Addr,H l=none->Q (.ref l) (upd H l (SetO P w l ns))
theorem adA(hc:X.calm=true):ju X (.type "set") (rSetC X.prog X.w X.K):=by
 intro pins s σ H xs us Q I r h;obtain⟨a,ns,rfl,ha,few,q⟩:=h;obtain⟨u,rfl,ru⟩:=vals1 r;cases ru;obtain⟨its,rv,p,hz⟩:=I.list ha;have hI:=intsAre_of rv;have hl:its.length=ns.length:=by rw[<-rv.length,aV]
 have hs:its.toArray.size=its.length:=dh;refine Sx.aiT (items:=its.toArray) (ns:=ns) (I.ok.hd hc) p.isList (by simpa using hI) (by unfold scanBound;lia) fun h' tk es ep t x pk kp=>?_;refine⟨.ref s.heap.objs.size,_,I.laid (t':=tk) kp (bG _) (show dR X.prog X.w _ h' s.heap.objs.size (SetO X.prog X.w s.heap.objs.size ns)from⟨⟨es,ep,t,x,pk⟩,⟨_,x.o⟩,fun h1 h2 ⟨e,p1,t1,y,pe⟩ k=>⟨e,p1,t1,y.keep k,pe⟩⟩),rfl,q _ (I.hok.fresh (bG _))⟩
noncomputable def aoK(P:bh)(w:World):List V->Hp->VK->Prop:=fun xs H Q=>∃a ns,xs=[V.ref a]/\H a=some (SetO P w a ns)/\(Sx.dd ns).length<64/\∀(l:Addr)(ns':List Int),H l=none->ns'.Perm (Sx.dd ns)->ns'.Pairwise (· <= ·)->Q (.ref l) (upd H l (.lst (ns'.map V.int)))
theorem Pa{P:bh}{w:World}:∀{es:List (Int × Value)},QS (jj P w) es->IntsAre (es.map (·.2)) (es.map fun e=>Sx.iv e.2)
 |[],_=>.nil
 |(h,v)::r,e=>by
  obtain⟨⟨k,hk,_⟩,hs⟩:=e (h,v) dO;have hk:Gg k v=true:=hk;cases v <;> first|(simp[Gg]at hk;done)|skip
  exact .cons _ _ (Pa fun x m=>e x (fX _ m))
theorem IntsAre.aoL{us vs:List Value}{ns:List Int}(h:IntsAre vs ns)(p:us.Perm vs):∃ms,IntsAre us ms/\ms.Perm ns:=by
 induction p generalizing ns with
 |nil=>exact⟨ns,h,.rfl⟩
 |cons x _ ih =>
  cases h with
  |cons n t h =>
   obtain⟨ms,a,b⟩:=ih h;exact⟨n::ms,.cons n t a,b.cons n⟩
 |swap x y l =>
  cases h with
  |cons n t h =>
   cases h with
   |cons m u h=>exact⟨m::n::_,.cons m u (.cons n t h),.swap ..⟩
 |trans _ _ ih1 ih2 =>
  obtain⟨ms,a,b⟩:=ih2 h;obtain⟨ks,c,d⟩:=ih1 a;exact⟨ks,c,d.trans b⟩
theorem aah(hc:X.calm=true):ju X (.builtin "sorted") (aoK X.prog X.w):=by
 intro pins s σ H xs us Q I r h;obtain⟨a,ns,rfl,ha,f64,q⟩:=h;obtain⟨u,rfl,ru⟩:=vals1 r;cases ru;obtain⟨⟨es,ep,t,x,pk⟩,_,_⟩:=I.hok a _ ha;apply agE Yz Yx Yy (agm _);unfold eG.«sorted»;apply aJ (m:=XD "sorted" 1 1 _);apply aU;apply aJ;refine Sx.Vq (A:=X.A.in1) (I.ok.hd hc) x fun h1 tk d acc pa kp=>?_;obtain⟨ms,hI,pm⟩:=IntsAre.aoL (Pa x.el) pa;have hz:acc.length<=sizeLine:=by rw[pa.length_eq,aV,mF];exact Fe x.few
 have h64:acc.length<64:=by
  have e1:=pa.length_eq;have e2:=pk.length_eq;unfold Sx.keys at e2;rw[aV]at e1 e2;lia
 apply aJ;refine Xq ?_ hz;have hoL:(h1.push (yh "list" acc.toArray 0)).get? h1.objs.size=some (yh "list" acc.toArray 0):=eE _ rfl;apply aJ;refine qN (z9 Yt ⟨_,hoL,rfl⟩ Ys (agi hoL hI h64 fun out ns' a1 a2 a3=>⟨_,rfl,?_⟩) (agj _));refine aU ⟨_,rfl,?_⟩;obtain⟨e,he⟩:=Yv (vs:=acc) (out:=out) hoL;have hb:∀b ob,s.heap.get? b=some ob->b<h1.objs.size:=fun b ob e'=>bU (kp b ob e');have pf:ns'.Perm (Sx.dd ns):=(a2.trans pm).trans pk;refine⟨.ref h1.objs.size,_,(I.drew d).Ht (t':=tk) (fun b ob e'=>?_) (fun b ob e'=>cH (hb b ob e')) (show dR X.prog X.w _ _ h1.objs.size (.lst (ns'.map V.int))from⟨?_,out.toList,e,mR a1,by simpa using he⟩),rfl,q _ ns' (I.none_of fun b ob e'=>cH (hb b ob e')) pf a3⟩
 ·have hlt:=hb b ob e';rw[Yu (cH hlt) (by rw[Rv];exact Cr hlt)];exact dX _ (kp b ob e')
 ·rw[aV,(a2.trans pm).length_eq,aV,mF];exact Fe x.few
end
end L2
set_option autoImplicit false
namespace RG
noncomputable abbrev Ls:=List (List Int)
noncomputable def Sd(l:List Int):Prop:=l.Pairwise (· <= ·)
noncomputable def srt(ns:List Int):List Int:=ns.mergeSort fun a b=>decide (a<=b)
theorem pH:∀{xs ys:List Int},xs.Perm ys->xs.Pairwise (· <= ·)->ys.Pairwise (· <= ·)->xs=ys
 |[],ys,p,_,_=>by rw[aeO.mp p]
 |x::xs,[],p,_,_=>absurd p (by simp)
 |x::xs,y::ys,p,h1,h2=>by
  have a1:=kW.mp h1;have a2:=kW.mp h2;have e:x=y:=by
   have m1:x∈y::ys:=p.mem_iff.mp dO;have m2:y∈x::xs:=p.mem_iff.mpr dO;rcases cO.mp m1 with z|z
   ·exact z
   ·rcases cO.mp m2 with z'|z'
    ·exact z'.symm
    ·exact agu (a1.1 y z') (a2.1 x z)
  subst e;rw[pH (agX p) a1.2 a2.2]
theorem iZ(ns:List Int):(srt ns).Perm ns:=aew _ _
theorem vK(ns:List Int):Sd (srt ns):=by
 have:=aek (le:=fun a b:Int=>decide (a<=b)) (fun a b c h1 h2=>by simp only[decide_eq_true_eq]at *; lia) (fun a b=>by simp only[afO,decide_eq_true_eq];lia) ns;exact this.imp fun h=>of_decide_eq_true h
theorem vL{ns ms:List Int}(p:ms.Perm ns)(h:ms.Pairwise (· <= ·)):ms=srt ns:=pH (p.trans (iZ ns).symm) h (vK ns)
theorem gP(ns:List Int):(srt ns).length=ns.length:=(iZ ns).length_eq
theorem rE{z:Int}{ns:List Int}:z∈srt ns↔z∈ns:=(iZ ns).mem_iff
noncomputable def pick(o:Bool):List Int->List Int
 |a::b::r=>(if o then b else a)::pick o r
 |_=>[]
noncomputable def lft:List Int->List Int
 |_::_::r=>lft r
 |l=>l
theorem zP:∀l:List Int,(lft l).length=l.length % 2
 |[]=>rfl
 |[_]=>rfl
 |_::_::r=>by
  have:=zP r;show(lft r).length=(r.length+1+1) % 2;lia
theorem nP(o:Bool):∀l:List Int,(pick o l).length=l.length / 2
 |[]=>by simp[pick]
 |[_]=>by simp[pick]
 |_::_::r=>by
  have:=nP o r;show(pick o r).length+1=(r.length+1+1) / 2;lia
theorem Vr:∀l:List Int,lft l=l.drop (l.length-l.length % 2)
 |[]=>rfl
 |[_]=>rfl
 |a::b::r=>by
  have:=Vr r;show lft r=(a::b::r).drop (r.length+1+1-(r.length+1+1) % 2);rw[show r.length+1+1-(r.length+1+1) % 2=(r.length-r.length % 2)+1+1 by lia,aex,aex];exact this
theorem abn{z:Int}:∀{l:List Int},z∈lft l->z∈l
 |[],h=>h
 |[_],h=>h
 |_::_::r,h=>fX _ (fX _ (abn (l:=r) h))
theorem Vs{o:Bool}{z:Int}:∀{l:List Int},z∈pick o l->z∈l
 |[],h=>nomatch h
 |[_],h=>nomatch h
 |a::b::r,h=>by
  rcases cO.mp h with e|e
  ·cases o
   ·rw[e];exact dO
   ·rw[e];exact fX _ dO
  ·exact fX _ (fX _ (Vs (l:=r) e))
theorem aiX:∀{l:List Int},Sd l->Sd (lft l)
 |[],h=>h
 |[_],h=>h
 |_::_::r,h=>aiX (l:=r) (kW.mp (kW.mp h).2).2
noncomputable def cnt(x:Int)(l:List Int):Nat:=(l.filter fun z=>decide (z<=x)).length
noncomputable def val:Ls->Nat
 |[]=>0
 |l::r=>l.length+2*val r
noncomputable def pot(h:Nat):Ls->Nat
 |[]=>0
 |l::r=>h*2 ^ h*l.length+pot (h+1) r
theorem aai(ls:Ls):val ls=(ls.headD []).length+2*val ls.tail:=by cases ls <;> rfl
theorem aiY(h:Nat)(ls:Ls):pot h ls=h*2 ^ h*(ls.headD []).length+pot (h+1) ls.tail:=by
 cases ls
 ·show 0=h*2 ^ h*0+0;rw[Rk]
 ·rfl
theorem Te{P:List Int->Prop}{ls:Ls}(h:∀l∈ls,P l)(h0:P []):P (ls.headD []):=by
 cases ls
 ·exact h0
 ·exact h _ dO
theorem aaj{P:List Int->Prop}{ls:Ls}(h:∀l∈ls,P l):∀l∈ls.tail,P l:=fun l hl=>h l (aer hl)
noncomputable def iK(t:Int)(ls:Ls)(w:Nat):Ls:=
 if w=0 then ls else(if w % 2=1 then srt (ls.headD []++[t])else ls.headD [])::iK t ls.tail (w / 2)
termination_by w
decreasing_by lia
theorem iT(t:Int)(ls:Ls):iK t ls 0=ls:=by rw[iK,if_pos rfl]
theorem je{w:Nat}(t:Int)(ls:Ls)(h:w≠0):iK t ls w=(if w % 2=1 then srt (ls.headD []++[t])else ls.headD [])::iK t ls.tail (w / 2):=by rw[iK,if_neg h]
theorem adB{w:Nat}(t:Int)(h:w≠0):iK t [[]] w=iK t [] w:=by rw[je t _ h,je t [] h];rfl
theorem Pb(t:Int):∀(w:Nat)(ls:Ls),val (iK t ls w)=val ls+w:=by
 intro w
 induction w using Bs with
 |_ w ih =>
  intro ls;by_cases h:w=0
  ·rw[h,iT];rfl
  ·rw[je t ls h];show mC _+2*val _=_;rw[ih (w / 2) tb_g%,aai ls];split
   ·rw[gP,fj];show _+1+_=_;lia
   ·lia
theorem adC(t:Int):∀(w:Nat)(h:Nat)(ls:Ls),pot h ls<=pot h (iK t ls w):=by
 intro w
 induction w using Bs with
 |_ w ih =>
  intro h ls;by_cases hw:w=0
  ·rw[hw,iT];exact bG _
  ·rw[je t ls hw,aiY h ls];show _<=h*2 ^ h*mC _+pot (h+1) _;have:=ih (w / 2) tb_g% (h+1) ls.tail;refine Nat.add_le_add (afF _ ?_) this;split
   ·rw[gP,fj];lia
   ·exact bG _
theorem adD{P:List Int->Prop}(t:Int)(h0:P [])(h1:∀l,P l->P (srt (l++[t]))):∀(w:Nat)(ls:Ls),(∀l∈ls,P l)->∀l∈iK t ls w,P l:=by
 intro w
 induction w using Bs with
 |_ w ih =>
  intro ls hl;by_cases hw:w=0
  ·rw[hw,iT];exact hl
  ·rw[je t ls hw];intro l m;rcases cO.mp m with e|e
   ·rw[e];split
    ·exact h1 _ (Te hl h0)
    ·exact Te hl h0
   ·exact ih (w / 2) tb_g% ls.tail (aaj hl) l e
noncomputable def Full(ls:Ls):Prop:=∀l,ls.getLast? = some l->l≠[]
theorem zQ{l:List Int}{ls:Ls}(h:Full ls)(h0:ls=[]->l≠[]):Full (l::ls):=by
 intro m hm;cases ls with
 |nil=>simp at hm;rw[<-hm];exact h0 rfl
 |cons a r=>exact h m (by rw[ael]at hm;exact hm)
theorem uF{ls:Ls}(h:Full ls):Full ls.tail:=by
 intro m hm;cases ls with
 |nil=>exact nomatch hm
 |cons a r =>
  cases r with
  |nil=>exact nomatch hm
  |cons b r=>exact h m (by rw[ael];exact hm)
theorem Vt{t:Int}{w:Nat}{ls:Ls}(h:w≠0):iK t ls w≠[]:=by rw[je t ls h];exact u9 _ _
theorem adE{t:Int}{w:Nat}{ls:Ls}(h:iK t ls w=[]):w=0/\ls=[]:=by
 by_cases hw:w=0
 ·rw[hw,iT]at h;exact⟨hw,h⟩
 ·exact absurd h (Vt hw)
theorem aak(t:Int):∀(w:Nat)(ls:Ls),Full ls->Full (iK t ls w):=by
 intro w
 induction w using Bs with
 |_ w ih =>
  intro ls hl;by_cases hw:w=0
  ·rw[hw,iT];exact hl
  ·rw[je t ls hw];refine zQ (ih (w / 2) tb_g% _ (uF hl)) fun e=>?_;have hw2:=(adE e).1;rw[if_pos (show w % 2=1 by lia)];intro z;have:=congrArg mC z;rw[gP,fj]at this;exact absurd this (by show ¬ _+1=0;lia)
inductive Stl (room:Int):Nat->Int->Int->Int->Ls->Ls->Int->Int->Int->Prop
 |nil (h:Nat) (tn ov un:Int):Stl room h tn ov un [] [] tn ov un
 |keep {h:Nat} {tn ov un:Int} {l:List Int} {ls out:Ls} {tn' ov' un':Int}:(l.length:Int)<=room->Stl room (h+1) tn ov un ls out tn' ov' un'->Stl room h tn ov un (l::ls) (l::out) tn' ov' un'
 |turn {h:Nat} {tn ov un:Int} {l:List Int} {ls out:Ls} {tn' ov' un':Int}:room<(l.length:Int) ->
   Stl room (h+1) (tn+1) (if tn % 2=0 then ov+2 ^ h else ov) (if tn % 2=0 then un else un+2 ^ h) (srt (ls.headD []++pick (decide (tn % 2=1)) l)::ls.tail) out tn' ov' un'->Stl room h tn ov un (l::ls) (lft l::out) tn' ov' un'
theorem Stl.val{room:Int}{h:Nat}{tn ov un:Int}{ls out:Ls}{tn' ov' un':Int}(a:Stl room h tn ov un ls out tn' ov' un'):val out=val ls:=by
 induction a with
 |nil=>rfl
 |keep _ _ ih=>show _+2*_=_+2*_;rw[ih]
 | @turn _ _ _ _ l ls _ _ _ _ _ _ ih =>
  show mC _+2*_=_+2*_;rw[ih,zP];show _+2*(mC _+2*RG.val ls.tail)=_;rw[gP,fj,nP,aai ls];lia
theorem Stl.all{P:List Int->Prop}(h0:P [])(hL:∀l,P l->P (lft l))(hP:∀l m o,P l->P m->P (srt (l++pick o m))){room:Int}{h:Nat}{tn ov un:Int}{ls out:Ls}{tn' ov' un':Int}(a:Stl room h tn ov un ls out tn' ov' un'):(∀l∈ls,P l)->∀l∈out,P l:=by
 induction a with
 |nil=>exact id
 |keep _ _ ih =>
  intro hl l m;rcases cO.mp m with e|e
  ·rw[e];exact hl _ dO
  ·exact ih (fun l hm=>hl l (fX _ hm)) l e
 | @turn _ _ _ _ l0 ls _ _ _ _ _ _ ih =>
  intro hl l m;have h1:P l0:=hl _ dO;have h2:∀l∈ls,P l:=fun l hm=>hl l (fX _ hm);rcases cO.mp m with e|e
  ·rw[e];exact hL _ h1
  ·refine ih (fun l hm=>?_) l e;rcases cO.mp hm with z|z
   ·rw[z];exact hP _ _ _ (Te h2 h0) h1
   ·exact aaj h2 l z
theorem Stl.small{room:Int}(r1:1<=room){h:Nat}{tn ov un:Int}{ls out:Ls}{tn' ov' un':Int}(a:Stl room h tn ov un ls out tn' ov' un'):∀l∈out,(l.length:Int)<=room:=by
 induction a with
 |nil=>exact fun _ h=>nomatch h
 |keep hl _ ih =>
  intro l m;rcases cO.mp m with e|e
  ·rw[e];exact hl
  ·exact ih l e
 |turn _ _ ih =>
  intro l m;rcases cO.mp m with e|e
  ·rw[e,zP];lia
  ·exact ih l e
theorem Stl.empty{room:Int}{h:Nat}{tn ov un:Int}{ls out:Ls}{tn' ov' un':Int}(a:Stl room h tn ov un ls out tn' ov' un')(e:out=[]):ls=[]:=by
 cases a with
 |nil=>rfl
 |keep _ _=>cases e
 |turn _ _=>cases e
theorem Stl.full{room:Int}(r1:1<=room){h:Nat}{tn ov un:Int}{ls out:Ls}{tn' ov' un':Int}(a:Stl room h tn ov un ls out tn' ov' un'):Full ls->Full out:=by
 induction a with
 |nil=>exact id
 | @keep _ _ _ _ l ls out _ _ _ _ a ih =>
  intro f;refine zQ (ih (uF f)) fun e=>?_;have:=a.empty e;subst this;exact f l rfl
 | @turn _ _ _ _ l ls out _ _ _ hl a ih =>
  intro f;refine zQ (ih (zQ (uF (uF f)) fun _ z=>?_)) fun e=>?_
  ·have:=congrArg mC z;rw[gP,fj,nP]at this;have:(_:Nat)+l.length / 2=0:=this;lia
  ·exact absurd (a.empty e) (u9 _ _)
theorem Stl.mono{room:Int}{h:Nat}{tn ov un:Int}{ls out:Ls}{tn' ov' un':Int}(a:Stl room h tn ov un ls out tn' ov' un'):tn<=tn'/\ov<=ov'/\un<=un':=by
 induction a with
 |nil=>exact⟨iW _,iW _,iW _⟩
 |keep _ _ ih=>exact ih
 | @turn h tn ov un _ _ _ _ _ _ _ _ ih =>
  have p:(0:Int)<2 ^ h:=RL (by decide);obtain⟨i1,i2,i3⟩:=ih;refine⟨by lia,?_,?_⟩
  ·split at i2 <;> lia
  ·split at i3 <;> lia
theorem Stl.pot{room:Int}(ev:room % 2=0){h:Nat}{tn ov un:Int}{ls out:Ls}{tn' ov' un':Int}(a:Stl room h tn ov un ls out tn' ov' un'):room*(ov'+un'-ov-un)+pot h ls<=pot h out:=by
 induction a with
 |nil h tn ov un =>
  rw[show ov+un-ov-un=0 by lia,YM];lia
 | @keep h _ _ _ l ls out _ _ _ _ _ ih =>
  show _+((h*2 ^ h*l.length+RG.pot (h+1) ls:Nat):Int)<=((h*2 ^ h*l.length+RG.pot (h+1) out:Nat):Int);lia
 | @turn h tn ov un l ls out tn' ov' un' hl _ ih =>
  show _+((h*2 ^ h*l.length+RG.pot (h+1) ls:Nat):Int)<=((h*2 ^ h*(lft l).length+RG.pot (h+1) out:Nat):Int);have e:RG.pot (h+1) (srt (ls.headD []++pick (decide (tn % 2=1)) l)::ls.tail)=RG.pot (h+1) ls+(h+1)*2 ^ (h+1)*(l.length / 2):=by
   show(h+1)*2 ^ (h+1)*mC _+RG.pot (h+1+1) ls.tail=_;rw[gP,fj,nP,aiY (h+1) ls,Bt];lia
  rw[e]at ih;have d:(if tn % 2=0 then ov+2 ^ h else ov)+(if tn % 2=0 then un else un+2 ^ h)=ov+un+2 ^ h:=by split <;> lia
  have ih2:room*(ov'+un'-(ov+un+2 ^ h))+((RG.pot (h+1) ls+(h+1)*2 ^ (h+1)*(l.length / 2):Nat):Int)<=RG.pot (h+1) out:=by
   rw[<-d];refine Int.le_trans (Int.le_of_eq ?_) ih;congr 2;lia
  rw[zP];have m1:room*(ov'+un'-(ov+un+2 ^ h))=room*(ov'+un'-ov-un)-room*2 ^ h:=by
   rw[<-Int.mul_sub];congr 1;lia
  rw[m1]at ih2;have key:h*2 ^ h*l.length+(2*(l.length / 2))*2 ^ h=h*2 ^ h*(l.length % 2)+(h+1)*2 ^ (h+1)*(l.length / 2):=by
   have e1:l.length=2*(l.length / 2)+l.length % 2:=by lia
   generalize l.length / 2=m at e1 ⊢;generalize l.length % 2=c at e1 ⊢;rw[e1,sO]
   grind
  have big:room*2 ^ h<=((2*(l.length / 2)*2 ^ h:Nat):Int):=by
   have r2:room<=((2*(l.length / 2):Nat):Int):=by lia
   have p:(0:Int)<=2 ^ h:=Int.pow_nonneg (by decide);have:=Ot r2 p;rw[Int.natCast_mul];rw[Bv];exact this
  have key':((h*2 ^ h*l.length:Nat):Int)+((2*(l.length / 2)*2 ^ h:Nat):Int)=((h*2 ^ h*(l.length % 2):Nat):Int)+(((h+1)*2 ^ (h+1)*(l.length / 2):Nat):Int):=by
   rw[<-Ky,<-Ky,key]
  rw[Ky,Ky];rw[Ky]at ih2;lia
theorem abo:∀{ls:Ls},Full ls->ls≠[]->2 ^ (ls.length-1)<=val ls
 |[],_,h=>absurd rfl h
 |[l],f,_=>by
  have:=f l rfl;show 1<=l.length+2*0;cases l with
  |nil=>exact absurd rfl this
  |cons a r=>show 1<=r.length+1+0;lia
 |l::m::r,f,_=>by
  have ih:=abo (ls:=m::r) (uF f) (u9 _ _);show 2 ^ ((m::r).length+1-1)<=l.length+2*val (m::r);rw[show(m::r).length+1-1=((m::r).length-1)+1 by rw[jo];lia,sO];lia
theorem Dl{α:Type}{ms:List α}{p:Nat}{l:α}(h:ms[p]? = some l):ms.take (p+1)=ms.take p++[l]:=by rw[qM,h];rfl
theorem iD{α:Type}{ms:List α}{p:Nat}{l:α}(h:ms[p]? = some l):ms.drop p=l::ms.drop (p+1):=by
 obtain⟨hp,e⟩:=gn.mp h;rw[aei hp,e]
theorem Vu{α:Type}{ms:List α}{p:Nat}{l m:α}(h:ms[p]? = some l):(ms.set p m).take (p+1)=ms.take p++[m]:=by
 obtain⟨hp,e⟩:=gn.mp h;rw[Dl (l:=m) (by rw[Qg hp]),aey (bG _)]
theorem set_drop{α:Type}{ms:List α}{p:Nat}{m:α}:(ms.set p m).drop (p+1)=ms.drop (p+1):=by rw[W5 (yc p)]
theorem Dm{α:Type}{ms:List α}{p:Nat}{l:α}(h:ms[p]? = some l):ms.set p l=ms:=by
 obtain⟨hp,e⟩:=gn.mp h;rw[<-e,List.set_getElem_self]
theorem Lq{t:Int}{ms:Ls}{p k:Nat}{l:List Int}(h:ms[p]? = some l)(hk:k≠0):
  (ms.set p (if k % 2=1 then srt (l++[t])else l)).take (p+1)++iK t ((ms.set p (if k % 2=1 then srt (l++[t])else l)).drop (p+1)) (k / 2)=ms.take p++iK t (ms.drop p) k:=by
 rw[Vu h,set_drop,iD h,je t _ hk,pL];rfl
theorem aal{t:Int}{ms:Ls}{p k:Nat}(h:p=ms.length)(hk:k≠0):(ms++[[]]).take p++iK t ((ms++[[]]).drop p) k=ms.take p++iK t (ms.drop p) k:=by
 rw[h,List.take_left,aeJ,m9,JC,adB t hk]
theorem qe:∀(xs ys:Ls),val (xs++ys)=val xs+2 ^ xs.length*val ys
 |[],ys=>by show val ys=0+1*val ys;lia
 |x::xs,ys=>by
  show x.length+2*val (xs++ys)=x.length+2*val xs+2 ^ (xs.length+1)*val ys;rw[qe xs ys,sO,Bt,Ga _ 2,Kf];lia
structure Run(room tn ov un:Int)(ls:Ls)(q:Nat)(tn2 ov2 un2:Int)(ms:Ls):Prop where
 cont:∀out tn' ov' un',Stl room q tn2 ov2 un2 (ms.drop q) out tn' ov' un'->Stl room 0 tn ov un ls (ms.take q++out) tn' ov' un'
 vl:val (ms.take q)+2 ^ q*val (ms.drop q)=val ls
 le:q<=ms.length
 b1:(∀l∈ls,l.length<=31)->∀l∈ms,l.length<=62
 b2:(∀l∈ls,l.length<=31)->∀l∈ms.drop (q+1),l.length<=31
 b0:(∀l∈ls,(l.length:Int)<=room)->ms=ls
theorem Run.start{room tn ov un:Int}{ls:Ls}:Run room tn ov un ls 0 tn ov un ls:=
 ⟨fun _ _ _ _ h=>h,by show 0+1*_=_;rw[aeK];lia,eO _,fun h l hl=>by have:=h l hl;lia,fun h l hl=>h l (Jy hl),fun _=>rfl⟩
theorem Run.done{room tn ov un tn2 ov2 un2:Int}{ls ms:Ls}{q:Nat}(r:Run room tn ov un ls q tn2 ov2 un2 ms)(h:ms.length<=q):Stl room 0 tn ov un ls ms tn2 ov2 un2:=by
 have:=r.cont [] tn2 ov2 un2 (by rw[WW h];exact .nil _ _ _ _);rw[Eu,wA h]at this;exact this
theorem Run.keep{room tn ov un tn2 ov2 un2:Int}{ls ms:Ls}{q:Nat}{l:List Int}(r:Run room tn ov un ls q tn2 ov2 un2 ms)(h:ms[q]? = some l)(hl:(l.length:Int)<=room):Run room tn ov un ls (q+1) tn2 ov2 un2 ms:=by
 obtain⟨hp,_⟩:=gn.mp h;refine⟨fun out tn' ov' un' s=>?_,?_,hp,r.b1,fun h l hl=>r.b2 h l (by rw[show q+1+1=1+(q+1) by lia,Nat.add_comm 1]at hl;exact Jy (i:=1) (by rw[List.drop_drop];exact hl)),r.b0⟩
 ·have:=r.cont (l::out) tn' ov' un' (by rw[iD h];exact .keep hl s);rw[Dl h,pL];exact this
 ·have:=r.vl;rw[iD h]at this;rw[Dl h,qe,iw,Rh tb_g%,<-this,sO];show _+2 ^ q*(l.length+2*0)+_=_+2 ^ q*(l.length+2*_);rw[Bt,Bt,Kf];lia
theorem Run.big{room tn ov un tn2 ov2 un2:Int}{ls ms:Ls}{q:Nat}{l:List Int}(r:Run room tn ov un ls q tn2 ov2 un2 ms)(h:ms[q]? = some l)(hl:l≠[]):2 ^ q<=val ls:=by
 have:=r.vl;rw[iD h]at this;have e:val (l::ms.drop (q+1))=l.length+2*val (ms.drop (q+1)):=rfl;have l1:1<=l.length:=by
  cases l with
  |nil=>exact absurd rfl hl
  |cons a b=>show 1<=b.length+1;lia
 have m:=afF (2 ^ q) (show 1<=val (l::ms.drop (q+1)) by lia);lia
noncomputable def More(q:Nat)(ms ms':Ls)(nx:List Int):Prop:=(ms'=ms/\ms[q+1]? = some nx)\/(q+1=ms.length/\ms'=ms++[[]]/\nx=[])
theorem More.at{q:Nat}{ms ms':Ls}{nx l:List Int}(m:More q ms ms' nx)(h:ms[q]? = some l):ms'[q]? = some l/\ms'[q+1]? = some nx/\ms'.take q=ms.take q/\(ms.drop (q+1)).headD []=nx/\(ms.drop (q+1)).tail=ms'.drop (q+2):=by
 rcases m with⟨rfl,e⟩|⟨e,rfl,rfl⟩
 ·refine⟨h,e,rfl,?_,?_⟩
  ·rw[iD e];rfl
  ·rw[iD e];rfl
 ·obtain⟨hp,_⟩:=gn.mp h;refine⟨by rw[Jx hp];exact h,by rw[e,Jw (bG _),Nat.sub_self];rfl,List.take_append_of_le_length tb_g%,?_,?_⟩
  ·rw[e,JC];rfl
  ·rw[e,JC,WW (by rw[fj];show _+1<=_;lia)];rfl
theorem Run.turn{room tn ov un tn2 ov2 un2:Int}{ls ms ms':Ls}{q:Nat}{l nx:List Int}(r:Run room tn ov un ls q tn2 ov2 un2 ms)(m:More q ms ms' nx)(h:ms[q]? = some l)(hl:room<(l.length:Int)):
  Run room tn ov un ls (q+1) (tn2+1) (if tn2 % 2=0 then ov2+2 ^ q else ov2) (if tn2 % 2=0 then un2 else un2+2 ^ q) ((ms'.set q (lft l)).set (q+1) (srt (nx++pick (decide (tn2 % 2=1)) l))):=by
 obtain⟨h1,h2,h3,h4,h5⟩:=m.at h;obtain⟨p1,_⟩:=gn.mp h1;obtain⟨p2,_⟩:=gn.mp h2;have e0:(ms'.set q (lft l))[q+1]? = some nx:=by rw[Er tb_g%];exact h2
 have e1:((ms'.set q (lft l)).set (q+1) (srt (nx++pick (decide (tn2 % 2=1)) l))).take (q+1)=ms.take q++[lft l]:=by
  rw[aey (bG _),Vu h1,h3]
 have e2:((ms'.set q (lft l)).set (q+1) (srt (nx++pick (decide (tn2 % 2=1)) l))).drop (q+1)=srt (nx++pick (decide (tn2 % 2=1)) l)::(ms.drop (q+1)).tail:=by
  rw[iD (l:=srt (nx++pick (decide (tn2 % 2=1)) l)) (by rw[Qg (by rw[kY];exact p2)]),set_drop,W5 tb_g%,h5]
 have hm:(∀l∈ls,l.length<=31)->∀k∈ms',k.length<=62:=by
  intro hs;rcases m with⟨rfl,_⟩|⟨_,rfl,_⟩
  ·exact r.b1 hs
  ·intro k hk;rcases dY.mp hk with z|z
   ·exact r.b1 hs k z
   ·rw[cZ.mp z];exact eO _
 have nx2:(∀l∈ls,l.length<=31)->nx.length<=31:=by
  intro hs;rcases m with⟨rfl,e⟩|⟨_,_,rfl⟩
  ·exact r.b2 hs nx (by rw[iD e];exact dO)
  ·exact eO _
 have ll:(∀l∈ls,l.length<=31)->l.length<=62:=fun z=>r.b1 z l (List.mem_of_getElem? h);refine⟨fun out tn' ov' un' s=>?_,?_,by rw[kY,kY];lia,fun hs k hk=>?_,fun hs k hk=>?_,fun hs=>?_⟩
 ·rw[e1,pL];refine r.cont (lft l::out) tn' ov' un' ?_;rw[iD h];refine .turn hl ?_;rw[h4];rw[e2]at s;exact s
 ·have v:=r.vl;rw[iD h]at v;rw[e1,e2,qe,iw,Rh (by have:=r.le;lia),<-v,sO];show _+2 ^ q*((lft l).length+2*0)+2 ^ q*2*((srt _).length+2*val _)=_+2 ^ q*(l.length+2*val _);rw[gP,fj,nP,zP,aai (ms.drop (q+1)),h4,Kf,afK,<-Bt];congr 2;lia
 ·rcases wz hk with z|z
  ·rcases wz z with z|z
   ·exact hm hs k z
   ·rw[z,zP];lia
  ·have:=nx2 hs;have:=ll hs;rw[z,gP,fj,nP];lia
 ·rw[set_drop,W5 tb_g%,<-h5]at hk;exact r.b2 hs k (aer hk)
 ·have e:=r.b0 hs;have:=hs l (by rw[<-e];exact List.mem_of_getElem? h);lia
theorem Pg(t:Int):∀(n w:Nat)(ls:Ls),w<2 ^ n->(iK t ls w).length<=max ls.length n
 |0,w,ls,h=>by
  have:w=0:=by rw[afL]at h;lia
  rw[this,iT];lia
 |n+1,w,ls,h=>by
  by_cases hw:w=0
  ·rw[hw,iT];lia
  ·rw[je t ls hw,jo];have:=Pg t n (w / 2) ls.tail (by rw[sO]at h;lia);rw[List.length_tail]at this;lia
theorem Vv(t:Int){b:Nat}:∀(w:Nat)(ls:Ls),(∀l∈ls,l.length<=b)->∀l∈iK t ls w,l.length<=b+1:=by
 intro w
 induction w using Bs with
 |_ w ih =>
  intro ls hl;by_cases hw:w=0
  ·rw[hw,iT];exact fun l h=>Rf (hl l h)
  ·rw[je t ls hw];intro l m;have hd:=Te (P:=fun l=>l.length<=b) hl (eO _);rcases cO.mp m with e|e
   ·rw[e];split
    ·rw[gP,fj];show _+1<=_;lia
    ·exact Rf hd
   ·exact ih (w / 2) tb_g% ls.tail (aaj hl) l e
theorem aiZ(t:Int)(w:Nat)(ls:Ls)(h:∀l∈ls,Sd l):∀l∈iK t ls w,Sd l:=adD (P:=Sd) t List.Pairwise.nil (fun _ _=>vK _) w ls h
theorem Stl.mem{P:Int->Prop}{room:Int}{h:Nat}{tn ov un:Int}{ls out:Ls}{tn' ov' un':Int}(a:Stl room h tn ov un ls out tn' ov' un'):(∀l∈ls,∀z∈l,P z)->∀l∈out,∀z∈l,P z:=
 a.all (P:=fun l=>∀z∈l,P z) (fun _ h=>nomatch h) (fun l hl z hz=>hl z (abn hz)) fun l m o hl hm z hz=>by
  rcases dY.mp (rE.mp hz)with e|e
  ·exact hl z e
  ·exact hm z (Vs e)
theorem Stl.sd{room:Int}{h:Nat}{tn ov un:Int}{ls out:Ls}{tn' ov' un':Int}(a:Stl room h tn ov un ls out tn' ov' un'):(∀l∈ls,Sd l)->∀l∈out,Sd l:=
 a.all (P:=Sd) List.Pairwise.nil (fun _=>aiX) fun _ _ _ _ _=>vK _
structure Good(r T ov un:Int)(ls:Ls):Prop where
 r2:2<=r
 r64:r<=64
 ev:r % 2=0
 vl:(val ls:Int)=T
 sd:∀l∈ls,Sd l
 sm:∀l∈ls,(l.length:Int)<=r
 fl:Full ls
 pt:(ov+un)*r<=pot 0 ls
 ov0:0<=ov
 un0:0<=un
theorem Good.new{r:Int}(h1:2<=r)(h2:r<=64)(h3:r % 2=0):Good r 0 0 0 []:=
 ⟨h1,h2,h3,rfl,fun _ h=>(nomatch h),fun _ h=>(nomatch h),fun _ h=>(nomatch h),by show(0+0)*r<=0;lia,iW _,iW _⟩
theorem Good.add{r T ov un tn tn' ov' un' t w:Int}{ls out:Ls}(g:Good r T ov un ls)(w1:1<=w)(s:Stl r 0 tn ov un (iK t ls w.toNat) out tn' ov' un'):Good r (T+w) ov' un' out/\out≠[]:=by
 have h1:=g.r2;have mo:=s.mono;have o0:=g.ov0;have u0:=g.un0;refine⟨⟨g.r2,g.r64,g.ev,?_,s.sd (aiZ t _ _ g.sd),s.small tb_g%,s.full tb_g% (aak t _ _ g.fl),?_,by lia,by lia⟩,fun e=>?_⟩
 ·rw[s.val,Pb];have:=g.vl;lia
 ·have p1:=s.pot g.ev;have p2:=adC t w.toNat 0 ls;have p3:=g.pt;have e:r*(ov'+un'-ov-un)=(ov'+un')*r-(ov+un)*r:=by grind
  lia
 ·exact Vt tb_g% (s.empty e)
theorem Good.bits{r T ov un:Int}{ls:Ls}(g:Good r T ov un ls)(h:ls≠[]):(2:Int) ^ (ls.length-1)<=T:=by
 have:=abo g.fl h;have e:=g.vl;have c:((2 ^ (ls.length-1):Nat):Int)=(2:Int) ^ (ls.length-1):=by rw[Bv];rfl
 lia
theorem ai0{ls:Ls}{i:Nat}{l:List Int}(h:ls[i]? = some l):val (ls.take (i+1))=val (ls.take i)+l.length*2 ^ i:=by
 obtain⟨hi,_⟩:=gn.mp h;rw[Dl h,qe,iw,Rh tb_g%];show _+2 ^ i*(l.length+2*0)=_;rw[Rk,Rm,Ga]
theorem Good.len{r T ov un:Int}{ls:Ls}(g:Good r T ov un ls){n:Nat}(h:T<2 ^ n):ls.length<=n:=by
 by_cases e:ls=[]
 ·rw[e];exact eO _
 ·have:=g.bits e;rcases jO (ls.length-1) n with z|z
  ·lia
  ·have p:=Kd (show 0<2 by decide) z;have c:((2 ^ n:Nat):Int)=(2:Int) ^ n:=by rw[Bv];rfl
   have c2:((2 ^ (ls.length-1):Nat):Int)=(2:Int) ^ (ls.length-1):=by rw[Bv];rfl
   lia
theorem Good.small{r T ov un:Int}{ls:Ls}(g:Good r T ov un ls):∀l∈ls,l.length<=64:=fun l h=>by have:=g.sm l h;have:=g.r64;lia
noncomputable def tw(x:Int):List (Int × Int)->Int
 |[]=>0
 |p::r=>(if p.1<=x then p.2 else 0)+tw x r
noncomputable def jn(l m:Ls)(i:Nat):List Int:=srt (l.getD i []++m.getD i [])
noncomputable def wG(n:Nat)(l m:Ls):Ls:=(jY n).map (jn l m)
noncomputable def join(l m:Ls):Ls:=wG (max l.length m.length) l m
theorem BR(n:Nat)(l m:Ls):wG (n+1) l m=wG n l m++[jn l m n]:=by
 unfold wG;rw[Xf,cM];rfl
theorem zR(n:Nat)(l m:Ls):(wG n l m).length=n:=by
 unfold wG;rw[aV,Jz]
theorem Ak(l:Ls)(n:Nat):val (l.take (n+1))=val (l.take n)+(l.getD n []).length*2 ^ n:=by
 rcases jO n l.length with h|h
 ·rw[ai0 (gA h),lZ,gA h];rfl
 ·rw[wA tb_g%,wA h,lZ,wX h];show _=_+0*_;rw[Nat.zero_mul];rfl
theorem BW:∀(xs ys:Ls)(h:Nat),pot h (xs++ys)=pot h xs+pot (h+xs.length) ys
 |[],ys,h=>by show pot h ys=0+pot (h+0) ys;rw[FZ,Rm]
 |x::xs,ys,h=>by
  show h*2 ^ h*x.length+pot (h+1) (xs++ys)=h*2 ^ h*x.length+pot (h+1) xs+pot (h+(xs.length+1)) ys;rw[BW xs ys (h+1),show h+1+xs.length=h+(xs.length+1) by lia,afK]
theorem Al(l:Ls)(n:Nat):pot 0 (l.take (n+1))=pot 0 (l.take n)+n*2 ^ n*(l.getD n []).length:=by
 rcases jO n l.length with h|h
 ·rw[Dl (gA h),BW,iw,Rh tb_g%,FZ,lZ,gA h];rfl
 ·rw[wA tb_g%,wA h,lZ,wX h];show _=_+_*0;rw[Rk];rfl
theorem Lr(l m:Ls)(i:Nat):(jn l m i).length=(l.getD i []).length+(m.getD i []).length:=by
 unfold jn;rw[gP,fj]
theorem Ph(l m:Ls):∀n,val (wG n l m)=val (l.take n)+val (m.take n)
 |0=>rfl
 |n+1=>by
  rw[BR,qe,zR,Ph l m n,Ak,Ak];show _+2 ^ n*((jn l m n).length+2*0)=_;rw[Rk,Rm,Lr,Bt,Ga (2 ^ n),Ga (2 ^ n)];lia
theorem Pj(l m:Ls):∀n,pot 0 (wG n l m)=pot 0 (l.take n)+pot 0 (m.take n)
 |0=>rfl
 |n+1=>by
  rw[BR,BW,zR,Pj l m n,Al,Al,FZ];show _+(n*2 ^ n*(jn l m n).length+0)=_;rw[Rm,Lr,Bt];lia
theorem Vw(l m:Ls):val (join l m)=val l+val m:=by
 unfold join;rw[Ph,wA tb_g%,wA tb_g%]
theorem ai1(l m:Ls):pot 0 (join l m)=pot 0 l+pot 0 m:=by
 unfold join;rw[Pj,wA tb_g%,wA tb_g%]
theorem Lw(l m:Ls):(join l m).length=max l.length m.length:=zR _ _ _
theorem Vx{P:List Int->Prop}{ls:Ls}(h:∀l∈ls,P l)(h0:P [])(i:Nat):P (ls.getD i []):=by
 rcases jO i ls.length with z|z
 ·rw[lZ,gA z];exact h _ (uZ z)
 ·rw[lZ,wX z];exact h0
theorem Vy{P:List Int->Prop}{l m:Ls}(h:∀i,P (jn l m i)):∀k∈join l m,P k:=by
 intro k hk;unfold join wG at hk;obtain⟨i,_,rfl⟩:=jq.mp hk;exact h i
theorem akU(l m:Ls):∀k∈join l m,Sd k:=Vy fun _=>vK _
theorem adF{l m:Ls}(hl:Full l)(hm:Full m):Full (join l m):=by
 intro k hk;rw[List.getLast?_eq_getElem?,Lw]at hk;have hp:=(gn.mp hk).1;rw[Lw]at hp;unfold join wG at hk;rw[gQ,List.getElem?_range tb_g%]at hk;have e:jn l m (max l.length m.length-1)=k:=cN hk;intro z;have hz:(jn l m (max l.length m.length-1)).length=0:=by rw[e,z];rfl
 rw[Lr]at hz;have one:∀{ls:Ls},Full ls->max l.length m.length=ls.length->(ls.getD (max l.length m.length-1) []).length=0->False:=by
  intro ls f e0 h0;have hi:ls.length-1<ls.length:=by lia
  have:=f ls[ls.length-1] (by rw[List.getLast?_eq_getElem?,gA hi]);rw[e0,lZ,gA hi]at h0;exact this (z8.mp h0)
 rcases Nat.le_total l.length m.length with a|a
 ·exact one hm tb_g% tb_g%
 ·exact one hl tb_g% tb_g%
theorem Good.aiG{r T1 ov1 un1 T2 ov2 un2 tn tn' ov' un':Int}{l m out:Ls}(g:Good r T1 ov1 un1 l)(h:Good r T2 ov2 un2 m)(s:Stl r 0 tn (ov1+ov2) (un1+un2) (join l m) out tn' ov' un'):Good r (T1+T2) ov' un' out:=by
 have h1:=g.r2;have mo:=s.mono;have a1:=g.ov0;have a2:=g.un0;have a3:=h.ov0;have a4:=h.un0;refine⟨g.r2,g.r64,g.ev,?_,s.sd (akU l m),s.small tb_g%,s.full tb_g% (adF g.fl h.fl),?_,by lia,by lia⟩
 ·rw[s.val,Vw];have:=g.vl;have:=h.vl;lia
 ·have p1:=s.pot g.ev;have p2:=ai1 l m;have p3:=g.pt;have p4:=h.pt;have e:r*(ov'+un'-(ov1+ov2)-(un1+un2))=(ov'+un')*r-(ov1+un1)*r-(ov2+un2)*r:=by grind
  lia
end RG
set_option autoImplicit false
namespace WN
structure Box where
 f:Int
 l:Int
 s:Int
noncomputable def sum(bs:List Box):Int:=(bs.map (·.s)).sum
theorem sum_nil:sum []=0:=rfl
theorem sum_cons(b:Box)(r:List Box):sum (b::r)=b.s+sum r:=by unfold sum;rw[fU,uc]
theorem sum_append(a b:List Box):sum (a++b)=sum a+sum b:=by unfold sum;rw[cM,aeH]
noncomputable def settle(room:Int):Int->Box->List Box->List Box
 |_,b,[]=>[b]
 |S,b,o::os=>if(b.s+o.s)*room<=S then settle room S ⟨o.f,b.l,b.s+o.s⟩ os else b::settle room (S+b.s) o os
theorem Lx(room S:Int)(b:Box):settle room S b []=[b]:=rfl
theorem yK(room S:Int)(b o:Box)(os:List Box):settle room S b (o::os)=if(b.s+o.s)*room<=S then settle room S ⟨o.f,b.l,b.s+o.s⟩ os else b::settle room (S+b.s) o os:=rfl
noncomputable def settled(room:Int):List Box->List Box
 |[]=>[]
 |b::os=>settle room 0 b os
theorem BX(room:Int):∀(os:List Box)(S:Int)(b:Box),(settle room S b os).length<=os.length+1
 |[],S,b=>by rw[Lx];simp
 |o::os,S,b=>by
  rw[yK];split
  ·have:=BX room os S ⟨o.f,b.l,b.s+o.s⟩;simp only[jo];lia
  ·have:=BX room os (S+b.s) o;simp only[jo];lia
theorem Vz(room:Int)(bs:List Box):(settled room bs).length<=bs.length:=by
 cases bs with
 |nil=>exact bG _
 |cons b os=>exact BX room os 0 b
noncomputable def Ly(room:Int):Int->List Box->Prop
 |_,[]=>True
 |_,[_]=>True
 |S,b::o::os=>S<(b.s+o.s)*room/\Ly room (S+b.s) (o::os)
structure Sums(P:Int->Int):Prop where
 zero:∀n,n<=0->P n=0
 mono:∀a b,a<=b->P a<=P b
noncomputable def Chain(P:Int->Int)(edge:Int):Int->List Box->Prop
 |u,[]=>edge<=u->P u=P edge
 |u,b::os=>1<=b.f/\b.f<=b.l/\b.l<=u/\P u=P b.l/\b.s=P b.l-P (b.f-1)/\P (b.f-1)<P b.f/\P (b.l-1)<P b.l/\Chain P edge (b.f-1) os
theorem Chain.pos{P:Int->Int}(hP:Sums P){edge:Int}:∀{bs:List Box}{u:Int},Chain P edge u bs->∀b∈bs,1<=b.s
 |b::os,u,⟨_,h2,_,_,h5,h6,_,r⟩,x,m=>by
  rcases cO.mp m with rfl|m
  ·have:=hP.mono x.f x.l h2;lia
  ·exact Chain.pos hP r x m
theorem Chain.below{P:Int->Int}{edge:Int}:∀{bs:List Box}{u:Int},Chain P edge u bs->∀b∈bs,1<=b.f/\b.f<=b.l/\b.l<=u
 |b::os,u,⟨h1,h2,h3,_,_,_,_,r⟩,x,m=>by
  rcases cO.mp m with rfl|m
  ·exact⟨h1,h2,h3⟩
  ·obtain⟨k1,k2,k3⟩:=Chain.below r x m;exact⟨k1,k2,by lia⟩
theorem Chain.join{P:Int->Int}{edge u:Int}{b o:Box}{os:List Box}(h:Chain P edge u (b::o::os)):Chain P edge u (⟨o.f,b.l,b.s+o.s⟩::os):=by
 obtain⟨h1,h2,h3,h4,h5,h6,h7,k1,k2,k3,k4,k5,k6,k7,r⟩:=h;refine⟨k1,?_,h3,h4,?_,k6,h7,r⟩
 ·show o.f<=b.l;lia
 ·show b.s+o.s=P b.l-P (o.f-1);lia
theorem Chain.settle{P:Int->Int}{edge room:Int}:∀{os:List Box}{S u:Int}{b:Box},Chain P edge u (b::os)->Chain P edge u (settle room S b os)
 |[],S,u,b,h=>h
 |o::os,S,u,b,h=>by
  rw[yK];split
  ·exact Chain.settle h.join
  ·obtain⟨h1,h2,h3,h4,h5,h6,h7,r⟩:=h;exact⟨h1,h2,h3,h4,h5,h6,h7,Chain.settle r⟩
theorem Chain.settled{P:Int->Int}{edge room:Int}{bs:List Box}{u:Int}(h:Chain P edge u bs):Chain P edge u (settled room bs):=by
 cases bs with
 |nil=>exact h
 |cons b os=>exact Chain.settle h
noncomputable def low(e:Int)(bs:List Box):Int:=sum (bs.filter fun b=>decide (e<b.f))
noncomputable def cut(e:Int)(bs:List Box):Int:=sum (bs.filter fun b=>decide (b.f<=e/\e<b.l))
theorem jR{a:Int}(h:0<a)(n:Nat):0<a ^ n:=RL h
theorem grown{room:Int}(hr:1<=room):∀(q:Nat){bs:List Box}{S:Int},1<=S->Ly room S bs->bs.length=2*q->S*(room+1) ^ q<=(S+sum bs)*room ^ q/\(0<q->S*(room+1) ^ q<(S+sum bs)*room ^ q)
 |0,bs,S,h,n,l=>by
  have:bs=[]:=z8.mp tb_g%;subst this;refine⟨?_,fun z=>absurd z (ud _)⟩;rw[sum_nil];simp
 |q+1,bs,S,h,n,l=>by
  match bs,n,l with
  |b::o::os,n,l =>
   have l':os.length=2*q:=by simp only[jo]at l;lia
   obtain⟨n1,n2⟩:=n;have n3:Ly room (S+b.s+o.s) os:=by
    cases os with
    |nil=>trivial
    |cons c cs=>exact n2.2
   have hb:S*(room+1)+1<=(S+b.s+o.s)*room:=by
    rw[YQ,agz,Kz S b.s o.s,vB];lia
   have S0:1<=S+b.s+o.s:=by
    by_cases c:1<=S+b.s+o.s
    ·exact c
    ·have:(S+b.s+o.s)*room<=0:=Int.mul_nonpos_of_nonpos_of_nonneg tb_g% tb_g%;have:0<=S*(room+1):=YJ tb_g% tb_g%;lia
   obtain⟨g1,_⟩:=grown hr q S0 n3 l';have p0:=jR (show(0:Int)<room+1 by lia) q;have p1:=jR (show(0:Int)<room by lia) q;have strict:S*(room+1) ^ (q+1)<(S+sum (b::o::os))*room ^ (q+1):=by
    rw[sum_cons,sum_cons,vA,vA];have e1:S*((room+1) ^ q*(room+1))=S*(room+1)*(room+1) ^ q:=by rw[YL ((room+1) ^ q),Gd]
    have e2:(S+(b.s+(o.s+sum os)))*(room ^ q*room)=(S+b.s+o.s+sum os)*room ^ q*room:=by rw[<-Gd];congr 2;lia
    rw[e1,e2];have k1:(S*(room+1)+1)*(room+1) ^ q<=(S+b.s+o.s)*room*(room+1) ^ q:=Ot hb tb_g%;have k2:(S+b.s+o.s)*(room+1) ^ q*room<=(S+b.s+o.s+sum os)*room ^ q*room:=Ot g1 tb_g%;have e3:(S+b.s+o.s)*room*(room+1) ^ q=(S+b.s+o.s)*(room+1) ^ q*room:=by rw[agt]
    rw[vB,RK]at k1;lia
   exact⟨Int.le_of_lt strict,fun _=>strict⟩
theorem few{room:Int}(hr:1<=room){bs:List Box}(pos:∀b∈bs,1<=b.s)(n:Ly room 0 bs):∀p:Nat,2+2*p<bs.length->(room+1) ^ (p+1)<sum bs*room ^ (p+1):=by
 have shrink:∀(k:Nat){bs:List Box}{S:Int},Ly room S bs->Ly room S (bs.take k):=by
  intro k bs
  induction bs generalizing k with
  |nil=>intro S _;rw[Xg];trivial
  |cons b r ih =>
   intro S h;cases k with
   |zero=>trivial
   |succ k =>
    cases r with
    |nil=>rw[W6,Xg];trivial
    |cons o os =>
     cases k with
     |zero=>rw[W6,aeL];trivial
     |succ k=>exact⟨h.1,ih (k+1) h.2⟩
 have akV:∀(k:Nat){bs:List Box},(∀b∈bs,1<=b.s)->sum (bs.take k)<=sum bs:=by
  intro k bs
  induction bs generalizing k with
  |nil=>intro _;rw[Xg];exact iW _
  |cons b r ih =>
   intro h;cases k with
   |zero =>
    have:∀{l:List Box},(∀b∈l,1<=b.s)->0<=sum l:=fun {l}=>by
     induction l with
     |nil=>intro _;exact iW _
     |cons c cs ih=>intro h;rw[sum_cons];have:=h c dO;have:=ih fun x m=>h x (fX _ m);lia
    rw[aeL];exact this h
   |succ k=>rw[W6,sum_cons,sum_cons];have:=ih k fun x m=>h x (fX _ m);lia
 intro p hl
 match bs,pos,n,hl with
 |b::r,pos,n,hl =>
  have lr:2*(p+1)<=r.length:=by simp only[jo]at hl;lia
  have hb:=pos b dO;have n2:Ly room b.s (r.take (2*(p+1))):=by
   refine shrink _ ?_;cases r with
   |nil=>trivial
   |cons o os=>have:=n.2;rw[pO]at this;exact this
  obtain⟨_,g⟩:=grown hr (p+1) hb n2 (by rw[iw];lia);have g':=g (Nat.succ_pos _);have s1:=akV (2*(p+1)) (bs:=r) fun x m=>pos x (fX _ m);have p0:=jR (show(0:Int)<room+1 by lia) (p+1);have p1:=jR (show(0:Int)<room by lia) (p+1);have k1:1*(room+1) ^ (p+1)<=b.s*(room+1) ^ (p+1):=Ot hb tb_g%;have k2:(b.s+sum (r.take (2*(p+1))))*room ^ (p+1)<=(b.s+sum r)*room ^ (p+1):=Ot tb_g% tb_g%;rw[sum_cons];lia
end WN
namespace L2
open PySem PySem.Spec PyProof.Rows
section
variable{prog:bh}{w:World}{A:bY}{E:Value->Shared->Prop}{s:Shared}
noncomputable def outR(Q E:Value->Shared->Prop)(r:n8)(z:Shared):Prop:=match r with
 | .ok (.ret u)=>Q u z
 | .ok _=>False
 | .error u=>E u z
noncomputable def outF(prog:bh)(w:World)(A:bY)(Q E:Value->Shared->Prop)(f:Fin)(z:Shared):Prop:=match f with
 | .done g=>outR Q E (.ok g) z
 | .again c=>c.quiet=true/\ig (model prog w) A c (outR Q E) z
theorem akW{id:String}{b:eG}{xs:List Value}{kw:List (Str × Value)}{Q:Value->Shared->Prop}(hk:builtinKind id=none)
  (hp:QT id=true) (hb:vp table id=some b) (ha:sH id ⟨xs,kw⟩)
  (hc:wpAny (model prog w) A.in1 (b ⟨xs,kw⟩) (outF prog w A Q E) E s):wpAny (model prog w) A (call (.builtin id) xs kw) Q E s:=by
 refine JT (aeX hp hb ?_);simp only [Xm,hk];have hc2:=fP hc (Q':=fun f z=>match f with
  | .done g=>outR Q E (.ok g) z
  | .again c=>c.quiet=true/\ig (model prog w) A c (outR Q E) z) (fun _ _ h=>h) fun _ _ h=>h
 generalize hsig:Manifest.signature? id=sg at *;cases sg with
 |none=>exact aU hc2
 |some sig =>
  have e:ag3 id sig ⟨xs,kw⟩=pure ():=by
   simp only[sH,hsig]at ha;exact ha
  refine(?_:wpAny _ A.in1 (ag3 id sig ⟨xs,kw⟩) _ _ s);rw[e];exact aU hc2
end
variable{pins:List (Addr × Obj)}{X:Cx}{K:bB}{H:Hp}{w:World}{caps:List Nat}{σ:St}{scope:Scope}{R:n8->Shared->Prop}{N ps:List Str}{xs ys:List V}{E Q:Value->Shared->Prop}{te tb:TE}{mg:Str->Option Value}{a C B D it e:Addr}{ifs elts:List Expr}{A:bY}{ta:TA}{items:Array Value}{x qual y:Str}{suite:List Stmt}{P prog:bh}{tg iter elt l:Expr}{tt:TT}{ns:List Int}{fp ch:List Addr}{g:TG}{b₀ st:Stmt}{n i t':Nat}{outer:List Env}{bmB us:List Value}{f:Int->Int->V}{base:Heap}{fd:FuncData}{th:TS}{newId:String}{cd:Value}{p hpos tpos np:Pos}{wi:TI}{sp:Sp}
noncomputable def bdB(b:Bool)(xs:Array (Int × Tok))(i j:Nat):Bool:=cond b (decide (numAt xs i<numAt xs j)) (decide (numAt xs i>numAt xs j))
theorem ai2(b:Bool):vp table (cond b "min.loop" "max.loop")=some (cond b eG.«min.loop» eG.«max.loop»)/\QT (cond b "min.loop" "max.loop")=true/\(toString (cond b "min" "max")++toString ".loop" : String)=cond b "min.loop" "max.loop" := by
 cases b
 ·exact⟨F.entry_max_loop,F.plain_max_loop,by decide⟩
 ·exact⟨F.entry_min_loop,F.plain_min_loop,by decide⟩
theorem bd_as(b:Bool)(xs:Array (Int × Tok)):builtinKind (cond b "min" "max")=none/\QT (cond b "min" "max")=true/\vp table (cond b "min" "max")=some (cond b eG.«min» eG.«max»)/\CmpOf prog w A (cond b .Lt .Gt) (fun i v=>(Bk xs)[i]? = some v) (bdB b xs):=by
 cases b
 ·exact⟨F.kind_max,F.plain_max,F.entry_max,CmpOf.ints_gt (numAt xs) fun _ _=>Xy⟩
 ·exact⟨F.kind_min,F.plain_min,F.entry_min,CmpOf.ints_lt (numAt xs) fun _ _=>Xy⟩
theorem akX(b:Bool)(a d:Value):sH (cond b "min" "max") ⟨[a],[("default",d)]⟩:=by cases b <;> (unfold sH;kernel_rfl)
section
variable{wr:List Addr}{P:Nat->Value->Prop}{St:Nat->Heap->Prop}
theorem ai3(b:Bool)(W:Walks prog w A.in1 it fp wr n P St)(bt:Nat->Nat->Bool)
  (cm:CmpOf prog w A.in1 (cond b .Lt .Gt) P bt) (S:Addr) (nS:S∉fp) (kw:List (Str × Value)):
  ∀(k j:Nat)(s:Shared)(u:Value)(c:Nat),k+(j+1)=n->St (j+1) s.heap->P (nY bt j) u ->
   s.heap.get? S=some { cls:=.type "list",data:=.seq #[u,u] c } ->
   (∀ v h' tk,P (nY bt (n-1)) v->(∀ b o,b∉wr->b≠S->s.heap.get? b=some o->h'.get? b=some o) ->
    R (.ok (.ret v)) { s with heap:=h',toks:=tk }) ->
   ig (model prog w) A (.builtin (cond b "min.loop" "max.loop") ⟨[.ref it,.none,.ref S],kw⟩) R s:=by
 obtain⟨el,pl,nm⟩:=ai2 b;cases b;all_goals
  dsimp only[cond]at *;have nw:S∉wr:=fun h=>nS (W.sub _ h);intro k
  induction k with
  |zero =>
   intro j s u c e st pu hS post;have ej:j=n-1:=by lia
   have en:j+1=n:=by lia
   rw[ej]at pu;rw[en]at st;refine xq el ?_;rw[Ac pl _];refine aJ (xJ hS rfl ?_);refine aJ (JN (W.done s _ _ st fun h1 tk1 kp=>?_));refine aJ (vg (kp S _ nw hS) rfl (aJ (Ft (aU ?_))));exact post u _ tk1 pu fun b o nb nbS eb=>by
    rw[xY _ _ (aX nbS)];exact kp b o nb eb
  |succ k ih =>
   intro j s u c e st pu hS post;refine xq el ?_;rw[Ac pl _];refine aJ (xJ hS rfl ?_);refine aJ (JN (W.item (j+1) s _ _ tb_g% st fun v h1 tk1 pv st1 kp=>?_));have hS1:=kp S _ nw hS;refine aJ (aU ?_);refine aJ (JN (qN (aJ (cm (j+1) (nY bt j) v u _ _ _ pv pu ?_))));refine aJ (qN (xG (aJ (Ft (aU ?_)))));have ab:nY bt (j+1)=if bt (j+1) (nY bt j)then j+1 else nY bt j:=rfl
   cases hb:bt (j+1) (nY bt j)with
   |true =>
    rw[hb,if_pos rfl]at ab;rw[if_pos rfl];refine aJ (vg hS1 rfl (aJ (Ft ?_)));rw[nm];refine aU ⟨nU pl _,ih (j+1) _ v _ tb_g% (W.frame _ _ _ st1 fun b hb o eb=>?_) (by rw[ab];exact pv) (Aa _ hS1 rfl) fun v2 h2 tk2 p2 k2=>?_⟩
    ·rw[xY _ _ (fun z:S=b=>nS (z ▸ hb))];exact eb
    ·exact post v2 h2 tk2 p2 fun b o nb nbS eb=>k2 b o nb nbS (by
      rw [xY _ _ (aX nbS)];exact kp b o nb eb)
   |false =>
    rw[hb,if_neg (by decide)]at ab;rw[if_neg (by decide)];refine aJ (Ft ?_);rw[nm];refine aU ⟨nU pl _,ih (j+1) _ u c tb_g% st1 (by rw[ab];exact pu) hS1 fun v2 h2 tk2 p2 k2=>?_⟩;exact post v2 h2 tk2 p2 fun b o nb nbS eb=>k2 b o nb nbS (kp b o nb eb)
theorem VB(b:Bool)(W:Walks prog w A.in1 it fp wr n P St)(bt:Nat->Nat->Bool)
  (cm:CmpOf prog w A.in1 (cond b .Lt .Gt) P bt) (S:Addr) (nS:S∉fp) (d:Value) {s:Shared} {c:Nat} (st:St 0 s.heap)
  (hS:s.heap.get? S=some { cls:=.type "list",data:=.seq #[] c })
  (post:∀ v h' tk,(if 0<n then P (nY bt (n-1)) v else v=d)->(∀ b o,b∉wr->b≠S->s.heap.get? b=some o->h'.get? b=some o) ->
   R (.ok (.ret v)) { s with heap:=h',toks:=tk }) :
  ig (model prog w) A (.builtin (cond b "min.loop" "max.loop") ⟨[.ref it,.none,.ref S],[("default",d)]⟩) R s:=by
 obtain⟨el,pl,nm⟩:=ai2 b;have bg:=ai3 (prog:=prog) (w:=w) (A:=A) (R:=R) (it:=it) (fp:=fp) (wr:=wr) (n:=n) (P:=P) (St:=St) b;cases b;all_goals
  dsimp only[cond]at *;have nw:S∉wr:=fun h=>nS (W.sub _ h);refine xq el ?_;rw[Ac pl _];refine aJ (xJ hS rfl ?_);rcases Ke n with e|e
  ·subst e;refine aJ (JN (W.done s _ _ st fun h1 tk1 kp=>?_));refine aJ (xO ?_);exact aU (post d h1 tk1 rfl fun b o nb _ eb=>kp b o nb eb)
  ·refine aJ (JN (W.item 0 s _ _ e st fun v h1 tk1 pv st1 kp=>?_));have hS1:=kp S _ nw hS;refine aJ (aU ?_);refine aJ (vg hS1 rfl ?_);rw[nm];refine aU ⟨nU pl _,bg W bt cm S nS _ (n-1) 0 _ v _ tb_g% (W.frame _ _ _ st1 fun b hb o eb=>?_) pv (Aa _ hS1 rfl) fun v2 h2 tk2 p2 k2=>?_⟩
   ·rw[xY _ _ (fun z:S=b=>nS (z ▸ hb))];exact eb
   ·exact post v2 h2 tk2 (by rw [if_pos (show 0<n from e)];exact p2) fun b o nb nbS eb=>k2 b o nb nbS (by
     rw [xY _ _ (aX nbS)];exact kp b o nb eb)
end
section
variable{s:Shared}{l:Addr}{xs:Array (Int × Tok)}
theorem aam(b:Bool)(d:Value)(hh:A.handled=none)(hl:s.heap.IsList l (Bk xs))
  (post:∀ v h' tk,(if 0<xs.size then (Bk xs)[nY (bdB b xs) (xs.size-1)]? = some v else v=d) ->
   (∀ b o,s.heap.get? b=some o->h'.get? b=some o)->Q v { s with heap:=h',toks:=tk }) :
  wpAny (model prog w) A (call (.builtin (cond b "min" "max")) [.ref l] [("default",d)]) Q E s:=by
 have bf:=fun {R it fp wr n P St}=>VB (prog:=prog) (w:=w) (A:=A) (R:=R) (it:=it) (fp:=fp) (wr:=wr) (n:=n) (P:=P) (St:=St) b;have ar:=akX b (.ref l) d;obtain⟨el,pl,nm⟩:=ai2 b;obtain⟨k0,p0,e0,cm⟩:=bd_as (prog:=prog) (w:=w) (A:=A.in1) b xs;cases b;all_goals
  dsimp only[cond]at *;have sz:(Bk xs).size=xs.size:=by simp[Bk]
  refine akW k0 p0 e0 ar ?_;refine aJ (vo (show anF _ ["key","default"] 0 ⟨[],[("default",d)]⟩=pure [none,some d]from rfl) ?_);refine aJ (aU ?_);refine aJ (iter_intList hl fun s2 e st hfp nlI=>?_);subst e;refine aJ (xH ?_);rw[nm];refine aU ⟨nU pl _,bf (RW (A:=A.in1) hh _ l nlI (Bk xs)) _ cm _ (fun hm=>ud _ (hfp _ hm)) d ?_ (eE _ rfl) fun v h' tk hv kp=>?_⟩
  ·exact(RW (A:=A.in1) (prog:=prog) (w:=w) hh _ l nlI (Bk xs)).frame _ _ _ st fun b _ o e=>dX _ e
  ·rw[sz]at hv;refine post v h' tk hv fun b o e=>kp b o ?_ ?_ (dX _ (dX _ e))
   ·intro hm;have h1:=cZ.mp hm;have h2:=bU e;rw[h1]at h2;exact ud _ h2
   ·have h2:=bU e;rw[qO];exact cH (Cr h2)
end
section
variable{de:Expr}{tl td:TE}{px kp pos:Pos}
noncomputable def Best(lo:Bool)(dv:V)(ns:List Int)(v:V):Prop:=(ns=[]/\v=dv)\/∃m,v=.int m/\m∈ns/\∀z∈ns,if lo then m<=z else z<=m
noncomputable def aoM(K:bB)(lo:Bool)(tl td:TE):TE:=fun σ H Q=>tl σ H fun y H1=>td σ H1 fun dv H2=>∃(a:Addr)(ns:List Int),y=.ref a/\SqL K H2 a (ns.map V.int)/\∀v,Best lo dv ns v->Q v H2
theorem Dp(b:Bool)(hm0:X.mg (cond b "min" "max" : String)=none)(hl:PE X (.Name x px) tl)(hd:PE X de td)(hc:X.calm=true)(hg:Gl X (cond b "min" "max" : String):=by rfl):
  PE X (.Call (.Name (cond b "min" "max" : String) p) [.Name x px] [⟨some "default",de,kp⟩] pos) (aoM X.K b tl td):=by
 have bd:=fun {A s l xs Q}=>aam (prog:=X.prog) (w:=X.w) (A:=A) (E:=X.xe) (s:=s) (l:=l) (xs:=xs) (Q:=Q) b;have hbt:∀ys:Array (Int × Tok),nY (bdB b ys) (ys.size-1)<=ys.size-1/\∀j,j<=ys.size-1->if b then numAt ys (nY (bdB b ys) (ys.size-1))<=numAt ys j else numAt ys j<=numAt ys (nY (bdB b ys) (ys.size-1)):=fun ys=>by
  cases b
  ·exact argBest_gt (numAt ys) (ys.size-1)
  ·exact argBest_lt (numAt ys) (ys.size-1)
 have bo:vh (cond b "min" "max" : String)=some (.builtin (cond b "min" "max")):=by
  cases b
  ·exact boot_max
  ·exact boot_min
 cases b;all_goals
  dsimp only[cond]at *;intro pins s σ H Q I h;refine xr (j7 I hg hm0 bo ?_);refine callWith_kw (Cw (thn (hl pins s σ H _ I h) fun v s1 ⟨y,H1,I1,r1,q1⟩=>?_));refine yq (kws_cons (thn (hd pins s1 σ H1 _ I1 q1) fun d s2 ⟨dv,H2,I2,r2,q2⟩=>kws_nil ?_));obtain⟨a,ns,rfl,ha,q⟩:=q2;obtain rfl:v=Value.ref a:=r1;show wpAny _ _ (call (.builtin _) [.ref a] [(bK "default",d)]) _ _ _;obtain⟨its,rv,pl,hz⟩:=I2.list ha;have hi:=intsAre_of rv;have hl:=pl.isList;obtain⟨ys,ey⟩:=hi.allInts.items;have hns:ns=ys.toList.map (·.1):=by rw[<-hi.numsOf,<-afn,<-ey]
  have hsz:ns.length=ys.size:=by rw[hns,aV,mF]
  rw[ey]at hl;refine bd d (I2.ok.hd hc) hl fun v h' tk hv hk=>?_;rcases Ke ys.size with z|z
  ·rw[if_neg tb_g%]at hv;subst hv;exact⟨dv,H2,I2.kept hk,r2,q _ (.inl ⟨z8.mp tb_g%,rfl⟩)⟩
  ·rw[if_pos z]at hv;obtain⟨t,rfl⟩:=Xy hv;obtain⟨h1,h2⟩:=hbt ys;refine⟨.int _,H2,I2.kept hk,⟨t,rfl⟩,q _ (.inr ⟨_,rfl,?_,fun b hb=>?_⟩)⟩
   ·rw[hns,numAt_eq];exact getD_mem (by rw[aV,mF];lia)
   ·rw[hns]at hb;obtain⟨j,hj,rfl⟩:=mem_getD hb;rw[aV,mF]at hj;rw[<-numAt_eq];exact h2 j tb_g%
end
theorem aan{Q:VK}
  (Pv:Nat->List V->Hp->Prop) (h0:Pv 0 [] (upd H D (.lst [])))
  (hl:∀i ys H,i<=xs.length->Pv i ys H->SqT K H a xs/\H D=some (.lst ys)/\ys.length<sizeLine)
  (hs:∀i ys H x,xs[i]? = some x->Pv i ys H->tt (kj σ (some x) caps) H fun b H2=>if b=true then te (kj σ (some x) caps) H2 fun y H3=>H3 D=some (.lst ys)/\Pv (i+1) (ys++[y]) (upd H3 D (.lst (ys++[y])))else H2 D=some (.lst ys)/\Pv (i+1) ys H2)
  (hd:∀ys H,Pv xs.length ys H->Q (.ref D) H)
  (mT:∀σ H (R R':Bool->Hp->Prop),(∀b H,R b H->R' b H)->tt σ H R->tt σ H R')
  (mE:∀σ H (Q Q':VK),(∀y H,Q y H->Q' y H)->te σ H Q->te σ H Q'):vI (Itt K a) caps tt te σ D Q H:=by
 refine⟨fun i m ys G=>m=xs.length-i/\i<=xs.length/\Pv i ys G,⟨xs.length,rfl,eO _,h0⟩,?_⟩;rintro i m ys G ⟨rfl,hi,p⟩;obtain⟨sq,q,z⟩:=hl i ys G hi p;refine⟨q,?_⟩;rcases jO i xs.length with lt|ge
 ·refine .inr ⟨⟨xs,xs[i],sq,gA lt⟩,z,fun x G' y=>?_⟩;obtain⟨rfl,y⟩:=y;refine mT _ _ _ _ (fun b G2 hb=>?_) (hs i ys _ x (y xs sq) p);cases b with
  |true =>
   rw[if_pos rfl]at hb ⊢;exact mE _ _ _ _ (fun y G3 ⟨a,b⟩=>⟨a,xs.length-(i+1),by lia,rfl,lt,b⟩) hb
  |false =>
   rw[if_neg (by decide)]at hb ⊢;exact⟨hb.1,xs.length-(i+1),by lia,rfl,lt,hb.2⟩
 ·obtain rfl:i=xs.length:=by lia
  exact .inl ⟨⟨xs,sq,bG _⟩,hd ys G p⟩
section
variable{e se:Expr}{lo hi:Option Expr}{tl th ts:TO}{p2 pos:Pos}
noncomputable def Dq{α:Type}(k:Int)(xs:List α)(lo hi:Option Int):List α:=
 (sliceRange (jZ lo hi (some k) xs.length).1 (jZ lo hi (some k) xs.length).2.1 (jZ lo hi (some k) xs.length).2.2).filterMap (xs[·]?)
noncomputable def rSlK(K:bB)(k:Int):V->Option Int->Option Int->Hp->VK->Prop:=fun x lo hi H Q=>∃a xs,x=.ref a/\SqL K H a xs/\∀p,H p=none->Q (.ref p) (upd H p (.lst (Dq k xs lo hi)))
noncomputable def tSl2(K:bB)(te:TE)(tl th ts:TO):TE:=fun σ H Q=>te σ H fun x H1=>tl σ H1 fun l H2=>th σ H2 fun u H3=>ts σ H3 fun t H4=>∃k,t=some k/\k≠0/\rSlK K k x l u H4 Q
theorem akY:∀{xs:List V}{us:List Value},Vals xs us->∀ks:List Nat,Vals (ks.filterMap (xs[·]?)) (ks.filterMap (us[·]?)):=by
 intro xs us r ks
 induction ks with
 |nil=>exact .nil
 |cons k ks ih =>
  rw[Hj,Hj];rcases jO k xs.length with h|h
  ·obtain⟨u,eu,ru⟩:=r.get (gA h);rw[gA h,eu];exact .cons ru ih
  ·rw[wX h,wX (by rw[<-r.length];exact h)];exact ih
theorem ai4{α:Type}(k:Int)(xs:List α)(lo hi:Option Int):(Dq k xs lo hi).length<=xs.length:=by
 have:=slicePick_size_le (Array.replicate xs.length Value.none) lo hi (some k);rw[afS]at this;unfold JW at this;rw[dh,afS]at this;refine eN (Ri ?_) this;unfold Dq;rw[aeh,aeh];apply List.countP_congr;intro k _;simp[Array.getElem?_replicate]
theorem pI(he:PE X e te)(hl:PO X lo tl)(hu:PO X hi th)(hs:PO X (some se) ts):PE X (.Subscript e (.Slice lo hi (some se) p2) pos) (tSl2 X.K te tl th ts):=by
 intro pins s σ H Q I h;refine YB (thn (he pins s σ H _ I h) fun v s1 ⟨x,H1,I1,r1,q1⟩=>?_);refine wpAny_Slice (thn (hl pins s1 σ H1 _ I1 q1) fun vl s2 ⟨l,H2,I2,pl,q2⟩=>thn (hu pins s2 σ H2 _ I2 q2) fun vu s3 ⟨u,H3,I3,pu,q3⟩=>thn (hs pins s3 σ H3 _ I3 q3) fun vs s4 ⟨t,H4,I4,pt,q4⟩=>?_);obtain⟨k,rfl,k0,a,xs,rfl,hx,q⟩:=q4;cases r1;have I5:Inv X pins σ H4 { s4 with heap:=s4.heap.push { cls:=.type "slice",data:=.fields #[vl,vu,vs] } }:=I4.kept (t':=s4.toks) fun b ob q=>dX _ q;obtain⟨its,r,ht,hz⟩:=I5.list hx;have hlen:=r.length;show wpAny (model X.prog X.w) X.A (Rt e (.Slice lo hi (some se) p2) (.ref a) (.ref s4.heap.objs.size)) (EP X pins σ Q) X.xe { s4 with heap:=s4.heap.push { cls:=.type "slice",data:=.fields #[vl,vu,vs] } };refine YC (ops:=[.ref a,.ref s4.heap.objs.size]) ht.isList.typeIs Xj.lookup ?_ (by with_unfolding_all rfl);refine aeT ht.isList (agV ..) pl pu pt (by simpa using k0) ?_ (by rw[dh];lia);have ec:JW its.toArray l u (some k)=(Dq k its l u).toArray:=by
  unfold JW Dq;rw[dh];simp only[WX]
 rw[ec];refine⟨.ref _,_,I5.laid (t':=s4.toks) (o:=.lst (Dq k xs l u)) (fun b ob q=>dX _ q) (bG _) ?_,rfl,q _ (I5.hok.fresh (bG _))⟩;refine⟨eN (ai4 k xs l u) hz,_,0,?_,eE _ rfl⟩;unfold Dq;rw[<-hlen];exact akY r _
end
theorem adG{t:Int}(ht:t=0\/t=1):Dq 2 (ns.map V.int) (some t) (some ((ns.length:Int)-(ns.length:Int) % 2))=(RG.pick (decide (t=1)) ns).map V.int:=by
 have hp:∀(ns:List Int)(o:Bool),RG.pick o ns=(jY (ns.length / 2)).filterMap fun k=>ns[(if o then 1 else 0)+2*k]?:=by
  intro ns o
  fun_induction RG.pick o ns with
  |case1 a b r ih =>
   have e:(a::b::r).length / 2=r.length / 2+1:=by simp only[jo];lia
   have sh:(fun k=>(a::b::r)[(if o=true then 1 else 0)+2*k]?) ∘ Nat.succ=fun k=>r[(if o=true then 1 else 0)+2*k]?:=by
    funext k
    show(a::b::r)[(if o=true then 1 else 0)+2*(k+1)]? = _;rw[show(if o=true then 1 else 0)+2*(k+1)=(if o=true then 1 else 0)+2*k+1+1 by lia,aem,aem]
   rw[ih,e,List.range_succ_eq_map,Hj,aeB,sh];cases o <;> rfl
  |case2 l h =>
   match l,h with
   |[],_=>rfl
   |[x],_=>simp
   |a::b::r,h=>exact absurd rfl (h a b r)
 unfold Dq;rw[hp,aeA];have hn:(ns.map V.int).length=ns.length:=aV _;rw[hn];have b1:(jZ (some t) (some ((ns.length:Int)-(ns.length:Int) % 2)) (some 2) ns.length).1=min t ns.length:=by
  rcases ht with rfl|rfl <;> simp[jZ] <;> lia
 have b2:(jZ (some t) (some ((ns.length:Int)-(ns.length:Int) % 2)) (some 2) ns.length).2.1=(ns.length:Int)-(ns.length:Int) % 2:=by
  simp[jZ];lia
 have b3:(jZ (some t) (some ((ns.length:Int)-(ns.length:Int) % 2)) (some 2) ns.length).2.2=2:=rfl;rw[b1,b2,b3];unfold sliceRange;rw[aeB];have cnt:(if(2:Int)>0 then(if min t ns.length<(ns.length:Int)-(ns.length:Int) % 2 then((ns.length:Int)-(ns.length:Int) % 2-min t ns.length+2-1) / 2 else 0)else(if min t ns.length>(ns.length:Int)-(ns.length:Int) % 2 then(min t ns.length-((ns.length:Int)-(ns.length:Int) % 2)-2-1) / (-2)else 0)).toNat=ns.length / 2:=by
  rw[if_pos (by decide)];split
  ·rcases ht with rfl|rfl <;> lia
  ·rcases ht with rfl|rfl <;> lia
 rw[cnt];have fm:∀(ks:List Nat)(f g:Nat->Option V),(∀k∈ks,f k=g k)->ks.filterMap f=ks.filterMap g:=by
  intro ks f g
  induction ks with
  |nil=>intro _;rfl
  |cons k r ih =>
   intro h;rw[Hj,Hj,h k dO,ih fun j hj=>h j (fX _ hj)]
 refine fm _ _ _ fun k hk=>?_;have hk:=xg.mp hk;show(ns.map V.int)[(min t ns.length+2*(k:Int)).toNat]? = _;have:(min t ns.length+2*(k:Int)).toNat=(if decide (t=1)then 1 else 0)+2*k:=by
  rcases ht with rfl|rfl
  ·simp;lia
  ·simp;lia
 rw[this,gQ]
noncomputable def Itv(K:bB)(a:Addr)(n:Nat):It:=
 ⟨fun i H=>∃xs,SqL K H a xs/\xs.length=n/\i<n,fun i H x H'=>H'=H/\∀xs,SqL K H a xs->xs[n-1-i]? = some x,fun i _=>n<=i⟩
theorem ai5(a it:Addr)(n:Nat):Turn P w K tg (Itv K a n) [it] it (fun i h=>i<=n/\h.IsRevIter it a ((n:Int)-1-i)) where
 mem:=by simp
 obj:=fun i h st b hb=>by
  have e:b=it:=by simpa using hb
  subst e;obtain⟨_,o,e,c,d⟩:=st;exact⟨o,e,fun v z=>by rw[d]at z;cases z⟩
 keep:=fun i h h' st k=>⟨st.1,st.2.at fun o e=>k it (by simp) o e⟩
 item:=by
  intro X hP hw hK hc i pins s σ H E I hf st hg;subst hP hw hK;obtain⟨xs,hq,hn,hi⟩:=hg;obtain⟨its,rv,p,hz⟩:=I.list hq;have hx:xs[n-1-i]? = some (xs[n-1-i]'tb_g%):=gA tb_g%;obtain⟨u,hu,ru⟩:=rv.get hx;obtain⟨f0,f1,f2,f3,f4,f5⟩:=hf it (by simp);have st2:=st.2;rw[show(n:Int)-1-i=((n-1-i:Nat):Int) by lia]at st2;refine wpAny_pyNext_rev_item st2 p.isList (x:=u) (by simpa using hu) fun h' st' sb=>?_;rw[show((n-1-i:Nat):Int)-1=(n:Int)-1-((i+1:Nat):Int) by lia]at st';have I1:Inv X pins σ H { s with heap:=h' }:=I.turned (t':=s.toks) (fun b o hb e=>(sb.2 b hb).trans e) f0 f1 f3 f4 f5;obtain⟨o,e,c,d⟩:=id st';exact⟨u,rfl,Va (s:={ s with heap:=h' }) e c d (by decide) ⟨_,H,I1,ru,⟨rfl,fun ys hy=>by rw[I.U9 hy hq];exact hx⟩,⟨hi,st'⟩,fun b hb=>(hf b hb).1⟩⟩
 done:=by
  intro X hP hw hK hc i pins s σ H E I hf st hg;subst hP hw hK;have hle:n<=i:=hg;have e:i=n:=Nat.le_antisymm st.1 hle;subst e;obtain⟨f0,f1,f2,f3,f4,f5⟩:=hf it (by simp);have st2:=st.2;rw[show(i:Int)-1-i = -1 by lia]at st2;exact wpAny_pyNext_rev_end (I.ok.hd hc) st2 fun h' eb=>⟨rfl,I.turned (t':=s.toks) (fun b o hb e=>eb b o hb e) f0 f1 f3 f4 f5⟩
 self:=fun _ _ _ _ _ st h=>Xh st.2 h
noncomputable def iRev(K:bB)(ta:TA):TI:=fun σ H R=>ta σ H fun vs H1=>∃a xs,vs=[.ref a]/\SqL K H1 a xs/\R (Itv K a xs.length) H1
theorem ai6{a:Expr}{pos:Pos}(hg:Gl X "reversed")(hm:X.mg "reversed" = none)(ha:PA X [a] ta)(hs:cT [a] X.env=[(false,eval a X.env)]:=by rfl):
  PI X tg (.Call (.Name "reversed" p) [a] [] pos) (iRev X.K ta):=by
 intro pins s σ H R I h;refine Call_ (j7 I hg hm agl (Ab (thn (ha pos pins s σ H _ I h) fun us s1 ⟨vs,H1,I1,r1,q1⟩=>?_) hs rfl));obtain⟨l,xs,e,hq,q⟩:=q1;subst e;obtain⟨u,rfl,ru⟩:=vals1 r1;cases ru;obtain⟨its,rv,pl,hz⟩:=I1.list hq;have hlen:=rv.length;refine ae1 pl.isList ?_;have el:((its.toArray.size:Nat):Int)-1=(xs.length:Int)-1-((0:Nat):Int):=by rw[dh];lia
 refine Xh ⟨_,eE _ rfl,rfl,rfl⟩ ⟨_,[s1.heap.objs.size],_,Itv X.K l xs.length,H1,rfl,I1.kept (t':=s1.toks) fun b o e=>dX _ e,ai5 l _ _,⟨eO _,_,eE _ rfl,rfl,by rw[<-el];rfl⟩,fun b hb=>?_,q⟩;have e:b=s1.heap.objs.size:=by simpa using hb
 subst e;exact I1.Zv (bG _) (I1.hok.fresh (bG _))
theorem abp{tb:TS}{D:Ends}(Pv:Nat->St->Hp->Prop)(h0:Pv 0 σ H)(hl:∀i σ H,i<=xs.length->Pv i σ H->SqL K H a xs)
  (hs:∀i x σ H,xs.reverse[i]? = some x->Pv i σ H->g x σ H fun σ2 H2=>tb { D with nx:=Pv (i+1),ct:=Pv (i+1),bk:=D.nx } σ2 H2) (hd:∀σ H,Pv xs.length σ H->D.nx σ H):
  ∃W:Nat->Nat->St->Hp->Prop,(∃m,W 0 m σ H)/\∀i m σ H,W i m σ H ->
   ((Itv K a xs.length).stop i H/\D.nx σ H)\/((Itv K a xs.length).go i H/\∃N:St->Hp->Prop,(∀σ' H',N σ' H'->∃m',m'<m/\W (i+1) m' σ' H')/\∀x H',(Itv K a xs.length).yld i H x H'->g x σ H' fun σ2 H2=>tb { D with nx:=N,ct:=N,bk:=D.nx } σ2 H2):=by
 refine⟨fun i m σ H=>m=xs.length-i/\i<=xs.length/\Pv i σ H,⟨xs.length,by simp,eO _,h0⟩,?_⟩;rintro i m σ H ⟨rfl,hi,p⟩;have q:=hl i σ H hi p;by_cases hlt:i<xs.length
 ·refine .inr ⟨⟨xs,q,rfl,hlt⟩,Pv (i+1),fun σ' H' p'=>⟨xs.length-(i+1),by lia,rfl,hlt,p'⟩,fun x H' y=>?_⟩;obtain⟨rfl,hx⟩:=y;exact hs i x σ H' (by rw[aep hlt];exact hx xs q) p
 ·have e:i=xs.length:=by lia
  subst e;exact .inl ⟨bG _,hd σ H p⟩
theorem aao:xM (.type "list_reverseiterator") "__len__" = pure none:=by rw[Fo,Ey];kernel_rfl
theorem ai7:xM (.type "list_reverseiterator") "__length_hint__" = pure (some (.builtin "list_reverseiterator.__length_hint__")):=by rw[Fo,Ey];kernel_rfl
section
variable{s:Shared}{r l:Addr}
theorem ai8{Q:Bool->Shared->Prop}(ty:s.TypeIs (.ref r) "list_reverseiterator")(h:Q false s):wpAny (model prog w) A (Kv (.ref r)) Q E s:=by
 unfold Kv;refine aJ (Fl ty aao ?_)
 wp_delta
 refine vf (fun q=>absurd q (by decide)) fun _=>?_;refine vf (fun q=>absurd q (by decide)) fun _=>?_;refine aJ (Fl ty ai7 ?_);generalize hid:("list_reverseiterator.__length_hint__" : String)=nm
 wp_delta
 rw[show splitId nm=some ("list_reverseiterator","__length_hint__")from by rw[<-hid];decide +kernel];subst hid;refine aJ (JK (T := "list_reverseiterator") (b:=true) ty (by rw[Qy];kernel_rfl) ?_);refine vf (fun q=>absurd q (by decide)) fun _=>?_;refine vf (fun _=>?_) fun q=>absurd tb_g% q;refine vf (fun q=>absurd q tb_g%) fun _=>?_;exact aU h
noncomputable def Behind(items:Array Value)(i:Nat)(v:Value):Prop:=items[items.size-1-i]? = some v
theorem ai9(hh:A.handled=none)(hr:s.heap.IsRevIter r l ((items.size:Int)-1))(hl:s.heap.IsList l items)(hrl:l≠r)(S:Addr)(n1:S≠r)(n2:S≠l)(res:Value)(c:Nat)
  (hS:s.heap.get? S=some { cls:=.type "list",data:=.seq #[] c }) (hz:items.size<=sizeLine)
  (hR:∀h' tk acc d,(∀b o,b≠S->b≠r->s.heap.get? b=some o->h'.get? b=some o)->h'.get? S=some { cls:=.type "list",dict:=none,data:=.seq acc d,slots:=#[] }->ItemsOf (Behind items) acc items.size->R (.ok (.ret res)) { s with heap:=h',toks:=tk }):
  wpAny (model prog w) A.in1 (Cu (.ref S) (.ref r) res) (fun fin t=>match fin with | .done f=>R (.ok f) t | .again k=>k.quiet=true/\ig (model prog w) A k R t) (fun e t=>R (.error e) t) s:=by
 have W:=Walks.listRev (prog:=prog) (w:=w) (A:=A.in1) hh r l hrl items;have away:S∉[r,l]:=by
  simp only[cO,iM,or_false,not_or];exact⟨n1,n2⟩
 unfold Cu;refine aJ (JR (T := "list_reverseiterator") hr.typeIs ?_);have e1:Oq (.ref S) (.ref r)=false:=by simp[Oq,n1]
 have e2:(Value.type "list_reverseiterator" == Value.type "list")=false:=by decide
 have e3:(Value.type "list_reverseiterator" == Value.type "tuple")=false:=by decide
 simp only[e1,e2,e3,Yl,Yk,if_false];refine aJ (Xh hr ?_);refine aJ (qN (ai8 hr.typeIs ?_));refine vf (fun q=>absurd q (by decide)) fun _=>aU ⟨nU PySem.F.plain_extend_loop _,?_⟩;refine aeY W.toS hz S away res items.size 0 _ #[] c rfl (eO _) ⟨eO _,by simpa using hr,hl⟩ hS (ag5 _) fun t acc d hm hS2 hacc=>?_;rw[Moved.eq_with hm];refine hR t.heap t.toks acc d (fun b o hb hb2 e=>hm.heap b o (fun m=>?_) e) hS2 hacc;rcases cO.mp m with q|q
 ·exact hb q
 ·exact hb2 (cZ.mp q)
theorem aja(hh:A.handled=none)(hr:s.heap.IsRevIter r l ((items.size:Int)-1))(hl:s.heap.IsList l items)(hrl:l≠r)(S:Addr)(n1:S≠r)(n2:S≠l)
  (hS:s.heap.get? S=some { cls:=.type "list",data:=.seq #[] }) (hz:items.size<=sizeLine)
  (hR:∀h' tk acc d,(∀b o,b≠S->b≠r->s.heap.get? b=some o->h'.get? b=some o)->h'.get? S=some { cls:=.type "list",dict:=none,data:=.seq acc d,slots:=#[] }->ItemsOf (Behind items) acc items.size->R (.ok (.ret .none)) { s with heap:=h',toks:=tk }):
  wpAny (model prog w) A.in1 (eG.«list.__init__» ⟨[.ref S,.ref r],[]⟩) (fun fin t=>match fin with | .done f=>R (.ok f) t | .again k=>k.quiet=true/\ig (model prog w) A k R t) (fun e t=>R (.error e) t) s:=by
 show wpAny _ _ (do let was <-Ry (.ref S);agp (.ref S) (fun _=>#[]);letGo was.toList.reverse;Cu (.ref S) (.ref r) .none) _ _ s;refine aJ ?_;unfold Ry;refine aJ (xJ hS rfl (aU ?_));show wpAny _ _ (Fy S (fun _=>#[]) >>= fun _=>letGo (#[]:Array Value).toList.reverse >>= fun _=>Cu (.ref S) (.ref r) Value.none) _ _ s;refine aJ (vg hS rfl ?_);have hS2:=Aa (mG (fun _=>(#[]:Array Value))) hS rfl;have rest:∀b o,b≠S->s.heap.get? b=some o->(s.heap.update S (mG (fun _=>(#[]:Array Value)))).get? b=some o:=fun b o n e=>(xY _ _ (aX n)).trans e;refine aJ (Ft ?_);refine ai9 hh (hr.at fun o e=>rest r o (aX n1) e) (hl.at fun o e=>rest l o (aX n2) e) hrl S n1 n2 .none _ hS2 hz fun h' tk acc d hk hS3 hacc=>?_;exact hR h' tk acc d (fun b o n m e=>hk b o n m (rest b o n e)) hS3 hacc
theorem ajb(hh:A.handled=none)(hr:s.heap.IsRevIter r l ((items.size:Int)-1))(hl:s.heap.IsList l items)(hrl:l≠r)(hz:items.size<=sizeLine)
  (hQ:∀h' tk acc d,(∀b o,b≠r->s.heap.get? b=some o->h'.get? b=some o)->h'.get? s.heap.objs.size=some { cls:=.type "list",dict:=none,data:=.seq acc d,slots:=#[] }->ItemsOf (Behind items) acc items.size->Q (.ref s.heap.objs.size) { s with heap:=h',toks:=tk }):
  wpAny (model prog w) A (call (.type "list") [.ref r]) Q E s:=by
 refine Xp (Q₁:=fun o t=>o=.ref s.heap.objs.size/\t={ s with heap:=s.heap.push { cls:=.type "list",data:=.seq #[] } }) PySem.F.called_list (PySem.F.typeCall_list_1 _) PySem.F.entry_list_init (afo _ ⟨rfl,rfl⟩) fun o t ht=>?_;obtain⟨rfl,rfl⟩:=ht;have hS:(s.heap.push { cls:=.type "list",data:=.seq #[] }).get? s.heap.objs.size=some { cls:=.type "list",data:=.seq #[] }:=eE _ rfl;obtain⟨o1,g1,_⟩:=id hr;obtain⟨o2,g2,_⟩:=id hl;refine⟨⟨_,hS,rfl⟩,PySem.F.args_list_init_2 _ _,aja (A:=A.in1) hh (hr.at fun o e=>dX _ e) (hl.at fun o e=>dX _ e) hrl _ (sI (bU g1)) (sI (bU g2)) hS hz fun h' tk acc d hk hS2 hacc=>?_⟩;exact⟨rfl,hQ h' tk acc d (fun b o n e=>hk b o (cH (bU e)) n (dX _ e)) hS2 hacc⟩
theorem abq:∀{xs:List V}{us:List Value},us.length=xs.length->(∀(j:Nat)(x:V)(u:Value),xs[j]? = some x->us[j]? = some u->RelV x u)->Vals xs us
 |[],[],_,_=>.nil
 |[],_::_,h,_=>by cases h
 |_::_,[],h,_=>by cases h
 |x::xs,u::us,h,k=>.cons (k 0 x u rfl rfl) (abq (by simpa using h) fun j y v hy hv=>k (j+1) y v (by simpa using hy) (by simpa using hv))
end
section
variable{tl:TE}{p' pos pos':Pos}
noncomputable def ajc(K:bB)(ta:TA):TE:=fun σ H Q=>ta σ H fun vs H1=>∃a xs,vs=[.ref a]/\SqL K H1 a xs/\∀q,H1 q=none->Q (.ref q) (upd H1 q (.lst xs.reverse))
theorem aap(hm0:X.mg "list" = none)(hm1:X.mg "reversed" = none)(ha:PA X [l] ta)(hc:X.calm=true)(hg0:Gl X "list" := by rfl)(hg1:Gl X "reversed" := by rfl)
  (he:cT [.Call (.Name "reversed" p') [l] [] pos'] X.env=[(false,eval (.Call (.Name "reversed" p') [l] [] pos') X.env)]:=by rfl) (hs:cT [l] X.env=[(false,eval l X.env)]:=by rfl):
  PE X (.Call (.Name "list" p) [.Call (.Name "reversed" p') [l] [] pos'] [] pos) (ajc X.K ta):=by
 intro pins s σ H Q I h;refine Call_ (j7 I hg0 hm0 boot_list (Ab ?_ he rfl));rw[he];refine Cw (Call_ (j7 I hg1 hm1 agl (Ab (thn (ha pos' pins s σ H _ I h) fun us s1 ⟨vs,H1,I1,r1,q1⟩=>?_) hs rfl)));obtain⟨a,xs,e,hq,q⟩:=q1;subst e;obtain⟨u,rfl,ru⟩:=vals1 r1;cases ru;obtain⟨its,rv,pl,hz⟩:=I1.list hq;have hlen:=rv.length;refine ae1 pl.isList (yq ?_);show wpAny _ _ (call (.type "list") [.ref s1.heap.objs.size]) _ _ _;have hla:a≠s1.heap.objs.size:=by
  obtain⟨o,g,_⟩:=pl.isList;exact cH (bU g)
 refine ajb (items:=its.toArray) (I1.ok.hd hc) ⟨_,eE _ rfl,rfl,rfl⟩ (pl.isList.at fun o e=>dX _ e) hla (by rw[dh];lia) fun h' tk acc d hk hS hacc=>?_;have kp:∀b o,s1.heap.get? b=some o->h'.get? b=some o:=fun b o e=>hk b o (cH (bU e)) (dX _ e);have hsz:(s1.heap.push (revObj a ((its.toArray.size:Int)-1))).objs.size=s1.heap.objs.size+1:=Rv _ _;have rr:Vals xs.reverse acc.toList:=abq (by rw[mF,hacc.1,dh,Ay];lia) fun j x u hx hu=>by
  have hj:j<xs.length:=by
   have:=(gn.mp hx).1
   rwa [Ay]at this
  rw[aep hj]at hx;have hb:Behind its.toArray j u:=hacc.2 j u (by rw[<-qQ];exact hu);unfold Behind at hb;rw[dh,<-hlen]at hb;obtain⟨v,hv,rvv⟩:=rv.get hx;have:u=v:=cN (hb.symm.trans (by simpa using hv));rw[this];exact rvv
 refine⟨.ref _,_,I1.laid (a:=(s1.heap.push (revObj a ((its.toArray.size:Int)-1))).objs.size) (o:=.lst xs.reverse) (t':=tk) kp (by rw[hsz];exact sS _) ?_,rfl,q _ (I1.hok.fresh (by rw[hsz];exact sS _))⟩;exact⟨by rw[Ay];lia,acc.toList,d,rr,by first|(rw[Yn];exact hS)|simpa using hS⟩
end
section
variable{s:Shared}{h':Heap}
theorem Inv.adH{t:Addr}{o:HO}(I:Inv X pins σ H s)(k:∀b u,b∉ch->s.heap.get? b=some u->h'.get? b=some u)(hf:∀b∈ch,yF X pins H b)(ht:s.heap.objs.size<=t)
  (new:dR X.prog X.w (upd H t o) h' t o):Inv X pins σ (upd H t o) { s with heap:=h',toks:=t' }:=by
 have nit:∀b u,H b=some u->b∉ch:=fun b u e z=>by rw[(hf b z).1]at e;cases e
 have ntt:H t=none:=I.hok.fresh ht;have lt:∀b u,s.heap.get? b=some u->b≠t:=fun b u e=>cH (fJ (bU e) ht);refine I.step (g':=s.gens) (d':=s.drawn) (ch:=ch) (fun b hb=>⟨(hf b hb).2.2.2.1,(hf b hb).2.1,(hf b hb).2.2.2.2.1,(hf b hb).2.2.2.2.2⟩) (fun b o _ _ hc e _=>k b o hc e) (fun b o _ _ hc e _=>⟨o.slots,k b o hc e⟩) (fun b u _ e n=>by rw[aB (lt b u e)];exact n)
  (fun b o hc e=>⟨o,k b o hc e⟩) (fun b xs e=>by rw[aB (au e ntt)];exact e) (fun b q u e=>by rw[aB (au e ntt)];exact e) (fun b ps e=>⟨#[],by rw[aB (au e ntt),e];simp⟩) (fun m hm=>?_) (fun b u e=>?_) I.bare
 ·obtain⟨o,es,ep,ho,r⟩:=hm;exact⟨o,es,ep,k _ o (fun z=>(hf _ z).2.1 rfl) ho,r⟩
 ·by_cases hb:b=t
  ·subst hb;rw[ak]at e;cases e;exact new
  ·rw[aB hb]at e;refine(I.hok b u e).stay (fun c v hc q=>k c v ?_ q) (fun c q=>by rw[aB (au q ntt)];exact q) fun c xs q=>by rw[aB (au q ntt)];exact q
   rcases hc with z|z
   ·rw[z];exact nit b u e
   ·exact nit c _ z
theorem Inv.akZ(I:Inv X pins σ H s)(k:∀b u,b∉ch->s.heap.get? b=some u->h'.get? b=some u)(hf:∀b∈ch,yF X pins H b):Inv X pins σ H { s with heap:=h',toks:=t' }:=by
 have nit:∀b u,H b=some u->b∉ch:=fun b u e z=>by rw[(hf b z).1]at e;cases e
 refine I.step (g':=s.gens) (d':=s.drawn) (ch:=ch) (fun b hb=>⟨(hf b hb).2.2.2.1,(hf b hb).2.1,(hf b hb).2.2.2.2.1,(hf b hb).2.2.2.2.2⟩) (fun b o _ _ hc e _=>k b o hc e) (fun b o _ _ hc e _=>⟨o.slots,k b o hc e⟩) (fun b u _ _ n=>n)
  (fun b o hc e=>⟨o,k b o hc e⟩) (fun _ _ e=>e) (fun _ _ _ e=>e) (fun b ps e=>⟨#[],by rw[e];simp⟩) (fun m hm=>?_) (fun b u e=>?_) I.bare
 ·obtain⟨o,es,ep,ho,r⟩:=hm;exact⟨o,es,ep,k _ o (fun z=>(hf _ z).2.1 rfl) ho,r⟩
 ·refine(I.hok b u e).stay (fun c v hc q=>k c v ?_ q) (fun _ q=>q) fun _ _ q=>q;rcases hc with z|z
  ·rw[z];exact nit b u e
  ·exact nit c _ z
end
noncomputable def Itz(a b:Addr):It:=
 ⟨fun i H=>∃ xs ys,H a=some (.lst xs)/\H b=some (.lst ys)/\i<xs.length/\i<ys.length,
  fun i H x H'=>∃t u v xs ys,H a=some (.lst xs)/\H b=some (.lst ys)/\xs[i]? = some u/\ys[i]? = some v/\H t=none/\x=.ref t/\H'=upd H t (.tup [u,v]),
  fun i H=>∃ xs ys,H a=some (.lst xs)/\H b=some (.lst ys)/\(xs.length<=i\/ys.length<=i)⟩
theorem ama{c z TI TO i1 i2:Addr}(h:c∈[z,TO,i1,i2]):c∈[z,TI,TO,i1,i2]:=by
 simp only[cO,iM,or_false]at h ⊢;rcases h with h|h|h|h <;> simp[h]
structure Z5(z TI TO i1 i2:Addr):Prop where
 a:TI≠z
 b:TO≠z
 c:i1≠z
 d:i2≠z
 e:TI≠TO
 f:TI≠i1
 g:TI≠i2
 h:TO≠i1
 i:TO≠i2
 j:i1≠i2
theorem Z5.apart{z TI TO i1 i2 b:Addr}(k:Z5 z TI TO i1 i2)(ha:H a=some (.lst xs))(hb:H b=some (.lst ys))(f:∀c∈[z,TI,TO,i1,i2],H c=none):X3 z TI TO i1 i2 a b:=
 ⟨k.a,k.b,k.c,k.d,k.e,k.f,k.g,k.h,k.i,k.j,au ha (f z (by simp)),au ha (f TO (by simp)),au ha (f i1 (by simp)),au ha (f i2 (by simp)),au hb (f z (by simp)),au hb (f TO (by simp)),au hb (f i1 (by simp)),au hb (f i2 (by simp))⟩
theorem amb(n:Nat):Z5 (n+4) (n+2) (n+3) n (n+1):=
 ⟨(show ¬ (n+2:Nat)=n+4 by lia),(show ¬ (n+3:Nat)=n+4 by lia),(show ¬ (n:Nat)=n+4 by lia),(show ¬ (n+1:Nat)=n+4 by lia),(show ¬ (n+2:Nat)=n+3 by lia),(show ¬ (n+2:Nat)=n by lia),(show ¬ (n+2:Nat)=n+1 by lia),(show ¬ (n+3:Nat)=n by lia),(show ¬ (n+3:Nat)=n+1 by lia),(show ¬ (n:Nat)=n+1 by lia)⟩
theorem ajd{x1}(a b z TI TO i1 i2:Addr)(k5:Z5 z TI TO i1 i2):
  Turn P w K (.Tuple elts x1 tpos) (Itz a b) [z,TI,TO,i1,i2] z (fun i h=>IsZip h z TI TO .none/\QX h TI (.ref i1) (.ref i2)/\(∃u v,QX h TO u v)/\h.IsListIter i1 a i/\h.IsListIter i2 b i) where
 mem:=by simp
 obj:=fun i h st c hc=>by
  obtain⟨hz,hTI,⟨u,v,hTO⟩,⟨o1,h1,_,d1⟩,⟨o2,h2,_,d2⟩⟩:=st;simp only[cO,iM,or_false]at hc;rcases hc with rfl|rfl|rfl|rfl|rfl
  ·exact⟨_,hz,fun v z=>by cases z⟩
  ·exact⟨_,hTI,fun v z=>by cases z⟩
  ·exact⟨_,hTO,fun v z=>by cases z⟩
  ·exact⟨_,h1,fun v z=>by rw[d1]at z;cases z⟩
  ·exact⟨_,h2,fun v z=>by rw[d2]at z;cases z⟩
 keep:=fun i h h' st k=>by
  obtain⟨hz,hTI,⟨u,v,hTO⟩,⟨o1,h1,r1⟩,⟨o2,h2,r2⟩⟩:=st;exact⟨k z (by simp) _ hz,k TI (by simp) _ hTI,⟨u,v,k TO (by simp) _ hTO⟩,⟨o1,k i1 (by simp) _ h1,r1⟩,⟨o2,k i2 (by simp) _ h2,r2⟩⟩
 item:=by
  intro X hP hw hK hc i pins s σ H E I hf st hg;subst hP hw hK;obtain⟨hz,hTI,⟨pa,pb,hTO⟩,h1,h2⟩:=st;obtain⟨xs,ys,ea,eb,li,lj⟩:=hg;obtain⟨_,us,n,rv,_,gl⟩:=I.Ij ea;obtain⟨_,vs,m,rw',_,gr⟩:=I.Ij eb;have ex:xs[i]? = some xs[i]:=gA li;have ey:ys[i]? = some ys[i]:=gA lj;obtain⟨u,hu,ru⟩:=rv.get ex;obtain⟨v,hv,rv'⟩:=rw'.get ey;have D:=k5.apart ea eb fun c hc=>(hf c hc).1;refine wpAny_pyNext_zip_item D hz hTI hTO h1 h2 ⟨_,gl,rfl,n,rfl⟩ ⟨_,gr,rfl,m,rfl⟩ (by simpa using hu) (by simpa using hv) fun h' a1 a2 a3 a4 a5 a6 hk=>?_;have nt:H s.heap.objs.size=none:=I.hok.fresh (bG _);have hf4:∀c∈[z,TO,i1,i2],yF X pins H c:=fun c hc=>hf c (ama hc);have I1:Inv X pins σ (upd H s.heap.objs.size (.tup [xs[i],ys[i]])) { s with heap:=h' }:=I.adH (t':=s.toks) (ch:=[z,TO,i1,i2])
   (fun c o hc e=>hk c o (fun q=>hc (by simp[q])) (fun q=>hc (by simp[q])) (fun q=>hc (by simp[q])) (fun q=>hc (by simp[q])) e) hf4 (bG _)
   ⟨by show 2<=sizeLine;decide,[u,v],.cons ru (.cons rv' .nil),⟨_,a5,rfl,_,rfl⟩⟩
  have lts:∀c∈[z,TI,TO,i1,i2],c≠s.heap.objs.size:=fun c hc=>by
   have:∃o,s.heap.get? c=some o:=by
    obtain⟨o1,g1,_⟩:=h1;obtain⟨o2,g2,_⟩:=h2;simp only[cO,iM,or_false]at hc;rcases hc with rfl|rfl|rfl|rfl|rfl
    ·exact⟨_,hz⟩
    ·exact⟨_,hTI⟩
    ·exact⟨_,hTO⟩
    ·exact⟨_,g1⟩
    ·exact⟨_,g2⟩
   obtain⟨o,e⟩:=this;exact cH (bU e)
  have fr1:∀c∈[z,TI,TO,i1,i2],(upd H s.heap.objs.size (.tup [xs[i],ys[i]])) c=none:=fun c hc=>by rw[aB (lts c hc)];exact(hf c hc).1
  refine⟨.ref s.heap.objs.size,rfl,wpAny_letOwnedTupleGo_zip a1 fun h2' hz' hs'=>?_⟩;obtain⟨f0,f1,f2,f3,f4,f5⟩:=hf z (by simp);refine⟨.ref s.heap.objs.size,_,I1.turned (t':=s.toks) (fun c ob hb q=>(hs'.2 c hb).trans q) (fr1 z (by simp)) f1 f3 f4 f5,rfl,⟨_,_,_,xs,ys,ea,eb,ex,ey,nt,rfl,rfl⟩,⟨hz',?_,⟨u,v,?_⟩,?_,?_⟩,fr1⟩
  ·exact(hs'.2 TI k5.a).trans (hk TI _ k5.a k5.e k5.f k5.g hTI)
  ·exact(hs'.2 TO k5.b).trans a2
  ·obtain⟨o,e,r⟩:=a3;exact⟨o,(hs'.2 i1 k5.c).trans e,r⟩
  ·obtain⟨o,e,r⟩:=a4;exact⟨o,(hs'.2 i2 k5.d).trans e,r⟩
 done:=by
  intro X hP hw hK hc i pins s σ H E I hf st hg;subst hP hw hK;obtain⟨hz,hTI,⟨pa,pb,hTO⟩,h1,h2⟩:=st;obtain⟨xs,ys,ea,eb,le⟩:=hg;obtain⟨_,us,n,rv,el,gl⟩:=I.Ij ea;obtain⟨_,vs,m,rw',er,gr⟩:=I.Ij eb;have D:=k5.apart ea eb fun c hc=>(hf c hc).1;have hend:us.toArray[i]? = none\/vs.toArray[i]? = none:=by
   rcases le with z|z
   ·exact .inl (afQ (by rw[dh,<-el];exact z))
   ·exact .inr (afQ (by rw[dh,<-er];exact z))
  refine aeZ (I.ok.hd hc) D hz hTI hTO h1 h2 ⟨_,gl,rfl,n,rfl⟩ ⟨_,gr,rfl,m,rfl⟩ hend fun h' hk=>⟨rfl,?_⟩;exact I.akZ (t':=s.toks) (ch:=[z,TO,i1,i2]) (fun c o hc e=>hk c o (fun q=>hc (by simp[q])) (fun q=>hc (by simp[q])) (fun q=>hc (by simp[q])) (fun q=>hc (by simp[q])) e)
   (fun c hc=>hf c (ama hc))
 self:=fun A i s Q E st h=>Qu st.1 h
noncomputable def iZip(ta:TA):TI:=fun σ H R=>ta σ H fun vs H1=>∃a b xs ys,vs=[.ref a,.ref b]/\H1 a=some (.lst xs)/\H1 b=some (.lst ys)/\R (Itz a b) H1
theorem aaq{a b:Expr}{x1}{pos:Pos}(hg:Gl X "zip")(hm:X.mg "zip" = none)(ha:PA X [a,b] ta)(hs:cT [a,b] X.env=[(false,eval a X.env),(false,eval b X.env)]:=by rfl)
  (hs2:cT [b] X.env=[(false,eval b X.env)]:=by rfl):PI X (.Tuple elts x1 tpos) (.Call (.Name "zip" p) [a,b] [] pos) (iZip ta):=by
 intro pins s σ H R I h;refine Call_ (j7 I hg hm YD (Ab (thn (ha pos pins s σ H _ I h) fun us s1 ⟨vs,H1,I1,r1,q1⟩=>?_) (by rw[hs,hs2]) (by rw[hs2];rfl)));obtain⟨l1,l2,xs,ys,e,e1,e2,q⟩:=q1;subst e;cases r1 with
 |cons r rr =>
  cases rr with
  |cons r' rr =>
   cases rr;cases r;cases r';obtain ⟨_,us,n,rv,_,gl⟩:=I1.Ij e1;obtain ⟨_,vs,m,rw',_,gr⟩:=I1.Ij e2;refine call_zip_2 (xs:=us.toArray) (ys:=vs.toArray) ⟨_,gl,rfl,n,rfl⟩ ⟨_,gr,rfl,m,rfl⟩ fun h' z1 z2 z3 z4 z5 z6 hk=>?_;refine Qu z1 ⟨_,[s1.heap.objs.size+4,s1.heap.objs.size+2,s1.heap.objs.size+3,s1.heap.objs.size,s1.heap.objs.size+1],_,Itz l1 l2,H1,rfl,I1.kept (t':=s1.toks) hk,
    ajd l1 l2 (s1.heap.objs.size+4) (s1.heap.objs.size+2) (s1.heap.objs.size+3) s1.heap.objs.size (s1.heap.objs.size+1) (amb _),⟨z1,z2,⟨_,_,z3⟩,z4,z5⟩,fun c hc=>?_,q⟩
   have hle:s1.heap.objs.size<=c:=by
    simp only[cO,iM,or_false]at hc;rcases hc with rfl|rfl|rfl|rfl|rfl <;> lia
   exact I1.Zv hle (I1.hok.fresh hle)
noncomputable def o9(σ:St)(zs:List (Option V))(caps:List Nat):St:=zs++caps.map fun j=>(σ[j]?).join
noncomputable def Lz(J:It)(g:TG)(k:Nat)(caps:List Nat)(tt:TT)(te:TE)(σ:St)(D:Addr)(Q:VK)(H1:Hp):Prop:=∃W:Nat->Nat->List V->Hp->Prop,(∃m,W 0 m [] (upd H1 D (.lst [])))/\∀i m ys H,W i m ys H ->
 H D=some (.lst ys)/\((J.stop i H/\Q (.ref D) H)\/(J.go i H/\ys.length<sizeLine/\∀ x H',J.yld i H x H'->∀ zs:List (Option V),zs.length=k->g x (o9 σ zs caps) H' fun σ2 H2=>(∃ zs':List (Option V),zs'.length=k/\σ2=o9 σ zs' caps)/\tt σ2 H2 fun b H3=>if b=true then
  te σ2 H3 fun y H4=>H4 D=some (.lst ys)/\∃m',m'<m/\W (i+1) m' (ys++[y]) (upd H4 D (.lst (ys++[y])))
  else H3 D=some (.lst ys)/\∃ m',m'<m/\W (i+1) m' ys H3))
noncomputable def aje(wi:TI)(g:TG)(k:Nat)(caps:List Nat)(tt:TT)(te:TE):TE:=fun σ H Q=>wi σ H fun J H1=>∀D,H1 D=none->Lz J g k caps tt te σ D Q H1
section
variable{s:Shared}
theorem Inv.compT{k:Nat}{cl:List (Str × Addr)}{h4:Heap}{tk:Nat}(I:Inv X pins σ H s)(hkind:scope.kind=.function)(hsub:Io X.env.cells cl)
  (hhas:∀y,((gH scope X.env).names.lookup y=some .cell\/(gH scope X.env).names.lookup y=some .free)->∃c,cl.lookup y=some c) (hf:∀b∈fp,yF X pins H b) (hfo:∀b∈fp,∃o,s.heap.get? b=some o)
  (hlen:N.length=k+caps.length) (hcap:∀(i:Nat)(j:Nat),caps[i]? = some j->Aj X N scope cl (i+k) j) (hD:s.heap.objs.size<=D) (hC:s.heap.objs.size<=C) (hDC:C≠D)
  (hk:∀b o,s.heap.get? b=some o->h4.get? b=some o) (hlist:∃n,h4.get? D=some { cls:=.type "list",data:=.seq #[] n }) (hns:∃m,h4.Ns C m):
  Inv (dw X N scope cl s H fp C) (X.pn++pins) (o9 σ (vd k none) caps) (upd H D (.lst [])) { s with heap:=h4,toks:=tk }:=by
 have hnD:H D=none:=I.hok.fresh hD;have hnC:H C=none:=I.hok.fresh hC;have lt:∀b o,s.heap.get? b=some o->b≠D/\b≠C:=fun b o e=>⟨cH (fJ (bU e) hD),cH (fJ (bU e) hC)⟩;have nst:∀b,b≠X.env.locals->b∉X.fs->b∉frs X.stack:=fun b h1 h2 z=>by
  rcases cO.mp (I.yw b z)with e|e
  ·exact h1 e
  ·exact h2 e
 refine ⟨⟨I.ok.mod,hkind,I.ok.glob,I.ok.blt,hC,fun x y c h1 h2=>I.ok.inj x y c (hsub.of h1) (hsub.of h2),fun y hy=>hhas y hy,fun y c h=>(nomatch h),I.ok.hd,I.ok.frames,.inl rfl,fun b hb=>?_,I.bs,eN I.ok.bsz I.sz,fun b o e hb=>?_,fun b hb=>?_,I.stack,I.zN⟩,
  rfl,I.bare,Un.laid hk hD hnD,?_,fun y c e=>?_,?_,fun y c e=>?_,fun p hp=>?_,?_,?_⟩
 ·obtain⟨o,e⟩:=hfo b hb;exact⟨(lt b o e).2,fun x c q=>(hf b hb).2.2.2.2.1 x c (hsub.of q)⟩
 ·rcases(hf b hb).2.2.2.1 with z|z
  ·exact I.ok.U7 b o e z
  ·exact absurd (fJ (bU e) I.ok.bsz) (Yh.mpr z)
 ·exact nst b (hf b hb).2.1 (hf b hb).2.2.1
 ·obtain⟨m,hm⟩:=hns;obtain⟨m0,_,hl⟩:=I.loc;refine⟨m,hm,fun i y v h1 h2 h3=>?_⟩;have h2a:(vd k (none:Option V)++caps.map fun j=>(σ[j]?).join)[i]? = some (some v):=h2;by_cases hik:i<k
  ·rw[Jx (by rw[Ju];exact hik),aej,if_pos hik]at h2a;cases h2a
  ·rw[Jw (by rw[Ju];lia),Ju]at h2a;obtain⟨i',rfl⟩:∃i',i=i'+k:=⟨i-k,by lia⟩;rw[Nat.add_sub_cancel]at h2a;have h2':=h2a;rw[gQ]at h2';cases ec:caps[i']? with
   |none=>rw[ec]at h2';cases h2'
   |some j =>
    rw[ec]at h2';have S9:(σ[j]?).join=some v:=cN h2';have e2:σ[j]? = some (some v):=by
     cases q:σ[j]? with
     |none=>rw[q]at S9;cases S9
     |some z=>rw[q]at S9;exact congrArg some S9
    obtain⟨y',c,n1,n2,k1,k2,lc⟩:=(hcap i' j ec).ok;have ey:y=y':=by
     have h1':N[i'+k]? = some y:=h1;rw[n1]at h1';exact(cN h1').symm
    subst ey;have vis:Vis X.env.scope y:=k1.elim (fun z=>.inr (.inl z)) fun z=>.inr (.inr z);obtain⟨u,ru,lk⟩:=hl j y v n2 e2 vis;refine⟨u,ru,.inr ⟨k2,c,lc,?_⟩⟩;rcases lk with⟨z,_⟩|⟨_,c',lc',ic⟩
    ·rcases k1 with k1|k1 <;> (rw[z]at k1;cases k1)
    ·rw[hsub.of lc]at lc';cases lc';obtain⟨o,ho,hd⟩:=ic;exact⟨o,hk c o ho,hd⟩
 ·obtain⟨v,o,ho,hd⟩:=I.cell y c (hsub.of e);exact⟨v,o,hk c o ho,hd⟩
 ·show(upd H D (.lst [])) C=none;rw[aB hDC];exact hnC
 ·have n:=I.pR y c (hsub.of e);obtain⟨v,o,ho,hd⟩:=I.cell y c (hsub.of e);rw[aB (lt c o ho).1];exact n
 ·have hp':p∈X.pn++pins:=hp;obtain⟨e,n,ne,nf,d⟩:=I.pin p hp';exact⟨hk _ _ e,by rw[aB (lt _ _ e).1];exact n,(lt _ _ e).2,nst _ ne nf,d⟩
 ·obtain⟨n,e⟩:=hlist;exact I.hok.laid hk hD ⟨eO _,[],n,.nil,e⟩
 ·show(o9 σ (vd k none) caps).length=N.length;unfold o9;rw[fj,Ju,aV,hlen]
end
section
variable{B:bY}{s:Shared}
noncomputable def ajf(P:bh)(w:World)(B:bY)(R:n8->Shared->Prop)(elt tg:Expr)(ifs:List Expr)(it acc:Value)(en:Env)(J:Nat->Shared->Prop)(n:Nat):Option Value->Shared->Prop
 |none,t1=>R (.ok .next) t1
 |some v,t1 =>
  let X:=notedBy (model P w) B en fun e t=>R (.error e) t
  wpAny (model P w) B (JM tg it v) (fun _ t2=>wpAny (model P w) B (lA tg en v) (fun _ t3 =>
   wpAny (model P w) B (forIn ifs true fun c r=>if r=true then do let yes <- J0 c en (eval c en);pure (ForInStep.yield yes) else pure (ForInStep.yield r)) (fun yes t4 =>
    if yes=true then wpAny (model P w) B (eval elt en) (fun x t5=>wpAny (model P w) B (call (.builtin "list.append") [acc,x]) (fun _ t6=>∃m,m<n/\J m t6) X t5) X t4
    else ∃ m,m<n/\J m t4) X t3) X t2) X t1
theorem aar{pos:Pos}{it acc:Value}{en:Env}(J:Nat->Shared->Prop)
  (owe:∀n t,J n t->wpAny (model P w) B (jk it) (ajf P w B R elt tg ifs it acc en J n) (notedBy (model P w) B en fun e t'=>R (.error e) t') t) (n:Nat) (h:J n s):
  ig (model P w) B (.compLoop (.ListComp elt [⟨tg,iter,ifs,0⟩] scope pos) 0 it acc en) R s:=by
 have same:∀{X:Value->Shared->Prop}(a:Value)(b:Shared),X a b->X a b:=fun _ _ h=>h;refine codeAny_loop rfl J (fun n t hJ=>?_) n h;show wpAny _ B ((compTurn (.ListComp elt [⟨tg,iter,ifs,0⟩] scope pos) 0 it acc en).onRaise (fun x=>do noteFrame x en;theTreesLotGoes x)) _ _ t;refine wpAny_noted ?_;rw[compTurn_list];refine aJ (QB (aJ (fP (owe n t hJ) (fun r t1 h1=>?_) same)));cases r with
 |none=>exact aU h1
 |some v =>
  refine aJ (fP h1 (fun _ t2 h2=>aJ (fP h2 (fun _ t3 h3=>aJ (fP h3 (fun yes t4 h4=>?_) same)) same)) same);cases yes with
  |false=>exact aU ⟨rfl,h4⟩
  |true=>exact aJ (aJ (fP h4 (fun x t5 h5=>aJ (fP h5 (fun _ t6 h6=>aU (aU ⟨rfl,h6⟩)) same)) same))
end
theorem Hv{k:Nat}{pos:Pos}{cl:List (Str × Addr)}{H2:Hp}{s2:Shared}{Q:VK}{tn:Nat->Heap->Prop}{J:It}
  {RR:Value->Addr->n8->Shared->Prop} {E:Value->Shared->Prop} (hc:X.calm=true)
  (hcell:∀y∈scope.names,y.2≠.cell) (hkind:scope.kind=.function) (hsub:Io X.env.cells cl)
  (hhas:∀y,((gH scope X.env).names.lookup y=some .cell\/(gH scope X.env).names.lookup y=some .free)->∃c,cl.lookup y=some c)
  (hg:∀s H fp C,PG (dw X N scope cl s H fp C) tg g) (hlen:N.length=k+caps.length) (hcap:∀(i:Nat)(j:Nat),caps[i]? = some j->Aj X N scope cl (i+k) j)
  (ht:∀s H fp C,PTs (dw X N scope cl s H fp C) ifs tt) (he:∀s H fp C,PE (dw X N scope cl s H fp C) elt te)
  (I2:Inv X pins σ H2 s2) (T:Turn X.prog X.w X.K tg J fp it tn) (st2:tn 0 s2.heap) (f2:∀b∈fp,yF X pins H2 b) (w2:∀D,H2 D=none->Lz J g k caps tt te σ D Q H2)
  (hRR:∀D C σ' H' s5,s2.heap.objs.size<=C->Inv (dw X N scope cl s2 H2 fp C) (X.pn++pins) σ' H' s5->Q (.ref D) H'->RR (.ref D) C (.ok .next) s5):
  wpAny (model X.prog X.w) X.A (JZ []) (fun acc s₃=>wpAny (model X.prog X.w) X.A (afb scope X.env.globals cl [] X.env.qual none .none (some X.env)) (fun cenv s₄ =>
   ig (model X.prog X.w) X.A (.compStart (.ListComp elt [⟨tg,iter,ifs,0⟩] scope pos) 0 (.ref it) acc { cenv with scope:=gH scope X.env }) (RR acc cenv.locals) s₄) E s₃) E s2:=by
 refine xH (aeW hcell (by intro y hy;simp at hy) (fun h₁ hns₁ hsb₁=>?_) hkind);dsimp only at hns₁ hsb₁ ⊢;generalize hH2:s2.heap.push { cls:=.type "list",dict:=none,data:=.seq ([]:List Value).toArray }=G2 at hns₁ hsb₁ ⊢;have hC:G2.objs.size=s2.heap.objs.size+1:=by rw[<-hH2,qO]
 have hCle:s2.heap.objs.size<=G2.objs.size:=by rw[hC];exact sS _
 have hDC:G2.objs.size≠s2.heap.objs.size:=by rw[hC];exact sI (yc _)
 have old:∀b o,s2.heap.get? b=some o->h₁.get? b=some o:=fun b o e =>
  hsb₁.extBut b o (by rw[hC];exact cH (Cr (bU e))) (dX _ (hH2 ▸ dX _ e))
 have hacc:∃n,h₁.get? s2.heap.objs.size=some { cls:=.type "list",data:=.seq #[] n }:=⟨_,hsb₁.extBut _ _ (aX hDC) (dX _ (hH2 ▸ eE _ rfl))⟩;have hnD:H2 s2.heap.objs.size=none:=I2.hok.fresh (bG _);obtain⟨W,⟨m0,w0⟩,turn⟩:=w2 s2.heap.objs.size hnD;have fo:∀b∈fp,∃o,s2.heap.get? b=some o:=fun b hb=>by
  obtain⟨o,e,_⟩:=T.obj _ _ st2 b hb;exact⟨o,e⟩
 have I3:Inv (dw X N scope cl s2 H2 fp G2.objs.size) (X.pn++pins) (o9 σ (vd k none) caps) (upd H2 s2.heap.objs.size (.lst [])) { s2 with heap:=h₁,toks:=s2.toks+([]:List (Str × Value)).length }:=
  I2.compT hkind hsub hhas f2 fo hlen hcap (bG _) hCle hDC old hacc ⟨_,hns₁⟩
 have st3:tn 0 h₁:=T.keep _ _ _ st2 fun b _ o e=>old b o e;have nf:∀b∈fp,b≠s2.heap.objs.size:=fun b hb=>by
  obtain⟨o,e⟩:=fo b hb;exact cH (bU e)
 have stat:∀{H':Hp},(∀b∈fp,H' b=none)->∀b∈fp,yF (dw X N scope cl s2 H2 fp G2.objs.size) (X.pn++pins) H' b:=fun {H'} hn b hb=>by
  obtain⟨f0,f1,f2',f3,f4,f5⟩:=f2 b hb;obtain⟨o,e⟩:=fo b hb;refine⟨hn b hb,cH (fJ (bU e) hCle),fun z=>?_,.inl hb,fun y c q=>f4 y c (hsub.of q),fun p hp=>f5 p hp⟩;rcases cO.mp (I2.yw b z)with q|q
  ·exact f1 q
  ·exact f2' q
 have loop:ig (model X.prog X.w) X.A (.compLoop (.ListComp elt [⟨tg,iter,ifs,0⟩] scope pos) 0 (.ref it) (.ref s2.heap.objs.size) (QL scope cl G2.objs.size X.env))
   (RR (.ref s2.heap.objs.size) G2.objs.size) { s2 with heap:=h₁,toks:=s2.toks+([]:List (Str × Value)).length }:=by
  refine aar (fun n s'=>∃i ys σ' H',Inv (dw X N scope cl s2 H2 fp G2.objs.size) (X.pn++pins) σ' H' s'/\(∃zs:List (Option V),zs.length=k/\σ'=o9 σ zs caps)/\tn i s'.heap/\(∀b∈fp,H' b=none)/\W i n ys H') ?_ m0
   ⟨0,[],_,_,I3,⟨_,Ju,rfl⟩,st3,fun b hb=>by rw[aB (nf b hb)];exact(f2 b hb).1,w0⟩
  rintro n s' ⟨i,ys,σ',H',I',⟨zs,hzs,rfl⟩,st',fr',w'⟩;obtain⟨hl,ends⟩:=turn i n ys H' w';rcases ends with⟨stop,q⟩|⟨go,hsz,step⟩
  ·refine fP (T.done (dw X N scope cl s2 H2 fp G2.objs.size) rfl rfl rfl hc i _ s' _ H' (fun _ _=>False) I' (stat fr') st' stop) (fun r s5 ⟨hr,I5⟩=>?_) fun _ _ f=>f.elim;subst hr;exact hRR _ _ _ _ _ hCle I5 q
  ·refine fP (T.item (dw X N scope cl s2 H2 fp G2.objs.size) rfl rfl rfl hc i _ s' _ H' (fun _ _=>False) I' (stat fr') st' go) (fun r s5 ⟨u,hr,h5⟩=>?_) fun _ _ f=>f.elim;subst hr;refine fP h5 (fun _ s6 ⟨y,H6,I6,r6,y6,st6,fr6⟩=>?_) fun _ _ f=>f.elim;have I6':=I6.pinned (stat fr6) (T.obj _ _ st6);have again:∀{σ7:St}{H7:Hp}{s7:Shared},Inv (dw X N scope cl s2 H2 fp G2.objs.size) ((X.pn++pins)++Gp fp s6.heap) σ7 H7 s7->tn (i+1) s7.heap/\∀b∈fp,H7 b=none:=fun {σ7 H7 s7} I7=>by
    refine⟨T.keep _ _ _ st6 fun b hb o e=>(I7.pin (b,o) (mj _ (mj _ (mQ hb e)))).1,fun b hb=>?_⟩;obtain⟨o,e,d⟩:=T.obj _ _ st6 b hb;exact(I7.pin (b,o) (mj _ (mj _ (mQ hb e)))).2.1
   refine fP (hg s2 H2 fp G2.objs.size _ s6 _ H6 y u _ I6' r6 (step y H6 y6 zs hzs)) (fun _ s7 ⟨σ7,H7,I7,⟨zs7,hz7,e7⟩,q7⟩=>?_) fun _ _ f=>f.elim;subst e7;refine fP (ht s2 H2 fp G2.objs.size _ s7 _ _ _ I7 q7) (fun ok s8 ⟨H8,I8,q8⟩=>?_) fun _ _ f=>f.elim;cases ok with
   |false =>
    obtain⟨_,m',hm,w8⟩:=q8;have a8:=again I8;exact⟨m',hm,i+1,ys,_,H8,I8.pW,⟨zs7,hz7,rfl⟩,a8.1,a8.2,w8⟩
   |true =>
    refine fP (he s2 H2 fp G2.objs.size _ s8 _ _ _ I8 q8) (fun x9 s9 ⟨y9,H9,I9,r9,l9,m',hm,w9⟩=>?_) fun _ _ f=>f.elim;refine fP (gF (X:=dw X N scope cl s2 H2 fp G2.objs.size) _ s9 _ H9 (.ref s2.heap.objs.size) [y9] _ [x9] (fun _ H10=>H10=upd H9 s2.heap.objs.size (.lst (ys++[y9]))) I9 rfl (.cons r9 .nil) ⟨_,ys,y9,rfl,rfl,l9,hsz,rfl⟩) (fun _ s10 ⟨_,H10,I10,_,e10⟩=>?_) fun _ _ f=>f.elim;subst e10;have a10:=again I10;exact⟨m',hm,i+1,ys++[y9],_,_,I10.pW,⟨zs7,hz7,rfl⟩,a10.1,a10.2,w9⟩
 exact aeU loop (T.self _ 0 _ _ _ st3 loop)
theorem VD{k:Nat}{pos:Pos}{cl:List (Str × Addr)}(hc:X.calm=true)(hclos:QH scope X.env=pure cl)
  (hcell:∀y∈scope.names,y.2≠.cell) (hkind:scope.kind=.function) (hnames:∀y∈scope.names,y.2=.local->scope.names.lookup y.1=some .local) (hsub:Io X.env.cells cl)
  (hhas:∀y,((gH scope X.env).names.lookup y=some .cell\/(gH scope X.env).names.lookup y=some .free)->∃c,cl.lookup y=some c)
  (hg:∀s H fp C,PG (dw X N scope cl s H fp C) tg g) (hlen:N.length=k+caps.length) (hcap:∀(i:Nat)(j:Nat),caps[i]? = some j->Aj X N scope cl (i+k) j)
  (hi:PI X tg iter wi) (ht:∀s H fp C,PTs (dw X N scope cl s H fp C) ifs tt) (he:∀s H fp C,PE (dw X N scope cl s H fp C) elt te)
  (hs:∀x,Fb iter X.env x=pure x:=by intro _;rfl):PE X (.ListComp elt [⟨tg,iter,ifs,0⟩] scope pos) (aje wi g k caps tt te):=by
 intro pins s σ H Q I h;rw[afj];refine Qo (use:=none) rfl hs hclos hkind hnames (thn (hi pins s σ H _ I h) fun v s1 h1=>thn h1 fun itv s2 h2=>?_);obtain⟨it,fp,tn,J,H2,e,I2,T,st2,f2,w2⟩:=h2;subst e;exact Hv hc hcell hkind hsub hhas hg hlen hcap ht he I2 T st2 f2 w2 fun D C σ' H' s5 hC I5 q=>by
  obtain⟨m,hm,_⟩:=I5.loc;exact⟨m,hm,fun h' hs'=>⟨.ref D,H',I2.Tc f2 hC I5 hs',rfl,q⟩⟩
theorem VF{py spos:Pos}{k:Nat}{pos:Pos}{cl:List (Str × Addr)}(hXN:X.N.Nodup)(hi0:X.N[i]? = some y)(hy:Loc X.env.scope y)
  (hc:X.calm=true) (hclos:QH scope X.env=pure cl)
  (hcell:∀y∈scope.names,y.2≠.cell) (hkind:scope.kind=.function) (hnames:∀y∈scope.names,y.2=.local->scope.names.lookup y.1=some .local) (hsub:Io X.env.cells cl)
  (hhas:∀y,((gH scope X.env).names.lookup y=some .cell\/(gH scope X.env).names.lookup y=some .free)->∃c,cl.lookup y=some c)
  (hg:∀s H fp C,PG (dw X N scope cl s H fp C) tg g) (hlen:N.length=k+caps.length) (hcap:∀(i:Nat)(j:Nat),caps[i]? = some j->Aj X N scope cl (i+k) j)
  (hi:PI X tg iter wi) (ht:∀s H fp C,PTs (dw X N scope cl s H fp C) ifs tt) (he:∀s H fp C,PE (dw X N scope cl s H fp C) elt te)
  (hs:∀x,Fb iter X.env x=pure x:=by intro _;rfl) (hsw:Bg (.ListComp elt [⟨tg,iter,ifs,0⟩] scope pos) (some (.Name y py)) spos.line X.env=pure true:=by rfl)
  (hf:X.fn y=true\/X.env.scope.names.lookup y=some .local:=by first|exact .inl rfl|exact .inr rfl|assumption):
  PS X (.Assign [.Name y py] (.ListComp elt [⟨tg,iter,ifs,0⟩] scope pos) spos) (ah8 (aje wi g k caps tt te) (nM i)):=by
 intro pins s σ H D I h;rw [aeV _ _ _ _ hsw];refine aJ (QB (aJ ?_));show wpAny _ X.A (do let _ <- afk (.ListComp elt [⟨tg,iter,ifs,0⟩] scope pos) scope X.env _ (JZ []) false (eval iter X.env) (some (lA (.Name y py) X.env))) _ _ s;refine aJ (fP (Qo (use:=some (lA (.Name y py) X.env)) (Q:=fun _ s'=>SP X pins D .next s') rfl hs hclos hkind hnames
  (thn (hi pins s σ H _ I h) fun v s1 h1=>thn h1 fun itv s2 h2=>?_)) (fun _ s' hq=>aU (aU hq)) fun _ _ e=>e)
 obtain⟨it,fp,tn,J,H2,e,I2,T,st2,f2,w2⟩:=h2;subst e;refine Hv (RR:=fun acc C=>compPost (model X.prog X.w) X.A X.xe (some (lA (.Name y py) X.env)) (fun _ s'=>SP X pins D .next s') acc C) hc hcell hkind hsub hhas hg hlen hcap ht he I2 T st2 f2 w2 fun D' C σ' H' s5 hC I5 q=>?_;show wpAny _ X.A (lA (.Name y py) X.env (.ref D')) _ _ _;have IX:Inv X pins σ H' s5:=I2.Tc (h':=s5.heap) f2 hC I5 ⟨rfl,fun _ _=>rfl⟩;have nL:C≠X.env.locals:=by
  obtain⟨m,⟨o,_,_,ho,_⟩,_⟩:=I2.loc;exact sI (fJ (bU ho) hC)
 have nC:∀z c,X.env.cells.lookup z=some c->c≠C:=fun z c e=>by
  obtain⟨v,o,ho,_⟩:=I2.cell z c e;exact cH (fJ (bU ho) hC)
 refine Xi (Gk IX hXN hi0 hy (v:=.ref D') rfl (fun s6 I6 hb=>?_) hf);obtain⟨m,hm,_⟩:=I5.loc;obtain⟨a,sb,ha⟩:=hb;have na:C≠a:=by
  rcases ha with z|z
  ·rw[z];exact nL
  ·exact aX (nC _ _ z)
 refine⟨m,hm.sameBut sb na,fun h' hs'=>⟨_,H',?_,q⟩⟩;obtain⟨hp6,g6,d6,t6,o6⟩:=s6;refine I6.turned (it:=C) (t':=t6) (fun b o hb e=>(hs'.2 b hb).trans e) I5.free nL (.inr (eN I2.sz hC)) nC fun p hp z=>?_;have:=(I2.pin p hp).1;exact absurd (fJ (bU this) (by rw[z];exact hC)) (ud _)
theorem Gy{b:Addr}{k:Nat}{Q:VK}(Pv:Nat->List V->Hp->Prop)(h0:Pv 0 [] (upd H D (.lst [])))
  (hl:∀i zs H,Pv i zs H->H a=some (.lst xs)/\H b=some (.lst ys)/\H D=some (.lst zs)/\zs.length<sizeLine)
  (hs:∀i zs H x y t (ws:List (Option V)),xs[i]? = some x->ys[i]? = some y->Pv i zs H->H t=none->ws.length=k->g (.ref t) (o9 σ ws caps) (upd H t (.tup [x,y])) fun σ2 H2=>(∃ws':List (Option V),ws'.length=k/\σ2=o9 σ ws' caps)/\te σ2 H2 fun u H4=>H4 D=some (.lst zs)/\Pv (i+1) (zs++[u]) (upd H4 D (.lst (zs++[u]))))
  (hd:∀zs H,Pv (min xs.length ys.length) zs H->Q (.ref D) H)
  (monoG:∀x σ H (R R':St->Hp->Prop),(∀σ H,R σ H->R' σ H)->g x σ H R->g x σ H R')
  (mono:∀σ H (Q Q':VK),(∀y H,Q y H->Q' y H)->te σ H Q->te σ H Q'):
  Lz (Itz a b) g k caps oZ te σ D Q H:=by
 refine⟨fun i m zs H=>m=min xs.length ys.length-i/\i<=min xs.length ys.length/\Pv i zs H,⟨min xs.length ys.length,by simp,eO _,h0⟩,?_⟩;rintro i m zs H ⟨rfl,hi,p⟩;obtain⟨qa,qb,qd,hz⟩:=hl i zs H p;refine⟨qd,?_⟩;by_cases hlt:i<min xs.length ys.length
 ·refine .inr ⟨⟨xs,ys,qa,qb,by lia,by lia⟩,hz,fun x H' y ws hw=>?_⟩;obtain⟨t,u,v,xs',ys',ea,eb,ex,ey,ht,rfl,rfl⟩:=y;rw[qa]at ea;cases ea;rw[qb]at eb;cases eb;refine monoG _ _ _ _ _ (fun σ2 H2 h2=>⟨h2.1,?_⟩) (hs i zs H u v t ws ex ey p ht hw);unfold oZ;dsimp only;rw[if_pos rfl];exact mono _ _ _ _ (fun y H3 ⟨a,b⟩=>⟨a,min xs.length ys.length-(i+1),by lia,rfl,hlt,b⟩) h2.2
 ·have e:i=min xs.length ys.length:=by lia
  subst e;exact .inl ⟨⟨xs,ys,qa,qb,by lia⟩,hd zs H p⟩
structure Fly(g:Heap)(H:Hp)(h:Heap)(e C T:Addr)(fl:Value):Prop where
 ue:H e=none
 uT:H T=none
 ge:g.get? e=none
 gT:g.get? T=none
 tr:∃oe vs oT ts a0,h.get? e=some oe/\(oe.cls=.ref C/\vs[0]? = some a0)/\oe.data=.fields vs/\vs[1]? = some (.ref T)/\T≠e/\h.get? T=some oT/\oT.data=.fields ts/\ts[3]? = some fl
noncomputable abbrev Bare(h:Heap)(l:List Env)(hid:List Addr):Heap:=afz h (frs l++hid)
section
variable{g h h':Heap}{H0:Hp}{l:List Env}{fs hid:List Addr}{T:Addr}{a0 fl:Value}
theorem yL(ff:h.FunFrames base l):h.FunFrames (Bare h l hid) l:=
 PySem.W.funFrames_hide ff fun env he _ hf=>Ep _ (W9.mpr ⟨env,he,hf⟩)
theorem LC(u:Un fs [] H0 H g h)(hok:HOk P w H h)(ff:h.FunFrames base l)(free:∀b∈frs l,H b=none)(sub:∀b∈frs l,b∈fs\/g.get? b=none)
  (hh:∀b∈hid,H b=none/\g.get? b=none) (ue:H e=none) (ge:g.get? e=none) (st:(Bare h l hid).StaysIn h') (up:h.UpToSlots h') (tr:h'.TracedAtW (Bare h l hid) e (.ref C) a0 fl):
  Un fs [] H0 H g h'/\HOk P w H h'/\∃T,Fly g H h' e C T fl:=by
 have keep:∀b o,h.get? b=some o->b∉frs l->b∉hid->h'.get? b=some o:=fun b o q n1 n2=>st b o (X5 _ q fun m=>(dY.mp m).elim n1 n2);have slot:∀b,b∈frs l->∀o,h.get? b=some o->∃sl,h'.get? b=some { o with slots:=sl }:=fun b hb o q=>by
  obtain⟨_,o',q',nf⟩:=ff.mem hb;rw[q]at q';cases q';exact up b o q nf
 have nog:∀{b:Addr}{o:Obj},g.get? b=some o->b∉hid:=fun q z=>by rw[(hh _ z).2]at q;cases q
 have tracked:∀b v o,H b=some v->h.get? b=some o->h'.get? b=some o:=fun b v o q r =>
  keep b o r (fun z=>by rw[free b z]at q;cases q) fun z=>by rw[(hh b z).1]at q;cases q
 refine⟨⟨fun b o q n hb hx=>?_,fun b o q n hb hx=>?_,u.free,fun b o q hx=>?_,u.tups,u.CP,u.Ii⟩,fun b v q=>?_,?_⟩
 ·refine keep b o (u.keep b o q n hb hx) (fun z=>?_) (nog q);rcases sub b z with z|z
  ·exact hb z
  ·rw[z]at q;cases q
 ·obtain⟨sl,r⟩:=u.slot b o q n hb hx;by_cases z:b∈frs l
  ·obtain⟨sl',r'⟩:=slot b z _ r;exact⟨sl',r'⟩
  ·exact⟨sl,keep b _ r z (nog q)⟩
 ·obtain⟨o',r⟩:=u.there b o q hx;by_cases z:b∈frs l
  ·obtain⟨sl',r'⟩:=slot b z _ r;exact⟨_,r'⟩
  ·exact⟨o',keep b _ r z (nog q)⟩
 ·refine(hok b v q).stay (fun c o hc r=>?_) (fun _ r=>r) fun _ _ r=>r;rcases hc with rfl|hc
  ·exact tracked c v o q r
  ·exact tracked c _ o hc r
 ·obtain⟨oe,vs,T,oT,ts,q1,q2,q3,q4,q5,q6,q7,q8,q9⟩:=tr;have amc:∀o,h.get? T=some o->T∈hid:=fun o r=>by
   by_cases z:T∈frs l
   ·obtain⟨_,o',q',nf⟩:=ff.mem z;rw[r]at q';cases q';obtain⟨sl,r'⟩:=slot T z o r;rw[q7]at r';cases r';exact absurd q8 (nf ts)
   ·by_cases z':T∈hid
    ·exact z'
    ·have k:=X5 (frs l++hid) r fun m=>(dY.mp m).elim z z';rw[q5]at k;cases k
  refine⟨T,ue,?_,ge,?_,oe,vs,oT,ts,a0,q1,q2,q3,q4,q6,q7,q8,q9⟩
  ·cases r:H T with
   |none=>rfl
   |some v =>
    obtain⟨o,r'⟩:=(hok T v r).ex;rw[(hh T (amc o r')).1]at r;cases r
  ·cases r:g.get? T with
   |none=>rfl
   |some o =>
    obtain⟨o',r'⟩:=u.there T o r (by simp);rw[(hh T (amc o' r')).2]at r;cases r
theorem Fly.traced(x:Fly g H h e C T fl):∃a0,h.TracedAtW (Bare h l [e,T]) e (.ref C) a0 fl:=by
 obtain⟨oe,vs,oT,ts,a0,q1,q2,q3,q4,q6,q7,q8,q9⟩:=x.tr;exact⟨a0,oe,vs,T,oT,ts,q1,q2,q3,q4,QZ _ (by simp),q6,q7,q8,q9⟩
theorem Fly.flying(x:Fly g H h e C T .none)(ff:h.FunFrames base l):∃a0,Heap.FlyingW (Bare h l [e,T]) l e (.ref C) a0 h:=by
 obtain⟨a0,tr⟩:=x.traced (l:=l);exact⟨a0,fun b o q=>Q0 _ q,QZ _ (by simp),yL ff,tr⟩
theorem Fly.held{L:Addr}(x:Fly g H h e C T (nZ L))(ff:h.FunFrames base l):∃a0,Heap.HeldW (Bare h l [e,T]) l e (.ref C) a0 L h:=by
 obtain⟨a0,tr⟩:=x.traced (l:=l);exact⟨a0,fun b o q=>Q0 _ q,QZ _ (by simp),yL ff,tr⟩
theorem Fly.hidden(x:Fly g H h e C T fl):∀b∈[e,T],H b=none/\g.get? b=none:=fun b hb=>by
 rcases cO.mp hb with rfl|hb
 ·exact⟨x.ue,x.ge⟩
 ·have z:b=T:=by simpa using hb
  subst z;exact⟨x.uT,x.gT⟩
theorem Fly.older{g0:Heap}(x:Fly g H h e C T fl)(th:∀b o,g0.get? b=some o->∃o',g.get? b=some o'):Fly g0 H h e C T fl:=by
 have no:∀b,g.get? b=none->g0.get? b=none:=fun b n=>by
  cases q:g0.get? b with
  |none=>rfl
  |some o=>obtain⟨o',r⟩:=th b o q;rw[n]at r;cases r
 exact⟨x.ue,x.uT,no _ x.ge,no _ x.gT,x.tr⟩
end
noncomputable def CXE(P:bh)(w:World):CXT:=fun outer H s E ev s'=>∃e C T H',ev=.ref e/\s'.os=s.os/\sW s'.gens/\Un (frs outer) [] H H' s.heap s'.heap/\HOk P w H' s'.heap/\Fly s.heap H' s'.heap e C T .none/\E (.ref C) none H'
theorem tD:Passes (CXE P w) X E0:=fun _ _ _ _ _ _ _ ⟨_,_,_,_,_,_,_,_,_,_,z⟩=>z.elim
section
variable{f:Addr}{s:Shared}{E:XK}
theorem aoN:Passes (CXE P w) (BK (CXE P w) P w K mg base N qual scope f cd A outer s H E) E:=by
 intro pins σ H1 s1 ev s2 I hx;obtain⟨e,C,T,H',rfl,os,bare,u,hok,fly,hE⟩:=hx;have I2:=I.call' (ch:=[]) os u hok bare (by simp);obtain⟨a0,hfl⟩:=fly.flying I2.stack;have fly0:Fly s.heap H' s2.heap e C T .none:=fly.older fun b o q=>I.base.there b o q (by intro z;exact absurd (show b∈([]:List Addr)from z) (by simp));refine wpAny_leaves_onW I.ok.frames rfl hfl fun h' x1 x2=>?_;have sub:∀b∈frs (j4 qual scope s.heap.objs.size f cd::outer),b∈frs outer\/s.heap.get? b=none:=fun b hb=>by
  rcases cO.mp (I2.yw b hb)with z|z
  ·refine .inr ?_;rw[z];exact Ye I.ok.above
  ·exact .inl z
 obtain⟨r1,r2,T',r3⟩:=LC (g:=s.heap) (H0:=H) (fs:=frs outer) (l:=j4 qual scope s.heap.objs.size f cd::outer) I2.base hok I2.stack I2.zN sub fly0.hidden fly0.ue fly0.ge x1.1 x2 x1.2.2.2.at;exact⟨e,C,T',H',rfl,os.trans I.os,bare,r1,r2,r3,hE⟩
theorem Fun.okE{k:Nat}(F:Fun K x qual st f fd)(S:aK N ps (aF st))(len:∀vs H Q E,sp vs H Q E->vs.length=ps.length)
  (hbody:∀ (cdv:Value) (A:bY) (outer:List Env) (s:Shared) (H:Hp) (vs:List V) (Q:VK) (E:XK),jQ k (A.deeper (j4 qual (aF st) s.heap.objs.size f cdv))->sp vs H Q E ->
   ∃ t,PSs (BK (CXE P w) P w K mg base N qual (aF st) f cdv A outer s H E) (jU st) t/\t { nx:=fun _ H'=>Q .non H',rt:=Q } (start N vs) H):bZ P w K mg base (CXE P w) (k+1) f fd ps sp:=by
 obtain⟨oc,od,kV,doc,pm,an,cdv,ct,osl,rfl,lk,hcd⟩:=F.ex;exact al1 lk hcd S len fun A outer s H vs Q E hr hsp=>hbody cdv A outer s H vs Q E hr hsp
end
theorem PS.nox{t:TS}(h:PS X.nox st t):PS X st t:=fun pins s σ H D I hw =>
 fP (h pins s σ H D (I.wish _) hw) (fun _ _ q=>q.lF) fun _ _ z=>lB z
theorem aoO{h:Heap}(kin:K.In h)(hm:mg x=some (.ref C))(q:Bq K C bmB newId=true):OwnCls x C bmB newId mg h:=by
 refine⟨hm,?_⟩;simp only[Bq]at q;split at q
 case h_2=>cases q
 case h_1 ho =>
  rename_i dd cl sl;split at q
  case h_2=>cases q
  case h_1 hm' hs =>
   rename_i C' bm k0 k1 k2 k3 n k5;simp only[Kl,beq_iff_eq,Bool.not_eq_true']at q;obtain⟨⟨⟨⟨⟨e1,e2⟩,e3⟩,e4⟩,e5⟩,e6⟩:=q;subst e1;subst e2;cases cl with
   |mk nm bs mro ns qn hd sn sub ab col del =>
    simp only at hm' e3 e5 e6;subst hm';subst e3;have es:sl=#[k0,k1,k2,k3,some (.builtin n),k5]:=by cases sl with|mk ls=>simp only at hs;rw[hs]
    subst es;exact⟨bm,ns,nm,qn,bs,hd,sn,sub,ab,col,dd,k0,k1,k2,k3,k5,h.nsMap ns,kin _ _ ho,.of_isNs (PySem.W.isNs_of_in kin e5),PySem.W.nsMap_none_of_in kin e5 e6,PySem.W.tail_of_in kin e4⟩
noncomputable def aoP(ta:TA)(E:XK)(C:Addr):TS:=fun _ σ H=>ta σ H fun vs H1=>vs.length<=sizeLine/\E (.ref C) none H1
section
variable{f:Addr}{s:Shared}{E:XK}
theorem qg{e₀:Expr}{rest:List Expr}{cpos pos:Pos}{B initId:String}(FB:ExcBaseFacts B newId initId bmB)(q:Bq K C bmB newId=true)
  (hg:Gl (BK (CXE P w) P w K mg base N qual scope f cd A outer s H E) x) (hm:mg x=some (.ref C)) (ha:PA (BK (CXE P w) P w K mg base N qual scope f cd A outer s H E) (e₀::rest) ta)
  (he:cT (e₀::rest) (BK (CXE P w) P w K mg base N qual scope f cd A outer s H E).env=(false,eval e₀ (BK (CXE P w) P w K mg base N qual scope f cd A outer s H E).env)::cT rest (BK (CXE P w) P w K mg base N qual scope f cd A outer s H E).env:=by rfl)
  (hpl:(iu cpos (cT rest (BK (CXE P w) P w K mg base N qual scope f cd A outer s H E).env)).any (·.1)=false:=by rfl) (hd:(x == ("__debug__" : Str))=false:=by decide):
  PS (BK (CXE P w) P w K mg base N qual scope f cd A outer s H E) (.Raise (some (.Call (.Name x np) (e₀::rest) [] cpos)) none pos) (aoP ta E C):=by
 intro pins s1 σ H1 D I h;obtain⟨bm,N',nm,qn,bs,hdct,sn,sub,ab,col,dd,k0,k1,k2,k3,k5,mN,hC,hN,hni,TL⟩:=(aoO I.mod.kin hm q).obj;refine wpAny_Raise_call_subT (C:=C) (nm:=nm) (q:=qn) (N:=N') (bs:=bs) (bm:=bm) (hdct:=hdct) (sn:=sn) (sub:=sub) (ab:=ab) (col:=col) (dd:=dd) (k0:=k0) (k1:=k1) (k2:=k2) (k3:=k3) (k5:=k5)
  FB (mN:=mN) (TL.hasType FB.hasBase) (I.ok.hd rfl) ?_ hni (CQ I hg hm ⟨rfl,?_⟩ hd)
 ·rw[he];show(false || (iu cpos (cT rest _)).any (·.1))=false;rw[hpl];rfl
 have h2:=ha cpos pins s1 σ H1 _ I h;rw[he]at h2 ⊢;refine YX (fP h2 (fun us s2 ⟨vs,H2,I2,r,z,hE⟩=>?_) fun _ _ y=>y);refine⟨rfl,by rw[<-r.length];exact z,I2.bk _ _ hC,hN.keeps I2.bk,TL.keeps I2.bk,fun h' e hx=>?_⟩;have ue:H2 e=none:=by
  cases k:H2 e with
  |none=>rfl
  |some v =>
   obtain⟨o,k'⟩:=(I2.hok e v k).ex;rw[hx.new]at k';cases k'
 have ge:s.heap.get? e=none:=by
  cases k:s.heap.get? e with
  |none=>rfl
  |some o =>
   obtain⟨o',k'⟩:=I2.base.there e o k (by intro z;exact absurd (show e∈([]:List Addr)from z) (by simp));rw[hx.new]at k';cases k'
 refine wpAny_leaves_madeW (base:=Bare s2.heap (j4 qual scope s.heap.objs.size f cd::outer) []) I2.ok.frames rfl (fun b o k=>Q0 _ k) (yL I2.stack) hx fun h'' t x1 x2 x3 x4=>?_;have sub:∀b∈frs (j4 qual scope s.heap.objs.size f cd::outer),b∈frs outer\/s.heap.get? b=none:=fun b hb=>by
  rcases cO.mp (I2.yw b hb)with z|z
  ·refine .inr ?_;rw[z];exact Ye I.ok.above
  ·exact .inl z
 obtain⟨r1,r2,T',r3⟩:=LC (g:=s.heap) (H0:=H) (fs:=frs outer) (hid:=[]) (l:=j4 qual scope s.heap.objs.size f cd::outer) I2.base I2.hok I2.stack I2.zN sub (by simp) ue ge x1.1 ((an6 hx.keeps).trans x4) x1.2.2.2.at;exact⟨e,C,T',H2,rfl,I2.os,I2.bare,r1,r2,r3,hE⟩
end
noncomputable def XP(X:Cx)(pins:List (Addr × Obj))(σ:St)(E:XK)(ev:Value)(s':Shared):Prop:=∃s0 H0,Inv X pins σ H0 s0/\CXE X.prog X.w X.stack H0 s0 E ev s'
noncomputable abbrev TX:=St->Hp->VK->XK->Prop
noncomputable def PX(X:Cx)(e:Expr)(t:TX):Prop:=
 ∀(pins:List (Addr × Obj)) (s:Shared) (σ:St) (H:Hp) (Q:VK) (E:XK),Inv X pins σ H s->t σ H Q E->wpAny (model X.prog X.w) X.A (eval e X.env) (EP X pins σ Q) (XP X pins σ E) s
@[reducible] noncomputable def xMeth(C:Addr)(m:Str)(sp:Sp)(dvs:List V)(ta:TE)(t:TA):TX:=fun σ H Q E=>ta σ H fun x H1=>∃a dx fs,x=.ref a/\H1 a=some (.ins C dx fs)/\fs.lookup m=none /\
 t σ H1 fun vs H2=>sp (x::(vs++dvs)) H2 Q E
section
variable{k:Nat}{f:Addr}{dvs:List V}{ds:List Value}{m:Str}{pos apos:Pos}{e o:Expr}{es:List Expr}{ta:TE}{t:TA}
theorem ak0{s:Shared}{Q:VK}{E:XK}{vs:List V}(F:bZ X.prog X.w X.K X.mg X.base (CXE X.prog X.w) k f fd ps sp)(hr:jQ k X.A)(hb:Binds X.K fd ps ds)(hd:Vals dvs ds)
  (I:Inv X pins σ H s) (r:Vals vs us) (h:sp (vs++dvs) H Q E):wpAny (model X.prog X.w) X.A (call (.ref f) us) (EP X pins σ Q) (XP X pins σ E) s:=by
 have r2:Vals (vs++dvs) (us++ds):=r.append hd;have hl:(us++ds).length=ps.length:=by rw[<-r2.length];exact F.len _ _ _ _ h
 refine JT (vm (F.run X.A X.stack s H ⟨us,[]⟩ (us++ds) (vs++dvs) Q E hr I.env0 (hb s us I.kIn hl) r2 h) fun r s' hq=>?_);cases r with
 |error e=>exact⟨s,H,I,hq⟩
 |ok fl =>
  cases fl with
  |ret u=>exact I.after hq
  |next=>exact lB hq
  |brk=>exact lB hq
  |cont=>exact lB hq
theorem ajg{pl:Sem Bool}(he:PE X.nox o ta)(c:Cls X.K C)(hm:Meth X.K C m f)(F:bZ X.prog X.w X.K X.mg X.base (CXE X.prog X.w) k f fd ps sp)(hr:jQ k X.A)(hb:Binds X.K fd ps ds)(hd:Vals dvs ds)
  (ht:eval (.Call (.Attribute o m apos) [] [] pos) X.env=(do
   let ov <-eval o X.env
   JX apos.atName
   let (f,first) <-xR [ov] (JV ov m pl)
   XS pos f first (iu pos (cT [] X.env)) (FJ pos (Fp [] X.env))):=by rfl) :
  PX X (.Call (.Attribute o m apos) [] [] pos) (xMeth C m sp dvs ta ZL):=by
 intro pins s σ H Q E I h;refine X4 (pl:=pl) (fP (he pins s σ H _ (I.wish _) h) (fun u s1 ⟨x,H1,I1,rx,a,dx,fs,ex,ea,l,q⟩=>?_) fun _ _ z=>z.elim) ht;subst ex;obtain rfl:u=Value.ref a:=rx;refine BJ I1.lF ea c hm l ?_;exact afs (first:=[.ref a]) I1.lF.kIn hm.kp (ak0 (us:=[.ref a]) (vs:=[.ref a]) F hr hb hd I1.lF (.cons rfl .nil) q)
end
structure Catch(K:bB)(C B:Addr):Prop where
 sub:xX K C (.ref B)=some true
 exc:xX K B (.type "BaseException")=some true
 ty:Q7 K (.ref B)=some (.type "type")
theorem aas{r q:Bool}{v:Value}(hs:xX K C (.ref B)=some r)(hx:xX K B v=some q)(ht:Q7 K (.ref B)=some (.type "type")):Q9 K (.ref C) (.ref B)=some r:=by
 have h1:(afC K B).isSome=true:=by
  cases e:afC K B with
  |none=>unfold xX at hx;rw[e]at hx;cases hx
  |some cd=>rfl
 unfold Q9;simp only[h1,ht];exact hs
theorem Catch.kit(c:Catch K C B):Q9 K (.ref C) (.ref B)=some true:=aas c.sub c.exc c.ty
theorem adI{M:Model}{s:Shared}{oe:Obj}{Q:Bool->Shared->Prop}(kin:K.In s.heap)(c:Catch K C B)(he:s.heap.get? e=some oe)(hc:oe.cls=.ref C)(h:Q true s):
  wpAny M A (excMatches (.ref e) (.ref B)) Q E s:=by
 obtain⟨hh,g,d,t,os⟩:=s;obtain⟨L1,L2,L3⟩:=PySem.W.kit_cls (M:=M) kin c.kit;have L4:=PySem.W.looks_mroIn (M:=M) kin c.exc;have L5:Yd M hh (isSubtype (.type "type") (.type "tuple")) false:=PySem.W.looks_subIn (t:=.type "type") (base:=.type "tuple") (r:=false) kin (show(afa "type").map (·.contains (.type "tuple"))=some false by decide +kernel);have L6:Yd M hh (isInstance (.ref B) (.type "tuple")) false:=L1.andThen L5;have L7:Yd M hh (typeOf (.ref e)) (.ref C):=hc ▸ (aob he).andThen .now;unfold excMatches;refine aJ (L6.at ?_);rw[if_neg jr];refine aJ (aU ?_);unfold isExcClass;simp only[aeI,aeM];refine aJ (aJ (aJ (aJ (L2.at ?_))));rw[if_pos rfl];refine L4.at ?_;simp only[Bool.not_true,Yk,if_false];refine aU ?_;refine aU ?_;refine aJ (L7.at ?_);refine aJ (aJ (aJ (L3.at ?_)));rw[if_pos rfl];exact aU (aU (aU h))
noncomputable def Cx.marked(X:Cx)(e:Addr):Cx:={ X with A:=X.A.mark (some (.ref e)),calm:=false,xe:=fun _ _=>False }
section
variable{s:Shared}
theorem Inv.marked(I:Inv X pins σ H s)(e:Addr):Inv (X.marked e) pins σ H s:=
 ⟨⟨I.ok.mod,I.ok.kind,I.ok.glob,I.ok.blt,I.ok.above,I.ok.inj,I.ok.has,I.ok.cab,(fun z=>by cases z),I.ok.frames,I.ok.stk,I.ok.exf,I.ok.bs,I.ok.bsz,I.ok.U7,I.ok.ac2,I.ok.Bx,I.ok.frf⟩,I.os,I.bare,I.base,I.loc,I.cell,I.free,I.pR,I.pin,I.hok,I.len⟩
theorem Inv.unmarked(hd:X.calm=true->X.A.handled=none)(I:Inv (X.marked e) pins σ H s):Inv X pins σ H s:=
 ⟨⟨I.ok.mod,I.ok.kind,I.ok.glob,I.ok.blt,I.ok.above,I.ok.inj,I.ok.has,I.ok.cab,hd,I.ok.frames,I.ok.stk,I.ok.exf,I.ok.bs,I.ok.bsz,I.ok.U7,I.ok.ac2,I.ok.Bx,I.ok.frf⟩,I.os,I.bare,I.base,I.loc,I.cell,I.free,I.pR,I.pin,I.hok,I.len⟩
end
section
variable{n:Str}{pos:Pos}
end
section
variable{pos:Pos}
theorem ak1{D:Ends}{ev:Value}{s1:Shared}(hst:X.stack=X.env::X.outer)(hfr:X.env.frame=some X.env.locals)(hg:Gl X x)(hm:X.mg x=some (.ref B))
  (hs:∀e,PSs (X.marked e) (b₀::suite) th) (hdb:(x == ("__debug__" : Str))=false)
  (hx:XP X pins σ (fun cls _ H1=>∃C,cls=.ref C/\Catch X.K C B/\th D σ H1) ev s1):
  wpAny (model X.prog X.w) X.A (noteFrame ev X.env) (fun _ s2=>wpAny (model X.prog X.w) X.A (setFlight ev none) (fun _ s3=>wpAny (model X.prog X.w) X.A (handleBy ev X.env [.ExceptHandler (some (.Name x np)) none (b₀::suite) hpos]) (SP X pins D) X.xe s3) X.xe s2) X.xe s1:=by
 obtain⟨s0,H0,I0,e,C,T,H',rfl,os,bare,u,hok,fly,C2,eC,cat,hth⟩:=hx;cases eC;have sub:∀b∈frs (X.env::X.outer),b∈frs X.stack\/s0.heap.get? b=none:=fun b hb=>.inl (by rw[hst];exact hb);have fre:∀b∈frs (X.env::X.outer),H' b=none:=fun b hb=>(I0.call' (ch:=[]) os u hok bare (by simp)).zN b (by rw[hst];exact hb);have adJ:∀{h:Heap},Un (frs X.stack) [] H0 H' s0.heap h->HOk X.prog X.w H' h->h.FunFrames X.base (X.env::X.outer):=fun {h} u' hok'=>by
  have:=(I0.call' (ch:=[]) (s':={ s1 with heap:=h }) os u' hok' bare (by simp)).stack;rw[hst]at this;exact this
 have hA:X.A.frames=some (X.env::X.outer):=by rw[I0.ok.frames,hst]
 obtain⟨a0,hfl⟩:=fly.flying (adJ u hok);refine wpAny_looks_onW hA hfr hfl fun h2 x1 x2=>?_;obtain⟨u2,hok2,T2,fly2⟩:=LC u hok (adJ u hok) fre sub fly.hidden fly.ue fly.ge x1.1 x2 x1.2.2.2;obtain⟨a2,hh2⟩:=fly2.held (adJ u2 hok2);refine wpAny_landsW (s:={ s1 with heap:=h2 }) hh2 fun h3 x1 x2=>?_;obtain⟨u3,hok3,T3,ajh⟩:=LC u2 hok2 (adJ u2 hok2) fre sub fly2.hidden fly2.ue fly2.ge x1.1 x2 x1.2.2.2.at;have I3:=I0.call' (ch:=[]) (s':={ s1 with heap:=h3 }) os u3 hok3 bare (by simp);refine wpAny_handleBy_cons (codeAny_handlers_test (CQ (X:=X.marked e) (I3.marked e) hg hm ?_ hdb)) (by intro q;cases q);obtain⟨oe,_,_,_,_,q1,q2,_⟩:=ajh.tr;refine adI I3.kIn cat q1 q2.1 ?_;show ig _ _ (.handlers (.ref e) [.ExceptHandler none none (b₀::suite) hpos] X.env) _ _;refine codeAny_handlers_suite ?_;obtain⟨a3,hfl3⟩:=ajh.flying (adJ u3 hok3);refine lands_againW (s:={ s1 with heap:=h3 }) hfl3 fun h4 x1 x2=>?_;obtain⟨u4,hok4,T4,fly4⟩:=LC u3 hok3 (adJ u3 hok3) fre sub ajh.hidden ajh.ue ajh.ge x1.1 x2 x1.2.2.2.at;have I4:=I0.call' (ch:=[]) (s':={ s1 with heap:=h4 }) os u4 hok4 bare (by simp);refine fP (hs e pins _ _ _ D (I4.marked e) hth) (fun f s7 q=>?_) fun _ _ z=>z.elim;cases f with
 |next =>
  obtain⟨σ7,H7,I7,q7⟩:=q;exact⟨_,H7,I7.unmarked I0.ok.hd,q7⟩
 |brk =>
  obtain⟨σ7,H7,I7,q7⟩:=q;exact⟨_,H7,I7.unmarked I0.ok.hd,q7⟩
 |cont =>
  obtain⟨σ7,H7,I7,q7⟩:=q;exact⟨_,H7,I7.unmarked I0.ok.hd,q7⟩
 |ret u =>
  obtain⟨v,σ7,H7,I7,r7,q7⟩:=q;exact⟨v,_,H7,I7.unmarked I0.ok.hd,r7,q7⟩
noncomputable def tTry0(K:bB)(tc:TX)(nx:V->St->St)(B:Addr)(th:TS):TS:=fun D σ H=>tc σ H (fun v H1=>D.nx (nx v σ) H1)
 fun cls _ H1=>∃C,cls=.ref C/\Catch K C B/\th D σ H1
theorem aji{ce:Expr}{epos ypos:Pos}{tc:TX}{j:Nat}(hst:X.stack=X.env::X.outer)(hfr:X.env.frame=some X.env.locals)(hg:Gl X x)(hm:X.mg x=some (.ref B))(hN:X.N.Nodup)
  (hj:X.N[j]? = some y) (hy:Loc X.env.scope y) (hc:PX X ce tc) (hs:∀e,PSs (X.marked e) (b₀::suite) th) (hsw:Bg ce (some (.Name y ypos)) epos.line X.env=pure false:=by rfl)
  (hf:X.fn y=true\/X.env.scope.names.lookup y=some .local:=by first|exact .inl rfl|exact .inr rfl) (hdb:(x == ("__debug__" : Str))=false:=by decide):
  PS X (.Try [.Assign [.Name y ypos] ce epos] [.ExceptHandler (some (.Name x np)) none (b₀::suite) hpos] [] [] pos) (tTry0 X.K tc (fun v σ=>σ.set j (some v)) B th):=by
 intro pins s σ H D I h;have key:wpAny (model X.prog X.w) X.A (exec (.Assign [.Name y ypos] ce epos) X.env) (fun f s1=>f=.next/\∃v H1,Inv X pins (σ.set j (some v)) H1 s1/\D.nx (σ.set j (some v)) H1) (XP X pins σ _) s:=
  ae3 (fP (hc pins s σ H _ _ I h) (fun v s1 ⟨x,H1,I1,r1,q1⟩=>KR I1 hN hj hy r1 (fun s2 I2=>⟨rfl,x,H1,I2,q1⟩) hf) fun _ _ z=>z) hsw
 refine wpAny_Try_except (Xl (fP key (fun f s1 ⟨ef,v,H1,I1,q1⟩=>?_) fun ev s1 hx=>?_))
 ·subst ef;exact Fj (Fj ⟨_,H1,I1,q1⟩)
 ·exact ak1 hst hfr hg hm hs hdb hx
end
inductive Alike (K:bB) (H:Hp):Nat->V->V->Prop where
 |flat {n:Nat} {x:V} (h:uy x=true):Alike K H n x x
 |lst {n:Nat} {a b:Addr} {xs ys:List V} (ha:SqL K H a xs) (hb:SqL K H b ys) (hl:xs.length=ys.length) (h:∀(i:Nat)(x y:V),xs[i]? = some x->ys[i]? = some y->Alike K H n x y):Alike K H (n+1) (.ref a) (.ref b)
 |tup {n:Nat} {a b:Addr} {xs ys:List V} (ha:SqT K H a xs) (hb:SqT K H b ys) (hl:xs.length=ys.length) (h:∀(i:Nat)(x y:V),xs[i]? = some x->ys[i]? = some y->Alike K H n x y):Alike K H (n+1) (.ref a) (.ref b)
theorem VG{x:V}(h:uy x=true):eqV x x=true:=by
 cases x with
 |non=>rfl
 |bl b=>show(b == b)=true;simp
 |int i=>show(i == i)=true;simp
 |str z=>show(z == z)=true;simp
 |byt _=>cases h
 |flt _=>cases h
 |ref _=>cases h
 |ty _=>cases h
section
variable{s:Shared}
theorem all_true(n:Nat):((jY n).all fun _=>true)=true:=by simp
theorem rF{vs:List Value}(ru:Vals xs us)(rv:Vals ys vs)
  (h:∀(i:Nat)(x y:V),xs[i]? = some x->ys[i]? = some y->Alike K H n x y) (ih:∀(x y:V)(u v:Value),Alike K H n x y->RelV x u->RelV y v->Gh A s u v true):
  ∀j (h1:j<us.toArray.size) (h2:j<vs.toArray.size),Gh A s us.toArray[j] vs.toArray[j] true:=fun j h1 h2=>by
 have e1:j<us.length:=by simpa using h1
 have e2:j<vs.length:=by simpa using h2
 have l1:j<xs.length:=by rw[ru.length];exact e1
 have l2:j<ys.length:=by rw[rv.length];exact e2
 have g1:xs[j]? = some xs[j]:=gA l1;have g2:ys[j]? = some ys[j]:=gA l2;obtain⟨u,k1,r1⟩:=ru.get g1;obtain⟨v,k2,r2⟩:=rv.get g2;have m1:us.toArray[j]=u:=by
  rw[gA e1]at k1;simpa using k1
 have m2:vs.toArray[j]=v:=by
  rw[gA e2]at k2;simpa using k2
 rw[m1,m2];exact ih _ _ _ _ (h j _ _ g1 g2) r1 r2
theorem LQ(I:Inv X pins σ H s):∀(n:Nat)(A:bY)(x y:V)(u v:Value),A.units+n<cLine->Alike X.K H n x y->RelV x u->RelV y v->Gh A s u v true
 |0,A,x,y,u,v,hu,h,ru,rv=>by
  cases h with
  |flat f=>have:=Sw (A:=A) (s:=s) ru rv f f;rw[VG f]at this;exact this
 |n+1,A,x,y,u,v,hu,h,ru,rv=>by
  have ih:=fun(x y:V) (u v:Value) (k:Alike X.K H n x y) (r1:RelV x u) (r2:RelV y v)=>LQ I n A.in1 x y u v (by show A.units+1+n<cLine;lia) k r1 r2;cases h with
  |flat f=>have:=Sw (A:=A) (s:=s) ru rv f f;rw[VG f]at this;exact this
  | @lst _ a b xs ys ha hb hl k =>
   obtain rfl:u=Value.ref a:=ru;obtain rfl:v=Value.ref b:=rv;by_cases e:a=b
   ·subst e;exact Y5 _
   ·obtain⟨us,r1,p1,_⟩:=I.list ha;obtain⟨vs,r2,p2,_⟩:=I.list hb;have:=Y6 (A:=A) p1.isList p2.isList (by rw[dh,dh,<-r1.length,<-r2.length,hl]) tb_g% (rF r1 r2 k ih);rw[all_true]at this;exact Y4 e this
  | @tup _ a b xs ys ha hb hl k =>
   obtain rfl:u=Value.ref a:=ru;obtain rfl:v=Value.ref b:=rv;by_cases e:a=b
   ·subst e;exact Y5 _
   ·obtain⟨us,r1,p1,_⟩:=I.tuple ha;obtain⟨vs,r2,p2,_⟩:=I.tuple hb;have hs:us.toArray.size=vs.toArray.size:=by rw[dh,dh,<-r1.length,<-r2.length,hl]
    have:=agQ (A:=A) p1 p2 tb_g% (rF r1 r2 k ih);rw[all_true,hs]at this;exact Y4 e (by simpa using this)
noncomputable def aoQ(K:bB)(b:Bool):R2:=fun x y H Q=>∃n p q,x=.ref p/\y=.ref q/\n<=40/\Alike K H n x y/\Q (.bl b) H
theorem Tf(hu:X.A.units+64<cLine):OpR X (iQ .Eq) (aoQ X.K true):=by
 intro pins s σ H x y v u Q I rx ry h;obtain⟨n,p,q,rfl,rfl,hn,k,w⟩:=h;obtain rfl:v=Value.ref p:=rx;obtain rfl:u=Value.ref q:=ry;have ih:=fun m (hm:m+1<=40) (x y:V) (u v:Value) (k:Alike X.K H m x y) (r1:RelV x u) (r2:RelV y v)=>LQ I m X.A.in1 x y u v (by show X.A.units+1+m<cLine;lia) k r1 r2;have fin:EP X pins σ Q (.bool true) s:=⟨.bl true,H,I,rfl,w⟩;cases k with
 |flat f=>cases f
 | @lst m a b xs ys ha hb hl k =>
  obtain⟨us,r1,p1,_⟩:=I.list ha;obtain⟨vs,r2,p2,_⟩:=I.list hb;have:=Y6 (A:=X.A) p1.isList p2.isList (by rw[dh,dh,<-r1.length,<-r2.length,hl]) tb_g% (rF r1 r2 k (ih m tb_g%));rw[all_true]at this;exact this X.prog X.w X.xe _ fin
 | @tup m a b xs ys ha hb hl k =>
  obtain⟨us,r1,p1,_⟩:=I.tuple ha;obtain⟨vs,r2,p2,_⟩:=I.tuple hb;have hs:us.toArray.size=vs.toArray.size:=by rw[dh,dh,<-r1.length,<-r2.length,hl]
  have:=agQ (A:=X.A) p1 p2 tb_g% (rF r1 r2 k (ih m tb_g%));rw[all_true,hs]at this;exact(show SeqAt.RcAt X.A s (.ref p) (.ref q) true by simpa using this) X.prog X.w X.xe _ fin
end
section
variable{n:Str}{pos ipos:Pos}
noncomputable def ItA(K:bB)(H:Hp)(p a:Addr):Bool->Prop
 |true=>∃n,n<=40/\Alike K H n (.ref a) (.ref p)
 |false=>a≠p/\∃xs ys:List V,SqL K H a xs/\SqL K H p ys/\xs.length≠ys.length
theorem ItA.eqAt{s:Shared}{p:Addr}{b:Bool}(I:Inv X pins σ H s)(hu:X.A.units+64<cLine)(h:ItA X.K H p a b):Gh X.A.in1 s (.ref a) (.ref p) b:=by
 cases b with
 |true =>
  obtain⟨n,hn,k⟩:=h;exact LQ I n X.A.in1 _ _ _ _ (by show X.A.units+1+n<cLine;lia) k rfl rfl
 |false =>
  obtain⟨e,xs,ys,ha,hp,hl⟩:=h;obtain⟨us,r1,p1,_⟩:=I.list ha;obtain⟨vs,r2,p2,_⟩:=I.list hp;have l1:=r1.length;have l2:=r2.length;exact Y4 e (anv (A:=X.A.in1) (s:=s) p1.isList p2.isList (by rw[dh,dh,bne_iff_ne];lia) (by show X.A.units+1<cLine;lia))
end
noncomputable def rIn2(K:bB):R2:=fun x y H Q=>∃(p t a b:Addr),x=.ref p/\y=.ref t/\H t=some (.tup [.ref a,.ref b])/\ItA K H p a false/\ItA K H p b false/\Q (.bl false) H
theorem aoR(hu:X.A.units+64<cLine):OpR X (iQ .In) (rIn2 X.K):=by
 intro pins s σ H x y w z Q I rx ry h;obtain⟨p,t,a,b,rfl,rfl,ht,h1,h2,q⟩:=h;obtain rfl:w=Value.ref p:=rx;obtain rfl:z=Value.ref t:=ry;obtain⟨its,r,pl,_⟩:=I.tuple (.inl (.inl ht));obtain⟨u1,u2,rfl,r1,r2⟩:=vals2 r;obtain rfl:u1=Value.ref a:=r1;obtain rfl:u2=Value.ref b:=r2;have e1:=h1.eqAt I hu;have e2:=h2.eqAt I hu;refine SeqAt.in_tupleAt (fun _=>false) pl (fun w hw=>?_) ⟨.bl _,H,I,rfl,by simpa using q⟩;have hw:w=.ref a\/w=.ref b:=by simpa using hw
 rcases hw with rfl|rfl
 ·exact e1
 ·exact e2
noncomputable def rSumL(K:bB):List V->Hp->VK->Prop:=fun xs H Q=>∃(a:Addr)(ns:List Int),xs=[V.ref a]/\SqL K H a (ns.map V.int)/\Q (.int ns.sum) H
theorem pJ(hc:X.calm=true):ju X (.builtin "sum") (rSumL X.K):=by
 intro pins s σ H xs us Q I r h;obtain⟨a,ns,rfl,ha,q⟩:=h;obtain⟨u,rfl,ru⟩:=vals1 r;cases ru;obtain⟨its,rv,p,hz⟩:=I.list ha;have hi:=intsAre_of rv;have hl:=p.isList;obtain⟨ys,e⟩:=hi.allInts.items;have hns:ns=ys.toList.map (·.1):=by rw[<-hi.numsOf,<-afn,<-e]
 rw[e]at hl;refine sum_intListG (I.ok.hd hc) hl fun h' tk t' hk=>⟨.int ns.sum,H,I.kept hk,⟨t',?_⟩,q⟩;rw[preSum_eq,wA (by simp),hns]
theorem Hw{Q:VK}(Pv:Nat->List V->Hp->Prop)(h0:Pv 0 [] (upd H D (.lst [])))
  (hl:∀i ys H,i<=xs.length->Pv i ys H->SqL K H a xs/\H D=some (.lst ys)/\ys.length<sizeLine)
  (hs:∀i ys H x,xs[i]? = some x->Pv i ys H->tt (kj σ (some x) caps) H fun b H2=>if b=true then te (kj σ (some x) caps) H2 fun y H3=>H3 D=some (.lst ys)/\Pv (i+1) (ys++[y]) (upd H3 D (.lst (ys++[y])))else H2 D=some (.lst ys)/\Pv (i+1) ys H2) (hd:∀ys H,Pv xs.length ys H->Q (.ref D) H)
  (monoT:∀σ H (R R':Bool->Hp->Prop),(∀b H,R b H->R' b H)->tt σ H R->tt σ H R')
  (mono:∀σ H (Q Q':VK),(∀y H,Q y H->Q' y H)->te σ H Q->te σ H Q'):
  vI (Itl K a) caps tt te σ D Q H:=by
 refine⟨fun i m ys H=>m=xs.length-i/\i<=xs.length/\Pv i ys H,⟨xs.length,by simp,eO _,h0⟩,?_⟩;rintro i m ys H ⟨rfl,hi,p⟩;obtain⟨sq,q,z⟩:=hl i ys H hi p;refine⟨q,?_⟩;by_cases hlt:i<xs.length
 ·refine .inr ⟨⟨xs,xs[i],sq,by simp[hlt]⟩,z,fun x H' y=>?_⟩;obtain⟨e,y⟩:=y;subst e;refine monoT _ _ _ _ (fun b H2 hb=>?_) (hs i ys _ x (y xs sq) p);cases b with
  |true =>
   rw[if_pos rfl]at hb ⊢;exact mono _ _ _ _ (fun y H3 ⟨a,b⟩=>⟨a,xs.length-(i+1),by lia,rfl,hlt,b⟩) hb
  |false =>
   rw[if_neg (by decide)]at hb ⊢;exact⟨hb.1,xs.length-(i+1),by lia,rfl,hlt,hb.2⟩
 ·have e:i=xs.length:=by lia
  subst e;exact .inl ⟨⟨xs,sq,bG _⟩,hd ys H p⟩
noncomputable def tE(te:TE):Prop:=∀σ H (Q Q':VK),(∀y H,Q y H->Q' y H)->te σ H Q->te σ H Q'
theorem Jj{r:R2}{ta:TE}(hr:∀x y H (Q Q':VK),(∀y H,Q y H->Q' y H)->r x y H Q->r x y H Q')(ma:tE ta)(mb:tE tb):tE (tOp r ta tb):=fun σ H Q Q' hq h =>
 ma σ H _ _ (fun x H1 h1=>mb σ H1 _ _ (fun y H2 h2=>hr x y H2 Q Q' hq h2) h1) h
theorem pq {ta:TE} (ma:tE ta) (mb:tE tb):tE (tOp (Dd K) ta tb):=Jj (fun x y H Q Q' hq h2=>by
 rcases h2 with⟨a1,a2,a3,a4,a5,a6,a7,a8,q⟩|⟨a1,a2,a3,a4,a5,a6,a7,a8,q⟩|⟨a1,a2,a3,a4,q⟩
 ·exact .inl ⟨a1,a2,a3,a4,a5,a6,a7,a8,hq _ _ q⟩
 ·exact .inr (.inl ⟨a1,a2,a3,a4,a5,a6,a7,a8,hq _ _ q⟩)
 ·exact .inr (.inr ⟨a1,a2,a3,a4,hq _ _ q⟩)) ma mb
theorem jG {ta:TE} (ma:tE ta) (mb:tE tb):tE (tOp (rI0 f) ta tb):=Jj (fun x y H Q Q' hq h2=>by
 obtain ⟨a1,a2,a3,a4,q⟩:=h2;exact ⟨a1,a2,a3,a4,hq _ _ q⟩) ma mb
theorem ak2 {C:Int->Int->Prop} {ta:TE} (ma:tE ta) (mb:tE tb):tE (tOp (rI C f) ta tb):=Jj (fun x y H Q Q' hq h2=>by
 obtain ⟨a1,a2,a3,a4,a5,q⟩:=h2;exact ⟨a1,a2,a3,a4,a5,hq _ _ q⟩) ma mb
theorem bL(i:Nat):tE (tVar i):=fun σ H Q Q' hq ⟨v,e,q⟩=>⟨v,e,hq _ _ q⟩
theorem vM(v:V):tE (tC v):=fun σ H Q Q' hq q=>hq _ _ q
noncomputable def Pn(ta:TA):Prop:=∀σ H (Q Q':List V->Hp->Prop),(∀xs H,Q xs H->Q' xs H)->ta σ H Q->ta σ H Q'
theorem uG:Pn ZL:=fun σ H Q Q' hq q=>hq _ _ q
theorem jf{ta:TE}{tr:TA}(ma:tE ta)(mr:Pn tr):Pn (CW ta tr):=fun σ H Q Q' hq h=>ma σ H _ _ (fun x H1 h1=>mr σ H1 _ _ (fun xs H2 h2=>hq _ _ h2) h1) h
theorem LR(ma:Pn ta):tE (ail ta):=fun σ H Q Q' hq h=>ma σ H _ _ (fun xs H1 h1=>⟨h1.1,fun p hp=>hq _ _ (h1.2 p hp)⟩) h
section
variable{td:TE}{cpos apos pos:Pos}
end
noncomputable def MonoT(tt:TT):Prop:=∀σ H (R R':Bool->Hp->Prop),(∀b H,R b H->R' b H)->tt σ H R->tt σ H R'
theorem mV (m:tE te):MonoT (aif te):=fun σ H R R' hr h=>m σ H _ _ (fun y H1 h1=>by
 obtain ⟨b,e,r⟩:=h1;exact ⟨b,e,hr _ _ r⟩) h
theorem BZ(i j:Nat):∀x σ H (R R':St->Hp->Prop),(∀σ H,R σ H->R' σ H)->ac5 K 2 (yx (nM i) (yx (nM j) ac4)) x σ H R->ac5 K 2 (yx (nM i) (yx (nM j) ac4)) x σ H R':=fun x σ H R R' hr h=>by
 obtain⟨a,xs,e,sq,hl,v,r,e1,v2,r2,e2,e3,q⟩:=h;exact⟨a,xs,e,sq,hl,v,r,e1,v2,r2,e2,e3,hr _ _ q⟩
noncomputable def rBits:V->List V->Hp->VK->Prop:=fun x vs H Q=>∃i:Int,x=.int i/\vs=[]/\Q (.int ((uf i:Nat):Int)) H
theorem ak3:MtR X "int.bit_length" rBits:=by
 intro pins s σ H x vs v us Q I rx rv h;obtain⟨i,rfl,rfl,q⟩:=h;obtain⟨t,rfl⟩:∃t,v=Value.int i t:=rx;have hus:=rv.zero;subst hus;exact call_gives afU (typeIs_int s i t) PySem.F.entry_int_bit_length (PySem.F.args_int_bit_length_1 _) (anB i t) (show Made.post _ _ _ from⟨.int _,H,I.tok _,⟨_,rfl⟩,q⟩)
theorem ak4{r:List V->Hp->VK->Prop}(hr:∀vs H (Q Q':VK),(∀y H,Q y H->Q' y H)->r vs H Q->r vs H Q')(ma:Pn ta):tE (tCB r ta):=fun σ H Q Q' hq h=>ma σ H _ _ (fun vs H1 h1=>hr vs H1 Q Q' hq h1) h
theorem Ma (ma:Pn ta):tE (tCB (Vi K) ta):=ak4 (fun vs H Q Q' hq h=>by
 rcases h with⟨x,n,e,l,q⟩|⟨a,kvs,e,r,q⟩
 ·exact .inl ⟨x,n,e,l,hq _ _ q⟩
 ·exact .inr ⟨a,kvs,e,r,hq _ _ q⟩) ma
theorem yM {ta:TE} {f:Str} (ma:tE ta):tE (ZF K ta f):=fun σ H Q Q' hq h=>ma σ H _ _ (fun x H1 h1=>by
 obtain ⟨a,C,dx,fs,v,e,h2,c,n,l,q⟩:=h1;exact ⟨a,C,dx,fs,v,e,h2,c,n,l,hq _ _ q⟩) h
theorem bits_le{x:Int}(h:x.natAbs<2 ^ n):uf x<=n:=by
 unfold uf;split
 ·exact eO _
 ·rename_i hx;have h0:x.natAbs≠0:=by
   intro z;apply hx;have:x=0:=by lia
   rw[this];rfl
  have:=(Ro h0).mpr h;lia
theorem ak5{x:Int}(h:0<=x):x<2 ^ uf x:=by
 unfold uf;split
 ·rename_i hx;have:x=0:=by simpa using hx
  rw[this];decide
 ·have h1:x.natAbs<2 ^ (x.natAbs.log2+1):=Nat.lt_log2_self;have h2:((x.natAbs:Nat):Int)<((2 ^ (x.natAbs.log2+1):Nat):Int):=RD.mpr h1;rw[Bv]at h2;have h3:((x.natAbs:Nat):Int)=x:=by lia
  rw[h3]at h2;exact h2
noncomputable def abr(i j:Int):Prop:=∃n m:Nat,i.natAbs<2 ^ n/\j.natAbs<2 ^ m/\n+m<=134217728
theorem abr.ok{i j:Int}(h:abr i j):XR i j:=by
 obtain⟨n,m,h1,h2,h3⟩:=h;have b1:=bits_le h1;have b2:=bits_le h2;unfold XR;have:agq ((uf i:Int)+uf j)=false:=by
  unfold agq;refine decide_eq_false ?_;show ¬ ((uf i:Int)+uf j>((134217728:Nat):Int));lia
 rw[this];simp
theorem rG:OpR X (pN .Mult) (rI abr fun i j=>.int (i*j)):=opI (C:=abr) (g:=fun i j=>i*j) fun _ _ _ _ _ _ _ hc q=>mul_int q hc.ok
noncomputable def amd(_ j:Int):Prop:=0<j/\∃n:Nat,n<=9000/\j<2 ^ n
theorem Mf:OpR X (pN .FloorDiv) (rI amd fun i j=>.int (i / j)):=
 opI (C:=amd) (g:=fun i j=>i / j) fun i j t u s Q E hc h=>by
  obtain⟨h0,n,h1,h2⟩:=hc;have hl:j.natAbs.log2<9000:=by
   have:j.natAbs≠0:=by lia
   have h3:j.natAbs<2 ^ n:=by
    have:((j.natAbs:Nat):Int)<((2 ^ n:Nat):Int):=by
     rw[Bv];have h4:((j.natAbs:Nat):Int)=j:=by lia
     rw[h4];exact h2
    exact RD.mp this
   have:=(Ro this).mpr h3;lia
  refine Yw tb_g% ?_ (.inl (agO hl));rw[Rz i tb_g%];exact h
theorem Pq{x:Int}(h0:0<=x)(h:x<2 ^ n):x.natAbs<2 ^ n:=by
 have:((x.natAbs:Nat):Int)<((2 ^ n:Nat):Int):=by
  rw[Bv];have h4:((x.natAbs:Nat):Int)=x:=by lia
  rw[h4];exact h
 exact RD.mp this
theorem Dr(ns:List Int)(lo hi:Option Int):∃ms:List Int,Gu (ns.map V.int) lo hi=ms.map V.int/\ms.length<=ns.length/\∀m∈ms,m∈ns:=by
 refine⟨(ns.drop (HT.sIx (ns.map V.int).length 0 lo)).take (HT.sIx (ns.map V.int).length (ns.map V.int).length hi-HT.sIx (ns.map V.int).length 0 lo),?_,?_,fun m hm=>Jy (aes hm)⟩
 ·unfold Gu;rw[aeP,JD]
 ·rw[iw,JB];lia
theorem int_at{y:V}(h:(ns.map V.int)[i]? = some y):∃z,ns[i]? = some z/\y=V.int z:=by
 rw[gQ]at h;cases e:ns[i]? with
 |none=>rw[e]at h;cases h
 |some z=>rw[e]at h;exact⟨z,rfl,(cN h).symm⟩
theorem ak6{i:Int}(h0:0<=i)(h1:i<(ns.length:Int)):∃v,v∈ns/\atI (ns.map V.int) i=some (.int v):=by
 have e:ns[i.toNat]? = some (ns[i.toNat]'tb_g%):=gA tb_g%;refine⟨_,List.mem_of_getElem? e,?_⟩;have:=oY (xs:=ns.map V.int) (j:=i.toNat) (v:=.int (ns[i.toNat]'tb_g%)) (by rw[gQ,e];rfl)
 rwa [Cv h0]at this
theorem four{a b c d v:Int}(h:v∈[a,b,c,d]):v=a\/v=b\/v=c\/v=d:=by simpa using h
theorem ajj(f:Str)(v:V):cF f v []=[(f,v)]:=rfl
theorem ak7(f:Str)(v:V)(r:List (Str × V))(u:V):cF f v ((f,u)::r)=(f,v)::r:=by
 unfold cF;rw[if_pos rfl]
theorem ak8{f g:Str}(h:¬ g=f)(v:V)(r:List (Str × V))(u:V):cF f v ((g,u)::r)=(g,u)::cF f v r:=by
 rw[cF,if_neg h]
theorem cW{f m:Str}{v:V}{r:List (Str × V)}(h:¬ m=f):((f,v)::r).lookup m=r.lookup m:=by
 rw[Xc];rw[beq_eq_false_iff_ne.mpr h]
theorem aoS{Q:VK}(h:SqT K H a xs)(q:Q (.int xs.length) H):Vi K [.ref a] H Q:=.inl ⟨.ref a,xs.length,rfl,.inr ⟨xs,h,rfl⟩,q⟩
theorem VH:decide (V.ref a=V.non)=false:=decide_eq_false (by intro z;cases z)
theorem Mg:decide (V.non=V.non)=true:=decide_eq_true rfl
theorem gh{p:Addr}{H':Hp}(b:But p H H')(h:H' a=none)(n:a≠p):H a=none:=by
 cases e:H a with
 |none=>rfl
 |some o=>rw[b a o e n]at h;cases h
theorem adK:∀{ns ms:List Int},ns.length=ms.length->((jY ns.length).all fun j=>eqV (V.int (ns.getD j 0)) (V.int (ms.getD j 0)))=decide (ns=ms):=by
 intro ns ms hl;by_cases h:ns=ms
 ·subst h;rw[decide_eq_true rfl,Et];intro j _;show(ns.getD j 0 == ns.getD j 0)=true;simp
 ·rw[decide_eq_false h];cases e:((jY ns.length).all fun j=>eqV (V.int (ns.getD j 0)) (V.int (ms.getD j 0)))with
  |false=>rfl
  |true =>
   exfalso;apply h;rw[Et]at e;refine List.ext_getElem? fun i=>?_;by_cases hi:i<ns.length
   ·have:=e i (xg.mpr hi);have this:(ns.getD i 0 == ms.getD i 0)=true:=this;have this:ns.getD i 0=ms.getD i 0:=by simpa using this
    rw[gA hi,gA tb_g%];rw[lZ,lZ,gA hi,gA (show i<ms.length by lia)]at this;exact congrArg some this
   ·rw[wX tb_g%,wX tb_g%]
noncomputable def rEqI(K:bB):R2:=fun x y H Q=>∃(a b:Addr)(ns ms:List Int),x=.ref a/\y=.ref b/\SqL K H a (ns.map V.int)/\SqL K H b (ms.map V.int)/\ns.length=ms.length/\Q (.bl (decide (ns=ms))) H
theorem ajk(hu:X.A.units+64<cLine):OpR X (iQ .Eq) (rEqI X.K):=by
 intro pins s σ H x y v u Q I rx ry h;obtain⟨a,b,ns,ms,rfl,rfl,ha,hb,hl,w⟩:=h;obtain rfl:v=Value.ref a:=rx;obtain rfl:u=Value.ref b:=ry;obtain⟨us,r1,p1,_⟩:=I.list ha;obtain⟨vs,r2,p2,_⟩:=I.list hb;have l1:=r1.length;have l2:=r2.length;rw[aV]at l1 l2;have:=Y6 (A:=X.A) (s:=s) (e:=fun j=>eqV (V.int (ns.getD j 0)) (V.int (ms.getD j 0))) p1.isList p2.isList (by rw[dh,dh,<-l1,<-l2,hl]) tb_g% fun j h1 h2=>by
  have e1:j<us.length:=by simpa using h1
  have e2:j<vs.length:=by simpa using h2
  have g1:(ns.map V.int)[j]? = some (V.int (ns.getD j 0)):=by rw[gQ,lZ,gA (show j<ns.length by lia)];rfl
  have g2:(ms.map V.int)[j]? = some (V.int (ms.getD j 0)):=by rw[gQ,lZ,gA (show j<ms.length by lia)];rfl
  obtain⟨u,k1,r1'⟩:=r1.get g1;obtain⟨v,k2,r2'⟩:=r2.get g2;have m1:us.toArray[j]=u:=by
   rw[gA e1]at k1;simpa using k1
  have m2:vs.toArray[j]=v:=by
   rw[gA e2]at k2;simpa using k2
  rw[m1,m2];exact Sw r1' r2' rfl rfl
 rw[dh,<-l1,adK hl]at this;exact this X.prog X.w X.xe _ ⟨.bl _,H,I,rfl,w⟩
noncomputable def ajl(_ j:Int):Prop:=j≠0/\∃n:Nat,n<=9000/\j.natAbs<2 ^ n
theorem GC:OpR X (pN .FloorDiv) (rI ajl fun i j=>.int (i.fdiv j)):=
 opI (C:=ajl) (g:=fun i j=>i.fdiv j) fun i j t u s Q E hc h=>by
  obtain⟨h0,n,h1,h2⟩:=hc;have hl:j.natAbs.log2<9000:=by
   have h3:j.natAbs≠0:=by lia
   have:=(Ro h3).mpr h2;lia
  exact Yw h0 h (.inl (agO hl))
end L2
namespace OFF
section
variable{x y m n a b c d:Int}
theorem ajm(ha:a=m)(hb:b=m*x)(hc:c=m*x*x):b*b-a*c=0:=by
 subst ha hb hc
 grind
theorem ajn(h:m≠0)(ha:a=m)(hb:b=m*x):b.fdiv a=x:=by
 subst ha hb;rw[YL];exact YF x h
theorem Ds(ha:a=m+n)(hb:b=m*x+n*y)(hc:c=m*x*x+n*y*y):b*b-a*c = -(m*n*((y-x)*(y-x))):=by
 subst ha hb hc
 grind
theorem yN(hm:m≠0)(hn:n≠0)(hxy:x<y)(ha:a=m+n)(hb:b=m*x+n*y)(hc:c=m*x*x+n*y*y):b*b-a*c≠0:=by
 rw[Ds ha hb hc];have h1:m*n≠0:=YH hm hn;have h2:(y-x)*(y-x)≠0:=YH tb_g% tb_g%;have h3:=YH h1 h2;omega
theorem ajo(hm:m≠0)(hn:n≠0)(hxy:x<y)(ha:a=m+n)(hb:b=m*x+n*y)(hc:c=m*x*x+n*y*y)(hd:d=m*x*x*x+n*y*y*y):(b*c-a*d).fdiv (b*b-a*c)=x+y:=by
 have h0:=yN hm hn hxy ha hb hc;have e:b*c-a*d=(x+y)*(b*b-a*c):=by
  rw[Ds ha hb hc];subst ha hb hc hd
  grind
 rw[e];exact YF _ h0
theorem adM(hm:m≠0)(hn:n≠0)(hxy:x<y)(ha:a=m+n)(hb:b=m*x+n*y)(hc:c=m*x*x+n*y*y)(hd:d=m*x*x*x+n*y*y*y):(c*c-b*d).fdiv (b*b-a*c)=x*y:=by
 have h0:=yN hm hn hxy ha hb hc;have e:c*c-b*d=(x*y)*(b*b-a*c):=by
  rw[Ds ha hb hc];subst ha hb hc hd
  grind
 rw[e];exact YF _ h0
theorem aat:(x+y)*(x+y)-4*(x*y)=(y-x)*(y-x):=by grind
theorem ajp{r s:Int}(h0:1<=r)(h0':1<=s)(h:r*r<=s*s)(h1:s*s<(r+1)*(r+1)):r=s:=by
 rcases Int.lt_trichotomy r s with l|l|l
 ·have:=pP (show r+1<=s by omega) (show r+1<=s by omega) tb_g% tb_g%;omega
 ·exact l
 ·have:=Int.mul_lt_mul' (show s<=r by omega) l tb_g% tb_g%;omega
theorem ak9:(x+y-(y-x)) / 2=x:=by omega
theorem ajq(hxy:x<y)(ha:a=m+n)(hb:b=m*x+n*y):(b-x*a) / (y-x)=n:=by
 have e:b-x*a=n*(y-x):=by subst ha hb;grind
 rw[e];exact Int.mul_ediv_cancel _ tb_g%
end
end OFF
namespace L2
open PySem PySem.Spec PyProof.Rows
section
variable{X:Cx}{l:Expr}{td:TE}{p cpos apos pos:Pos}
noncomputable def aoT(td:TE):TE:=fun σ H Q=>td σ H fun x H1=>∃a kvs ns,x=.ref a/\Rd H1 a (.dK kvs)/\(kvs.map fun p=>kV p.1)=ns.map V.int/\ns.length<64 /\
 ∀(l:Addr)(ns':List Int),H1 l=none->ns'.Perm ns->ns'.Pairwise (· <= ·)->Q (.ref l) (upd H1 l (.lst (ns'.map V.int)))
theorem Mh(hm0:X.mg "sorted" = none)(hl:PE X l td)(m:MI X l "keys" apos cpos)(hc:X.calm=true)(hg:Gl X "sorted" := by rfl)
  (he:cT [.Call (.Attribute l "keys" apos) [] [] cpos] X.env=[(false,eval (.Call (.Attribute l "keys" apos) [] [] cpos) X.env)]:=by rfl):
  PE X (.Call (.Name "sorted" p) [.Call (.Attribute l "keys" apos) [] [] cpos] [] pos) (aoT td):=by
 intro pins s σ H Q I h;refine Call_ (j7 I hg hm0 boot_sorted (af7 ?_ he rfl));rw[he];refine Cw (Qt (T := "dict") (id := "dict.keys") m.base rfl m.line Rp af2 PySem.F.type_dict_keys (thn (hl pins s σ H _ I h) fun v s1 ⟨x,H1,I1,r1,q1⟩=>?_));obtain⟨a,kvs,ns,rfl,e,ei,h64,q⟩:=q1;obtain rfl:v=Value.ref a:=r1;obtain⟨t1,t2,hS⟩:=SN I1 (.inl ⟨kvs,e⟩);refine⟨t1,t2,?_⟩;obtain⟨z,_,vs,rel,dd⟩:=wD I1.hok e;obtain⟨ep,dm⟩:=dd.dictAt;have hlen:=rel.length;have hns:ns.length=kvs.length:=by have:=congrArg mC ei;simpa using this.symm
 refine Xn af2 PySem.F.entry_dict_keys rfl (Qq ⟨rfl,t1,PySem.F.args_dict_keys_1 _,_,PySem.W.kdl_meets_keys (cP X.prog X.w) a hS,⟨vs,dd⟩,?_⟩);refine yq ?_;show wpAny _ _ (call (.builtin "sorted") [.ref s1.heap.objs.size]) _ _ _;have I2:=I1.kept (h':=s1.heap.push { cls:=.type "dict_keys",data:=.fields #[.ref a] }) (t':=s1.toks) fun b ob e=>dX _ e;refine Lk (X:=X) (ns:=ns) (PySem.W.kdl_keys (knd:=cP X.prog X.w) (kvs:=vs) (ep:=ep)) (I1.ok.hd hc) ⟨⟨_,eE _ rfl,rfl,rfl⟩,dm.push _⟩ (by rw[<-hlen];exact z) tb_g% (fun us hu hv=>?_) fun h' tk l' out ns' e' kp hne hl' hI hp ho=>?_
 ·have vv:=zO rel hu hv;rw[ei]at vv;exact intsAre_of vv
 ·refine⟨.ref l',_,I2.Ht (t':=tk) kp hne (show dR X.prog X.w _ h' l' (.lst (ns'.map V.int))from⟨?_,out.toList,e',mR hI,by simpa using hl'⟩),rfl,q l' ns' (I2.none_of hne) hp ho⟩;rw[aV,hp.length_eq,hns];exact z
end
section
variable{X:Cx}
noncomputable def ala:V->List V->Hp->VK->Prop:=fun x vs H Q=>∃(l:Addr)(xs:List V)(k:Nat)(y:V),x=.ref l/\vs=[.int k,y]/\H l=some (.lst xs)/\k<=xs.length/\xs.length<1000/\Q .non (upd H l (.lst (xs.take k++y::xs.drop k)))
theorem Pr:MtM X "list.insert" ala:=by
 intro pins s σ H x vs v us Q I rx rv h;obtain⟨l,xs,k,y,rfl,rfl,hH,hk,h1,q⟩:=h;cases rx;obtain⟨u0,u,rfl,ru0,ru⟩:=vals2 rv;obtain⟨t,rfl⟩:=ru0;obtain⟨z,its,n,r,hl,e⟩:=I.Ij hH;have fit:am9 (k:Int)=true:=ae9 tb_g% tb_g%;have sl:(1000:Nat)<=sizeLine:=by decide
 have h0:¬ (k:Int)<0:=by lia
 have hm:min (k:Int).toNat its.toArray.size=k:=by rw[dh];lia
 have hz:its.toArray.size<=sizeLine:=by rw[dh];lia
 generalize (k:Int)=x at fit h0 hm ⊢;refine Bf F.slot_list_insert ⟨_,e,rfl⟩ F.entry_list_insert (F.args_list_insert_3 _ _ _)
  (anx l its.toArray n x t u (by rw[fit];exact fun z=>nomatch z) hz) ⟨e,?_⟩
 refine⟨.non,_,I.lset (its':=its.take k++u::its.drop k) hH e ?_ ?_ ?_,rfl,q⟩
 ·show(its.toArray.extract 0 (if x<0 then(x+(its.toArray.size:Int)).toNat else min x.toNat its.toArray.size)).push u++its.toArray.extract (if x<0 then(x+(its.toArray.size:Int)).toNat else min x.toNat its.toArray.size)=_;rw[if_neg h0,hm];apply Yp.mp;simp[wA]
 ·exact(r.take k).append (.cons ru (r.drop k))
 ·rw[fj,iw,jo,JB];lia
end
end L2
namespace Dec
noncomputable abbrev dg(n:Nat):List Char:=Nat.toDigits 10 n
theorem Pu{n:Nat}(h:n<10):dg n=[Kg n]:=Nat.toDigits_of_lt_base h
theorem abt{n:Nat}(h:10<=n):dg n=dg (n / 10)++dg (n % 10):=by
 have:=Nat.toDigits_append_toDigits (b:=10) (n:=n / 10) (d:=n % 10) (by decide) tb_g% tb_g%;rw[show 10*(n / 10)+n % 10=n by lia]at this;exact this.symm
theorem ajr(n:Nat):(dg (n % 10)).length=1:=by rw[Pu tb_g%];rfl
theorem aau:∀(k:Nat){m:Nat},1<=k->m<10 ^ k->(dg m).length<=k
 |0,_,h,_=>by lia
 |k+1,m,_,h=>by
  rcases jO m 10 with l|l
  ·rw[Pu l];exact afH (eO _)
  ·rw[abt l,fj,ajr];have hk:1<=k:=by
    rcases Ke k with rfl|z
    ·rw[FZ,Nat.pow_one]at h;lia
    ·exact z
   have:=aau k hk (m:=m / 10) (by rw[sO]at h;lia);lia
end Dec
namespace Dec
open PySem
noncomputable def tx(cs:List Char):Str:=⟨(cs.map yt).toArray⟩
theorem ajs(cs:List Char):(tx cs).length=cs.length:=by
 show((cs.map yt).toArray).size=_;rw[dh,aV]
theorem alb(n:Nat):(Yi n).toList=dg n:=by
 unfold Yi;exact String.toList_ofList
theorem alc(n:Nat):bK (toString (n:Int))=tx (dg n):=by
 rw[Str.ofString_eq_toList,show toString (n:Int)=Yi n from rfl,alb];rfl
theorem ajt{n:Nat}{c:Char}(h:c∈dg n):48<=c.toNat/\c.toNat<=57:=by
 have:=Nat.isDigit_of_mem_toDigits (by decide) (by decide) h;simp[Char.isDigit]at this;exact⟨this.1,this.2⟩
theorem aju(n:Nat):dg n≠[]:=by
 rcases jO n 10 with l|l
 ·rw[Pu l];exact u9 _ _
 ·rw[abt l];intro e;have:=congrArg mC e;rw[fj,ajr]at this;simp at this
end Dec
namespace L2
open PySem PySem.Spec PyProof.Rows
section
variable{X:Cx}
theorem abu:∀{ys:List Str}{its:List Value},Vals (ys.map V.str) its->StrsAre its ys
 |[],_,h=>by cases h;exact .nil
 |y::ys,_,h=>by
  cases h with
  |cons r1 r2=>obtain⟨t,rfl⟩:=r1;exact .cons _ _ (abu r2)
noncomputable def rJoin(K:bB):V->List V->Hp->VK->Prop:=fun x vs H Q=>∃(sep:Str)(a:Addr)(ys:List Str),x=.str sep/\vs=[.ref a]/\SqL K H a (ys.map V.str)/\sep.length<=16/\(ys.map (·.length)).sum+ys.length<=1048576/\Q (.str (fu sep ys)) H
theorem abv:MtR X "str.join" (rJoin X.K):=by
 intro pins s σ H x vs v us Q I rx rv h;obtain⟨sep,a,ys,rfl,rfl,hs,h16,hw,q⟩:=h;obtain⟨t,rfl⟩:=(show ∃t,v=Value.str sep t from rx);obtain⟨u,rfl,ru⟩:=vals1 rv;cases ru;obtain⟨its,r,p,hz⟩:=I.list hs;exact join_listW p.isList (abu r) h16 hw fun t' k=>⟨.str _,H,I.tok k,⟨t',rfl⟩,q⟩
end
end L2
namespace Dec
open PySem PySem.NumText
theorem aoU(n:Nat):digitsVal ((dg n).map yt)=n:=by
 induction n using Bs with
 |_ n ih =>
  have one:∀m,m<10->(Kg m).toNat-48=m:=by decide
  rcases jO n 10 with l|l
  ·rw[Pu l];have:=one n l;show 0*10+((Kg n).toNat-48)=n;lia
  ·rw[abt l,Pu (n:=n % 10) tb_g%,cM];show digitsVal (_++[(Kg (n % 10)).toNat])=n;rw[digitsVal_snoc,ih (n / 10) tb_g%,one (n % 10) tb_g%];lia
theorem pA(cs:List Char):(tx cs).cps.toList=cs.map yt:=by unfold tx;simp
theorem Tg(n:Nat):AllDigits ((dg n).map yt):=fun c m=>by
 obtain⟨d,hd,rfl⟩:=jq.mp m;exact ajt hd
theorem ajv{n:Nat}(h:(dg n).length<=640):intText? (tx (dg n))=some (n:Int):=by
 rw[intText_digits (by rw[pA];exact Tg n) (by rw[pA];simpa using aju n) (by rw[ajs];lia),pA,aoU]
theorem ald{c:Nat}(h:48<=c/\c<=57):YS (bK "0123456789") ⟨#[c]⟩=true:=by
 have all:∀k,k<10->YS (bK "0123456789") ⟨#[48+k]⟩=true:=by decide +kernel
 have:=all (c-48) tb_g%
 rwa [show 48+(c-48)=c by lia]at this
theorem ale{n:Nat}(h:0<n):∃c r,(dg n).map yt=c::r/\49<=c:=by
 induction n using Bs with
 |_ n ih =>
  have one:∀m,m<10->0<m->49<=(Kg m).toNat:=by decide
  rcases jO n 10 with l|l
  ·exact⟨_,[],by rw[Pu l];rfl,one n l h⟩
  ·obtain⟨c,r,e,hc⟩:=ih (n / 10) tb_g% tb_g%;exact⟨c,r++(dg (n % 10)).map yt,by rw[abt l,cM,e];rfl,hc⟩
end Dec
namespace L2
open PySem PySem.Spec PySem.Builtin PySem.Builtin.Str PyProof.Rows
section
variable{X:Cx}
theorem Mi:∀l:List (Str × Tok),Vals ((l.map (·.1)).map V.str) (XQ l)
 |[]=>.nil
 |p::l=>.cons ⟨p.2,rfl⟩ (Mi l)
theorem Ca{pins:List (Addr × Obj)}{s:Shared}{σ:St}{H:Hp}{Q:VK}{k:Nat}(I:Inv X pins σ H s)(l:List (Str × Tok)){ys:List Str}(e:l.map (·.1)=ys)(hl:ys.length<=sizeLine)
  (q:∀D,H D=none->Q (.ref D) (upd H D (.lst (ys.map V.str)))):EP X pins σ Q (.ref s.heap.objs.size) { s with heap:=s.heap.push { cls:=.type "list",data:=.seq (XQ l).toArray },toks:=k }:=by
 refine⟨.ref s.heap.objs.size,_,I.laid (t':=k) (fun b u h=>dX _ h) (bG _) (show dR X.prog X.w _ _ s.heap.objs.size (.lst (ys.map V.str))from⟨by rw[aV];exact hl,XQ l,0,by rw[<-e];exact Mi l,Heap.get?_push_at rfl rfl⟩),rfl,q _ (I.hok.fresh (bG _))⟩
noncomputable def aoV:V->List V->Hp->VK->Prop:=fun x vs H Q=>∃z y:Str,x=.str z/\vs=[.str y]/\(y.length == 0)=false/\z.length<=1048576/\∀D,H D=none->Q (.ref D) (upd H D (.lst ((sX z y).map V.str)))
theorem VJ:MtR X "str.split" aoV:=by
 intro pins s σ H x vs v us Q I rx rv h;obtain⟨z,y,rfl,rfl,hy,hz,q⟩:=h;obtain⟨t,rfl⟩:=(show ∃t,v=Value.str z t from rx);obtain⟨u,rfl,ru⟩:=vals1 rv;obtain⟨k,rfl⟩:=ru;have big:z.length+2<=sizeLine:=eN (show _<=1048578 by lia) (by decide);have hn:(partsBetween z (occurrences z y 0 z.length (z.length+1)) y.length).length<=sizeLine:=by
  have:=StrLaws.occ_length_le z y 0 z.length (z.length+1);rw[ae0];lia
 unfold sX at q;cases c1:(decide (z.length<y.length) || decide (agN z<agN y))with
 |true =>
  rw[if_pos c1]at q;refine Bf F.slot_str_split (Fw _ _ _) F.entry_str_split (F.args_str_split_2 _ _) (meets_str_split_cannot_occur z y t k c1) ?_;exact Ca I [(z,t)] rfl (by show 1<=sizeLine;decide) q
 |false =>
  rw[if_neg (ne_true_of_eq_false c1)]at q;cases c2:(occurrences z y 0 z.length (z.length+1)).isEmpty with
  |true =>
   rw[if_pos c2]at q;refine Bf F.slot_str_split (Fw _ _ _) F.entry_str_split (F.args_str_split_2 _ _) (meets_str_split_not_found z y t k c1 hy c2) ?_;exact Ca I [(z,t)] rfl (by show 1<=sizeLine;decide) q
  |false =>
   rw[if_neg (ne_true_of_eq_false c2)]at q;refine Bf F.slot_str_split (Fw _ _ _) F.entry_str_split (F.args_str_split_2 _ _) (meets_str_split_sep z y t k c1 hy c2 tb_g% hn) ?_;have e:=Ca (k:=s.toks+(partsBetween z (occurrences z y 0 z.length (z.length+1)) y.length).length) I (numbered s.toks (partsBetween z (occurrences z y 0 z.length (z.length+1)) y.length)) (numbered_texts _ _) hn q;rw[<-strsFrom_eq]at e;exact e
noncomputable def alf:V->List V->Hp->VK->Prop:=fun x vs H Q=>∃z y:Str,x=.str z/\vs=[.str y]/\Q (.bl (agB z y)) H
theorem N8:MtR X "str.startswith" alf:=by
 intro pins s σ H x vs v us Q I rx rv h;obtain⟨z,y,rfl,rfl,q⟩:=h;obtain⟨t,rfl⟩:=(show ∃t,v=Value.str z t from rx);obtain⟨u,rfl,ru⟩:=vals1 rv;obtain⟨k,rfl⟩:=ru;exact an9 ⟨.bl _,H,I,rfl,q⟩
theorem ajw:OpR X (iQ .In) (fun x y H Q=>∃a b:Str,x=.str a/\y=.str b/\Q (.bl (YS b a)) H):=by
 intro pins s σ H x y v u Q I rx ry h;obtain⟨a,b,rfl,rfl,q⟩:=h;obtain⟨t,rfl⟩:=(show ∃t,v=Value.str a t from rx);obtain⟨k,rfl⟩:=(show ∃t,u=Value.str b t from ry);exact PySem.P.in_str ⟨.bl _,H,I,rfl,q⟩
theorem aav:ju X (.type "int") (fun xs H Q=>∃(z:Str)(n:Int),xs=[.str z]/\z.length<=640/\PySem.intText? z=some n/\Q (.int n) H):=by
 intro pins s σ H xs us Q I r h;obtain⟨z,n,rfl,hz,e,q⟩:=h;obtain⟨u,rfl,t,rfl⟩:=vals1 r;exact an7 e hz ⟨.int n,H,I.tok _,⟨_,rfl⟩,q⟩
end
noncomputable def ji(c:Nat):List (List Nat)->List Nat
 |[]=>[]
 |[a]=>a
 |a::b::r=>a++c::ji c (b::r)
theorem ajx{c:Nat}:∀{a b X Y:List Nat},c∉a->c∉b->a++c::X=b++c::Y->a=b/\X=Y
 |[],[],_,_,_,_,e=>⟨rfl,(RV e).2⟩
 |[],y::b,_,_,_,h,e=>absurd (cO.mpr (.inl (RV e).1)) h
 |x::a,[],_,_,h,_,e=>absurd (cO.mpr (.inl (RV e).1.symm)) h
 |x::a,y::b,_,_,h,g,e=>by
  obtain⟨e1,e2⟩:=RV e;obtain⟨e3,e4⟩:=ajx (fun m=>h (fX _ m)) (fun m=>g (fX _ m)) e2;exact⟨by rw[e1,e3],e4⟩
theorem ajy{c:Nat}:∀{A B:List (List Nat)},A≠[]->B≠[]->(∀a∈A,c∉a)->(∀b∈B,c∉b)->ji c A=ji c B->A=B
 |[],_,h,_,_,_,_=>absurd rfl h
 |_::_,[],_,h,_,_,_=>absurd rfl h
 |[a],[b],_,_,_,_,e=>by rw[show a=b from e]
 |[a],b::d::r,_,_,h,_,e=>absurd (by rw[show a=b++c::ji c (d::r)from e];exact mj _ dO) (h a dO)
 |a::d::r,[b],_,_,_,h,e=>absurd (by rw[<-show a++c::ji c (d::r)=b from e];exact mj _ dO) (h b dO)
 |a::d::r,b::f::s,_,_,h,g,e=>by
  obtain⟨e1,e2⟩:=ajx (h a dO) (g b dO) e;rw[e1,ajy (u9 _ _) (u9 _ _) (fun x m=>h x (fX _ m)) (fun x m=>g x (fX _ m)) e2]
theorem Ti(c:Nat):∀ts:List Str,(Rb ⟨#[c]⟩ ts).cps.toList=ji c (ts.map fun t=>t.cps.toList)
 |[]=>rfl
 |[a]=>rfl
 |a::b::r=>by
  show(a.cps++#[c]++(Rb ⟨#[c]⟩ (b::r)).cps).toList=_;rw[Kq,Kq,Ti c (b::r),pL];rfl
theorem ajz(x y:Str):sX x y≠[]:=by
 unfold sX;split
 ·exact u9 _ _
 ·split
  ·exact u9 _ _
  ·rename_i h;intro e;have:=ae0 x (occurrences x y 0 x.length (x.length+1)) y.length;rw[e]at this;cases this
theorem Mj{c:Nat}{ts:List Str}(ne:ts≠[])(free:∀t∈ts,c∉t.cps.toList):sX (fu ⟨#[c]⟩ ts) ⟨#[c]⟩=ts:=by
 have e:=StrLaws.join_split (fu ⟨#[c]⟩ ts) ⟨#[c]⟩;have f:=StrLaws.split_free (fu ⟨#[c]⟩ ts) c;have n:=ajz (fu ⟨#[c]⟩ ts) ⟨#[c]⟩;generalize sX (fu ⟨#[c]⟩ ts) ⟨#[c]⟩=us at e f n;have e2:Rb ⟨#[c]⟩ us=Rb ⟨#[c]⟩ ts:=e.trans (StrLaws.glued_eq_join _ _);have e3:=congrArg (fun z:Str=>z.cps.toList) e2;rw[Ti,Ti]at e3;have inj:∀{us ts:List Str},us.map (fun t=>t.cps.toList)=ts.map (fun t=>t.cps.toList)->us=ts:=fun {us ts} h=>by
  have:∀us:List Str,(us.map fun t=>t.cps.toList).map (fun l=>(⟨l.toArray⟩:Str))=us:=fun us=>by
   rw[mK];exact(Es fun t _=>by cases t;simp).trans (aeS us)
  rw[<-this us,h,this]
 refine inj (ajy (fun z=>n (Qk.mp z)) (fun z=>ne (Qk.mp z)) (fun a m=>?_) (fun a m=>?_) e3)
 ·obtain⟨t,mt,rfl⟩:=jq.mp m;exact f t mt
 ·obtain⟨t,mt,rfl⟩:=jq.mp m;exact free t mt
end L2
namespace L2
open PySem PySem.Spec PyProof.Rows
noncomputable def Itc(z:Str):It:=⟨fun i _=>i<z.cps.size,fun i H x H'=>H'=H/\∃c,z.cps[i]? = some c/\x=.str ⟨#[c]⟩,fun i _=>i=z.cps.size⟩
theorem VL{P:bh}{w:World}{K:bB}{tg:Expr}(it:Addr)(z:Str)(t:Tok){ty:String}(hty:["enumerate","zip","dict_itemiterator","dict_reverseitemiterator","odict_iterator","itertools.zip_longest","itertools.pairwise"].contains ty=false)
  (W:∀A:bY,A.handled=none->Walks P w A it [it] [it] z.cps.size (SignAt z) fun i h=>h.IsStrIter it ty z t i)
  (S:∀(A:bY)(i:Nat)(s:Shared)(Q:Value->Shared->Prop)(E:Value->Shared->Prop),s.heap.IsStrIter it ty z t i->Q (.ref it) s->wpAny (model P w) A (xT (.ref it)) Q E s):Turn P w K tg (Itc z) [it] it (fun i h=>h.IsStrIter it ty z t i) where
 mem:=by simp
 obj:=fun i h st b hb=>by
  have e:b=it:=by simpa using hb
  subst e;obtain⟨o,e,c,d⟩:=st;exact⟨o,e,fun v y=>by rw[d]at y;cases y⟩
 keep:=fun i h h' st k=>(W { } rfl).frame i h h' st k
 item:=by
  intro X hP hw hK hc i pins s σ H E I hf st hg;subst hP hw hK;obtain⟨f0,f1,f2,f3,f4,f5⟩:=hf it (by simp);refine(W X.A (I.ok.hd hc)).item i s _ _ hg st fun v h' tk hv st' kk=>?_;obtain⟨c,u,hx,rfl⟩:=hv;have I1:Inv X pins σ H { s with heap:=h',toks:=tk }:=I.turned (fun b o hb e=>kk b o (by simpa using hb) e) f0 f1 f3 f4 f5;have st2:=st';obtain⟨o,ho,hcl,hd⟩:=st2;exact⟨_,rfl,Va (s:={ s with heap:=h',toks:=tk }) ho hcl hd hty ⟨.str ⟨#[c]⟩,H,I1,⟨u,rfl⟩,⟨rfl,c,hx,rfl⟩,st',fun b hb=>(hf b hb).1⟩⟩
 done:=by
  intro X hP hw hK hc i pins s σ H E I hf st hg;subst hP hw hK;obtain⟨f0,f1,f2,f3,f4,f5⟩:=hf it (by simp);obtain rfl:i=z.cps.size:=hg;exact(W X.A (I.ok.hd hc)).done s _ _ st fun h' tk kk=>⟨rfl,I.turned (t':=tk) (fun b o hb e=>kk b o (by simpa using hb) e) f0 f1 f3 f4 f5⟩
 self:=S
section
variable{X:Cx}{tg:Expr}
noncomputable def iStr(tl:TE):TI:=fun σ H R=>tl σ H fun x H1=>∃z,x=.str z/\R (Itc z) H1
theorem aoW{l:Expr}{tl:TE}(hl:PE X l tl):PI X tg l (iStr tl):=by
 intro pins s σ H R I h;refine thn (hl pins s σ H _ I h) fun v s1 ⟨x,H1,I1,r1,q1⟩=>?_;obtain⟨z,rfl,q⟩:=q1;obtain⟨t,rfl⟩:=(show ∃t,v=Value.str z t from r1);have fp:∀b∈[s1.heap.objs.size],yF X pins H1 b:=fun b hb=>by
  have e:b=s1.heap.objs.size:=by simpa using hb
  subst e;exact I1.Zv (bG _) (I1.hok.fresh (bG _))
 cases ha:z.cps.all (· < 128)with
 |true=>exact wpAny_pyIter_ascii ha ⟨_,_,_,_,H1,rfl,I1.kept (t':=s1.toks) fun b o e=>dX _ e,VL _ z t (by decide) (fun A hA=>Walks.strAscii hA _ z t) (fun _ _ _ _ _ st hQ=>wpAny_pyIter_striter_ascii st hQ),⟨_,eE _ rfl,rfl,rfl⟩,fp,q⟩
 |false=>exact wpAny_pyIter_wide ha ⟨_,_,_,_,H1,rfl,I1.kept (t':=s1.toks) fun b o e=>dX _ e,VL _ z t (by decide) (fun A hA=>Walks.strWide hA _ z t) (fun _ _ _ _ _ st hQ=>wpAny_pyIter_striter_wide st hQ),⟨_,eE _ rfl,rfl,rfl⟩,fp,q⟩
end
theorem ajA{z:Str}{caps:List Nat}{te:TE}{σ:St}{H:Hp}{D:Addr}{Q:VK}(Pv:Nat->List V->Hp->Prop)(h0:Pv 0 [] (upd H D (.lst [])))
  (hl:∀i ys H,i<=z.cps.size->Pv i ys H->H D=some (.lst ys)/\ys.length<sizeLine)
  (hs:∀i ys H c,z.cps[i]? = some c->Pv i ys H->te (kj σ (some (.str ⟨#[c]⟩)) caps) H fun y H3=>H3 D=some (.lst ys)/\Pv (i+1) (ys++[y]) (upd H3 D (.lst (ys++[y]))))
  (hd:∀ys H,Pv z.cps.size ys H->Q (.ref D) H) (mE:∀σ H (Q Q':VK),(∀y H,Q y H->Q' y H)->te σ H Q->te σ H Q'):vI (Itc z) caps oZ te σ D Q H:=by
 refine⟨fun i m ys H=>m=z.cps.size-i/\i<=z.cps.size/\Pv i ys H,⟨_,rfl,eO _,h0⟩,?_⟩;rintro i m ys H ⟨rfl,hi,p⟩;obtain⟨q,l⟩:=hl i ys H hi p;refine⟨q,?_⟩;rcases jO i z.cps.size with lt|ge
 ·refine .inr ⟨lt,l,fun x H' y=>?_⟩;obtain⟨rfl,c,hc,rfl⟩:=y;unfold oZ;dsimp only;rw[if_pos rfl];exact mE _ _ _ _ (fun y H3 ⟨a,b⟩=>⟨a,z.cps.size-(i+1),by lia,rfl,lt,b⟩) (hs i ys _ c hc p)
 ·obtain rfl:i=z.cps.size:=by lia
  exact .inl ⟨rfl,hd ys H p⟩
section
variable{X:Cx}
noncomputable def rAllL(K:bB):List V->Hp->VK->Prop:=fun xs H Q=>∃(a:Addr)(bs:List Bool),xs=[V.ref a]/\SqL K H a (bs.map V.bl)/\Q (.bl (bs.all id)) H
theorem VN:∀{bs:List Bool}{its:List Value},Vals (bs.map V.bl) its->∀(i:Nat)(v:Value),its.toArray[i]? = some v->∃b,bs[i]? = some b/\v=Value.bool b
 |[],_,h,i,v,e=>by cases h;simp at e
 |b::bs,_,h,i,v,e=>by
  cases h with
  |cons r1 r2 =>
   cases i with
   |zero=>obtain rfl:=(show _=Value.bool b from r1);exact⟨b,rfl,by simpa using e.symm⟩
   |succ i=>exact VN r2 i v (by simpa using e)
theorem range_all{bs:List Bool}:(jY bs.length).all (fun i=>bs.getD i true)=bs.all id:=by
 rw[Km,Et,Et];constructor
 ·intro h b m;obtain⟨i,hi⟩:=aeu m;have:=h i (xg.mpr (gn.mp hi).1);rw[lZ,hi]at this;exact this
 ·intro h i m;have li:=xg.mp m;rw[lZ,gA li];exact h _ (uZ li)
theorem zT(hc:X.calm=true):ju X (.builtin "all") (rAllL X.K):=by
 intro pins s σ H xs us Q I r h;obtain⟨a,bs,rfl,ha,q⟩:=h;obtain⟨u,rfl,ru⟩:=vals1 r;cases ru;obtain⟨its,rv,p,hz⟩:=I.list ha;have hl:its.length=bs.length:=by rw[<-rv.length,aV]
 have ne:a≠s.heap.objs.size:=cH (bU (p.isList.choose_spec.1));refine call_all_walk (EY p.isList ⟨s.heap.objs.size,_,_,_,_,_,fun i=>bs.getD i true,rfl,RW (A:=X.A.in1) (I.ok.hd hc) _ a ne its.toArray,⟨⟨_,eE _ rfl,rfl,rfl⟩,?_⟩,?_,fun h' tk hk=>?_⟩)
 ·exact p.isList.push _
 ·intro i v s' Q' E' hv hq;obtain⟨b,hb,rfl⟩:=VN rv i v hv;dsimp only at hq;rw[lZ,hb]at hq;exact xG hq
 ·refine⟨.bl (bs.all id),H,I.kept (t':=tk) fun b o e=>hk b o (fun m=>?_) (dX _ e),?_,q⟩
  ·have l1:=bU e;rw[cZ.mp m]at l1;exact ud _ l1
  ·rw[dh,hl,range_all];rfl
end
end L2
namespace L2
open PySem PySem.Spec PySem.Builtin PySem.Builtin.Str PyProof.Rows
section
variable{X:Cx}
noncomputable def rSlS:V->Option Int->Option Int->Hp->VK->Prop:=fun x lo hi H Q=>∃z:Str,x=.str z/\z.length<=1048576/\Q (.str (agC z lo hi)) H
theorem aoX:SlR X rSlS:=by
 intro pins s σ H x v vl vu lo hi sl Q I rx hs pl pu h;obtain⟨z,rfl,hz,q⟩:=h;obtain⟨t,rfl⟩:=(show ∃t,v=Value.str z t from rx);have big:z.length<=sizeLine:=eN hz (by decide);have fin:∀t' k,EP X pins σ Q (.str (agC z lo hi) t') { s with toks:=k }:=fun t' k=>⟨.str _,H,I.tok _,⟨t',rfl⟩,q⟩;refine⟨"str",_,F.slot_str_getitem.lookup,Fw _ _ _,?_⟩;cases pl <;> cases pu
 ·exact Qp (l:=none) (u:=none) (st:=none) hs rfl (Qv ⟨eN (RN z _ _) big,fin⟩)
 ·exact Qp (l:=none) (u:=some (_,_)) (st:=none) hs rfl (Qv ⟨eN (RN z _ _) big,fin⟩)
 ·exact Qp (l:=some (_,_)) (u:=none) (st:=none) hs rfl (Qv ⟨eN (RN z _ _) big,fin⟩)
 ·exact Qp (l:=some (_,_)) (u:=some (_,_)) (st:=none) hs rfl (Qv ⟨eN (RN z _ _) big,fin⟩)
end
end L2
namespace PySem
open Sem (wp)
open L2 (cP)
noncomputable abbrev GD(h:Heap)(z TI TO:Addr)(f0:Value)(b:Bool):Prop:=
 h.get? z=some { cls:=.type "zip",dict:=none,data:=.fields #[f0,.bool b,.bool false,.ref TI,.ref TO],slots:=#[] }
namespace F
theorem VP:xM (.type "zip") "keys" = pure none:=ae8 tb_g%
theorem Ml:xM (.type "zip") "__getattr__" = pure none:=ae8 tb_g%
theorem uH:vp table "zip.__getattribute__" = some eG.«object.__getattribute__» :=
 Qw (id' := "object.__getattribute__") (by kernel_rfl) tb_g% tb_g% (by kernel_rfl)
theorem lM:QT "dict.update.loop" = true:=by decide +kernel
theorem vN:vp table "dict.update.loop" = some eG.«dict.update.loop» := ae6 (by kernel_rfl)
end F
theorem Mp(a:Addr)(fs:Array Value)(u:Tok):
  Meets (eG.«object.__getattribute__» ⟨[.ref a,.str "keys" u],[]⟩) (fun A R s=>s.heap.get? a=some { cls:=.type "zip",dict:=none,data:=.fields fs,slots:=#[] }/\raisesAttr (.ref a) "keys" A R s):=
 Meets.of_wp fun prog w A R s hs=>by
  obtain⟨hp,g,d,tk,os⟩:=s;obtain⟨hx,hs⟩:=hs;have hT:(⟨hp,g,d,tk,os⟩:Shared).TypeIs (.ref a) "zip" := ⟨_,hx,rfl⟩;have hmiss:=F.VP;have hname:(["__module__","__name__","__qualname__","__doc__","__annotations__"]:List Str).contains "keys" = false:=by decide +kernel
  unfold eG.«object.__getattribute__»
  repeat (any_goals (first|assumption|wp_step))
  exact wpAny_raiseAttrError hs.1 hs.2 tb_g%
theorem ajB{prog:bh}{w:World}{A:bY}{E:Value->Shared->Prop}{s:Shared}{a:Addr}{fs:Array Value}{Q:Option Value->Shared->Prop}(hx:s.heap.get? a=some { cls:=.type "zip",dict:=none,data:=.fields fs,slots:=#[] })(hA:A.handled=none)
  (h:∀h' tk,(∀b o,s.heap.get? b=some o->h'.get? b=some o)->Q none { s with heap:=h',toks:=tk }):wpAny (model prog w) A (getAttr? (.ref a) "keys") Q E s:=by
 obtain⟨hp,g,d,tk,os⟩:=s;have hT:∀tk',(⟨hp,g,d,tk',os⟩:Shared).TypeIs (.ref a) "zip" := fun _=>⟨_,hx,rfl⟩;have f1:=sub_AttributeError;have f3:=F.slot_zip_getattribute.lookup;have f4:=F.slot_zip_getattribute.bind (.ref a);have f5:=F.Ml;unfold getAttr? getAttrBy? getAttrBy
 repeat (any_goals (first|assumption|exact hT _|((with_reducible show wpAny _ _ (call (Value.builtin "zip.__getattribute__") _ _) _ _ _);refine Bf F.slot_zip_getattribute (hT _) F.uH (F.args_zip_getattribute_2 _ _) (Mp a fs _) ⟨hx,hA,fun h' tk' e hx'=>?_⟩)|wp_step))
 obtain⟨t',u',he⟩:=hx'.there;show wpAny _ _ (ae2 _ _ _ _ _ _ _) _ _ _;unfold ae2
 repeat (any_goals (first|assumption|wp_step))
 exact h _ _ hx'.keeps
noncomputable abbrev ajC(h:Heap)(T:Addr)(a b c:Value):Prop:=h.get? T=some { cls:=.type "tuple",data:=.seq #[a,b,c] }
theorem ad1(n p q:Nat)(e:p≠q):n+p≠n+q:=by lia
theorem ad0(n p:Nat)(e:0<p):n≠n+p:=by lia
theorem adL(l n p:Nat)(e:l<n):l≠n+p:=by lia
theorem adO(n c p:Nat)(h:c<n\/n+5<c)(e:p<=5):c≠n+p:=by lia
section
variable{prog:bh}{w:World}{A:bY}{E:Value->Shared->Prop}{s:Shared}
theorem zipN{z TI TO:Addr}{f0:Value}{b:Bool}{Q:Option Value->Shared->Prop}(hz:GD s.heap z TI TO f0 b)
  (h:∀ E',(∀ e h',(∃ o,h'.get? e=some o/\o.cls = .type "StopIteration")->Q none { s with heap:=h' }->E' (.ref e) { s with heap:=h' }) ->
   wpAny (model prog w) A.in1 (eG.«zip.__next__» ⟨[.ref z],[]⟩) (fun fin s'=>∃ v,fin = .done (.ret v)/\Q (some v) s') E' s):wpAny (model prog w) A (jk (.ref z)) Q E s:=by
 have hT:s.TypeIs (.ref z) "zip" := ⟨_,hz,rfl⟩;unfold jk;refine aJ (JQ (JG (name:=bK "__next__") hT F.slot_zip_next (z9 F.slot_zip_next hT F.entry_zip_next (fP (h _ ?_) (fun fin s' q=>?_) fun _ _ q=>q) (F.args_zip_next_1 _))))
 ·intro e h' he q;obtain⟨o,ho,hc⟩:=he;exact aJ (JK (T := "StopIteration") (b:=true) ⟨o,ho,hc⟩ Xo (aU q))
 ·obtain⟨v,rfl,q⟩:=q;exact⟨v,rfl,aU q⟩
theorem Oa{z TI TO i1 i2 l1 l2:Addr}{Q:Value->Shared->Prop}{a b:Value}(ap:X3 z TI TO i1 i2 l1 l2)(hh:A.handled=none)(hz:IsZip s.heap z TI TO .none)(k1:QX s.heap TI (.ref i1) (.ref i2))(k2:QX s.heap TO a b)(k3:s.heap.IsListIter i1 l1 0)(k4:s.heap.IsListIter i2 l2 0)(k5:s.heap.IsList l1 #[])(k6:s.heap.IsList l2 #[])
  (h:∀h' t,h'.DictOf (cP prog w) s.heap.objs.size []->(∀c o,c≠z->c≠TO->c≠i1->c≠i2->s.heap.get? c=some o->h'.get? c=some o)->Q (.ref s.heap.objs.size) { s with heap:=h',toks:=t }):
  wpAny (model prog w) A (call (.type "dict") [.ref z]) Q E s:=by
 refine Xp (Q₁:=fun obj s₁=>obj=.ref s.heap.objs.size/\s₁={ s with heap:=s.heap.push { cls:=.type "dict",data:=.dict #[] } }) F.kt_called_dict (F.kt_typeCall_dict_1 _) F.entry_dict_init (kt_code_dict_new _ ⟨rfl,rfl⟩) ?_;rintro obj s₁ ⟨rfl,rfl⟩;have hnew:(s.heap.push { cls:=.type "dict",data:=.dict #[] }).DictOf (cP prog w) s.heap.objs.size []:=ag1 s.heap;have up:∀c o,s.heap.get? c=some o->(s.heap.push { cls:=.type "dict",data:=.dict #[] }).get? c=some o:=fun c o e=>dX _ e;have ne:∀c o,s.heap.get? c=some o->c≠s.heap.objs.size:=fun c o e=>cH (bU e);refine⟨hnew.typeIs,F.args_dict_init_2 _ _,?_⟩;unfold eG.«dict.__init__»;refine aJ ?_;unfold ant;refine aJ (wpAny_notOrdered_dict hnew.typeIs ?_);show wpAny _ _ (pure (s.heap.objs.size,[Value.ref z])) _ _ _;refine aU ?_;show wpAny _ _ (agP "dict.__init__" s.heap.objs.size (.ref z) [] .none) _ _ _;unfold agP;refine aJ (JR (T := "zip") ⟨_,up _ _ hz,rfl⟩ ?_);rw[if_pos (by decide)];refine aJ (ajB (up _ _ hz) (show A.in1.in1.handled=none from hh) fun h1 t1 q1=>?_);refine aJ (xO ?_);refine aJ (Qu (q1 _ _ (up _ _ hz)) ?_);have u:∀c o,s.heap.get? c=some o->h1.get? c=some o:=fun c o e=>q1 _ _ (up c o e);refine aU ⟨nU F.lM _,?_⟩;refine xq F.vN ?_;rw[Ac F.lM _];show wpAny _ _ (jk (.ref z) >>= _) _ _ _;refine aJ (aeZ (show A.in1.in1.handled=none from hh) ap (u _ _ hz) (u _ _ k1) (u _ _ k2) (k3.at fun o e=>u _ o e) (k4.at fun o e=>u _ o e) (k5.at fun o e=>u _ o e) (k6.at fun o e=>u _ o e) (.inl rfl) fun h' q=>?_);show wpAny _ _ (anu s.heap.objs.size [] >>= _) _ _ _;obtain⟨o,es,ep,ho,r⟩:=hnew;obtain⟨o3,g3,_⟩:=k3;obtain⟨o4,g4,_⟩:=k4;exact aJ (aU (aU ⟨rfl,h h' t1 ⟨o,es,ep,q _ _ (ne _ _ hz).symm (ne _ _ k2).symm (ne _ _ g3).symm (ne _ _ g4).symm (q1 _ _ ho),r⟩ fun c o c1 c2 c3 c4 e=>q c o c1 c2 c3 c4 (u c o e)⟩))
theorem adN{n l1:Addr}{Q:Option Value->Shared->Prop}(hh:A.handled=none)(kz:GD s.heap (n+5) (n+3) (n+4) .none false)(ki:ajC s.heap (n+3) (.ref n) (.ref (n+1)) (.ref (n+2)))(k1:s.heap.IsListIter n l1 0)(m1:s.heap.IsList l1 #[])(b1:l1<n)
  (hQ:∀h',(∀c o,c<n\/n+5<c->s.heap.get? c=some o->h'.get? c=some o)->Q none { s with heap:=h' }):wpAny (model prog w) A (jk (.ref (n+5))) Q E s:=by
 refine zipN kz fun E' he=>?_;show wpAny _ _ (field (.ref _) 2 >>= _) _ _ _;refine aJ (QF kz rfl (x:=.bool false) rfl ?_);show wpAny _ _ (field (.ref _) 3 >>= _) _ _ _;refine aJ (QF kz rfl (x:=.ref _) rfl ?_);refine aJ (xJ ki rfl ?_);show wpAny _ _ (agJ (.ref _) >>= _) _ _ _;refine aJ ?_;unfold agJ;refine aJ (QF kz rfl (x:=.none) rfl (aU ?_));simp only[if_true];refine aJ (xO ?_);refine aJ (QF kz rfl (x:=.ref (n+4)) rfl ?_);refine aJ (xu kz (by simp) fun h₁ hz₁ s₁=>?_);replace hz₁:GD h₁ (n+5) (n+3) (n+4) .ellipsis false:=hz₁;refine aJ ?_;simp only[List.zipIdx_cons,List.zipIdx_nil,aeI,aeM];refine aJ (aJ (wpAny_onRaise ?_));show wpAny _ _ (anb (.ref n) >>= _) _ _ _;refine aJ (wpAny_nextOf_list_end (show A.in1.handled=none from hh) (k1.extBut s₁.extBut (ad0 n 5 (by decide))) (m1.extBut s₁.extBut (adL _ _ _ b1)) rfl fun h₂ e s₂ ⟨oe,hoe,hce⟩=>?_);have hz₂:GD h₂ (n+5) (n+3) (n+4) .ellipsis false:=s₂ _ _ (ad0 n 5 (by decide)).symm hz₁;have hez:e≠n+5:=fun x=>by subst x;rw[hz₂]at hoe;cases hoe;simp at hce
 exact xu hz₂ (by simp) fun h₃ _ s₃=>he e h₃ ⟨oe,s₃.extBut _ _ hez hoe,hce⟩ (hQ h₃ fun c o d g=>s₃.extBut _ _ (adO n c 5 d (by decide)) (s₂ _ _ (adO n c 0 d (by decide)) (s₁.extBut _ _ (adO n c 5 d (by decide)) g)))
end
namespace F
theorem Mq(a b c:Value):checkTypeCall "zip" ⟨[a,b,c],[]⟩=pure ():=by kernel_rfl
theorem Ob(a b c:Value):Xm "zip.__new__" ⟨[.type "zip",a,b,c],[]⟩=pure ():=by kernel_rfl
theorem Cd(a b c d:Value):sH "object.__init__" ⟨[a,b,c,d],[]⟩:=by
 unfold sH;rw[signature?_of (id := "object.__init__") (n:=['_','_','t','i','n','i','_','_']) (o:=['t','c','e','j','b','o']) (by kernel_rfl) owner_object];kernel_rfl
end F
noncomputable abbrev Tj(h:Heap)(l1:Addr):Heap:=h.push { cls:=.type "list_iterator",data:=.fields #[.ref l1,.int 0 0] }
noncomputable abbrev z3H3(h:Heap)(l1 l2 l3:Addr):Heap:=Tj (Tj (Tj h l1) l2) l3
noncomputable abbrev z3H4(h:Heap)(l1 l2 l3:Addr):Heap:=(z3H3 h l1 l2 l3).push { cls:=.type "tuple",data:=.seq #[.ref h.objs.size,.ref (Tj h l1).objs.size,.ref (Tj (Tj h l1) l2).objs.size] }
noncomputable abbrev z3H5(h:Heap)(l1 l2 l3:Addr):Heap:=(z3H4 h l1 l2 l3).push { cls:=.type "tuple",data:=.seq #[.none,.none,.none] }
noncomputable abbrev adP(h:Heap)(l1 l2 l3:Addr):Heap:=(z3H5 h l1 l2 l3).push { cls:=.type "zip",data:=.fields #[.none,.bool false,.bool false,.ref (z3H3 h l1 l2 l3).objs.size,.ref (z3H4 h l1 l2 l3).objs.size] }
theorem Mr(l1 l2 l3:Addr)(xs ys zs:Array Value):
  Meets (eG.«zip.__new__» ⟨[.type "zip",.ref l1,.ref l2,.ref l3],[]⟩) (fun _ R s=>s.heap.IsList l1 xs/\s.heap.IsList l2 ys/\s.heap.IsList l3 zs /\
   R (.ok (.ret (.ref (z3H5 s.heap l1 l2 l3).objs.size))) { s with heap:=adP s.heap l1 l2 l3 }) :=
 .of_wp fun prog w A R s h=>by
  obtain⟨hp,g,d,tk,os⟩:=s;obtain⟨hl1,hl2,hl3,h⟩:=h;have hsub:=sub_zip;have hL1:Ra (Zb ⟨hp,g,d,tk,os⟩) l1 xs:=hl1;have hL2:Ra (Zb ⟨hp.push { cls:=.type "list_iterator",data:=.fields #[.ref l1,.int 0 0] },g,d,tk,os⟩) l2 ys:=Y7 hl2 _;have hL3:Ra (Zb ⟨(hp.push { cls:=.type "list_iterator",data:=.fields #[.ref l1,.int 0 0] }).push { cls:=.type "list_iterator",data:=.fields #[.ref l2,.int 0 0] },g,d,tk,os⟩) l3 zs:=Y7 (Y7 hl3 _) _
  wp_walk using EY hL1,EY hL2,EY hL3
  exact⟨_,rfl,h⟩
section
variable{prog:bh}{w:World}{A:bY}{E:Value->Shared->Prop}{s:Shared}
theorem aaw{l1 l2 l3:Addr}{xs ys zs:Array Value}{Q:Value->Shared->Prop}(hl1:s.heap.IsList l1 xs)(hl2:s.heap.IsList l2 ys)(hl3:s.heap.IsList l3 zs)
  (h:∀h',GD h' (s.heap.objs.size+5) (s.heap.objs.size+3) (s.heap.objs.size+4) .none false->ajC h' (s.heap.objs.size+3) (.ref s.heap.objs.size) (.ref (s.heap.objs.size+1)) (.ref (s.heap.objs.size+2))->h'.IsListIter s.heap.objs.size l1 0->h'.objs.size=s.heap.objs.size+6->(∀c o,s.heap.get? c=some o->h'.get? c=some o)->Q (.ref (s.heap.objs.size+5)) { s with heap:=h' }):
  wpAny (model prog w) A (call (.type "zip") [.ref l1,.ref l2,.ref l3]) Q E s:=by
 refine callType_new F.called_zip (by decide) (F.Mq _ _ _) (F.Ob _ _ _) (fun obj=>F.Cd obj _ _ _) F.entry_zip_new
  (Mr l1 l2 l3 xs ys zs) ⟨hl1,hl2,hl3,?_⟩
 have z1:(Tj s.heap l1).objs.size=s.heap.objs.size+1:=qO ..;have z2:(Tj (Tj s.heap l1) l2).objs.size=s.heap.objs.size+2:=by rw[qO,z1]
 have z3:(z3H3 s.heap l1 l2 l3).objs.size=s.heap.objs.size+3:=by rw[qO,z2]
 have z4:(z3H4 s.heap l1 l2 l3).objs.size=s.heap.objs.size+4:=by rw[qO,z3]
 have z5:(z3H5 s.heap l1 l2 l3).objs.size=s.heap.objs.size+5:=by rw[qO,z4]
 have z6:(adP s.heap l1 l2 l3).objs.size=s.heap.objs.size+6:=by rw[qO,z5]
 have up:∀{h:Heap}{c:Addr}{o p:Obj},h.get? c=some o->(h.push p).get? c=some o:=fun e=>dX _ e;have g6:(adP s.heap l1 l2 l3).get? (z3H5 s.heap l1 l2 l3).objs.size=some _:=eE _ rfl;have g4:(adP s.heap l1 l2 l3).get? (z3H3 s.heap l1 l2 l3).objs.size=some _:=up (up (eE _ rfl));have g1:(adP s.heap l1 l2 l3).get? s.heap.objs.size=some _:=up (up (up (up (up (eE _ rfl)))));have old:∀c o,s.heap.get? c=some o->(adP s.heap l1 l2 l3).get? c=some o:=fun c o e=>up (up (up (up (up (up e)))));show _/\_;rw[z3,z4,z5]at g6;rw[z1,z2,z3]at g4;rw[z5];exact⟨⟨_,g6,rfl⟩,h _ g6 g4 ⟨_,g1,rfl,rfl⟩ z6 old⟩
theorem aax:xM (.type "zip") "__len__" = pure none:=by rw[Fo,Ey];kernel_rfl
theorem VR:xM (.type "zip") "__length_hint__" = pure none:=by rw[Fo,Ey];kernel_rfl
theorem Ms{n l1:Addr}{Q:Value->Shared->Prop}(hh:A.handled=none)(hs:s.heap.objs.size=n+6)(hz:GD s.heap (n+5) (n+3) (n+4) .none false)(ki:ajC s.heap (n+3) (.ref n) (.ref (n+1)) (.ref (n+2)))(k1:s.heap.IsListIter n l1 0)(m1:s.heap.IsList l1 #[])(b1:l1<n)
  (h:∀h' c,h'.get? (n+6)=some { cls:=.type "list",dict:=none,data:=.seq #[] c,slots:=#[] }->(∀c o,c<n->s.heap.get? c=some o->h'.get? c=some o)->Q (.ref (n+6)) { s with heap:=h' }):
  wpAny (model prog w) A (call (.type "list") [.ref (n+5)]) Q E s:=by
 refine Xp (Q₁:=fun obj s₁=>obj=.ref s.heap.objs.size/\s₁={ s with heap:=s.heap.push { cls:=.type "list",data:=.seq #[] } }) F.called_list (F.typeCall_list_1 _) F.entry_list_init (afo _ ⟨rfl,rfl⟩) fun obj s₁ h₁=>?_;obtain⟨rfl,rfl⟩:=h₁;rw[hs];have hS:(s.heap.push { cls:=.type "list",data:=.seq #[] }).get? (n+6)=some { cls:=.type "list",data:=.seq #[] }:=by rw[<-hs];exact eE _ rfl
 have z0:(s.heap.push { cls:=.type "list",data:=.seq #[] }).get? (n+5)=some _:=dX _ hz;refine⟨⟨_,hS,rfl⟩,F.args_list_init_2 _ _,?_⟩;show wpAny _ A.in1.in1 (do let old <-Ry (.ref (n+6));agp (.ref (n+6)) (fun _=>#[]);letGo old.toList.reverse;Cu (.ref (n+6)) (.ref (n+5)) .none) _ _ _;refine aJ ?_;unfold Ry;refine aJ (xJ hS rfl (aU ?_));show wpAny _ A.in1.in1 (Fy (n+6) (fun _=>#[]) >>= fun _=>letGo (#[]:Array Value).toList.reverse >>= fun _=>Cu (.ref (n+6)) (.ref (n+5)) .none) _ _ _;refine aJ (vg hS rfl ?_);have hS₂:=Aa (mG (fun _=>(#[]:Array Value))) hS rfl;have oth:∀(h:Heap)(f:Obj->Obj) b o,b≠n+6->h.get? b=some o->(h.update (n+6) f).get? b=some o:=fun h f b o hb e=>(xY _ _ (aX hb)).trans e;have z1:=oth _ (mG (fun _=>(#[]:Array Value))) _ _ (ad1 n 5 6 (by decide)) z0;refine aJ (Ft ?_);unfold Cu;refine aJ (JR (T := "zip") ⟨_,z1,rfl⟩ ?_);have h1:Oq (.ref (n+6)) (.ref (n+5))=false:=by simp[Oq]
 have h2:(Value.type "zip" == Value.type "list")=false:=by decide
 have h3:(Value.type "zip" == Value.type "tuple")=false:=by decide
 simp only [h1,h2,h3,Yl,Yk,if_false];refine aJ (Qu (f0:=.none) z1 ?_);refine aJ (qN ?_);unfold Kv;refine aJ (Fl (T := "zip") ⟨_,z1,rfl⟩ aax ?_);show wpAny _ _ (specialOf (Value.ref (n+5)) (bK "__length_hint__") >>= _) _ _ _;refine aJ (Fl (T := "zip") ⟨_,z1,rfl⟩ VR ?_);refine aU ?_;show wpAny _ _ (rule "list.extend.makes-room" >>= fun _=>ana (.ref (n+6)) >>= fun _ =>
  again (.builtin "list.extend.loop" ⟨[.ref (n+6),.ref (n+5),.none],[]⟩)) _ _ _
 refine aJ (xO ?_);refine aJ ?_;show wpAny _ _ (Fy (n+6) (·.push .none) >>= fun _=>Fy (n+6) (·.pop)) _ _ _;refine aJ (vg hS₂ rfl ?_);have hS₃:=Aa (mG (·.push Value.none)) hS₂ rfl;refine vg (hz:=by seq_fits) hS₃ rfl ?_;have hS₄:=Aa (mG (·.pop)) hS₃ rfl;have up:∀c o,s.heap.get? c=some o->((((s.heap.push { cls:=.type "list",data:=.seq #[] }).update (n+6) (mG (fun _=>(#[]:Array Value)))).update (n+6) (mG (·.push Value.none))).update (n+6) (mG (·.pop))).get? c=some o:=fun c o e =>
  have ne:c≠n+6:=by rw[<-hs];exact cH (bU e)
  oth _ _ _ _ ne (oth _ _ _ _ ne (oth _ _ _ _ ne (dX _ e)))
 refine aU ⟨nU F.plain_extend_loop _,?_⟩;refine xq F.entry_extend_loop ?_;rw[Ac F.plain_extend_loop _];show wpAny _ _ (jk (.ref (n+5)) >>= _) _ _ _;refine aJ (adN (show A.in1.in1.handled=none from hh) (up _ _ hz) (up _ _ ki) (k1.at fun o e=>up _ o e) (m1.at fun o e=>up _ o e) b1 fun h' q=>aU ⟨rfl,h h' _ (q _ _ (.inr (yc (n+5))) hS₄) fun c o l e=>q _ _ (.inl l) (up c o e)⟩)
end
end PySem
namespace L2
open PySem PySem.Spec PyProof.Rows
section
variable{X:Cx}
noncomputable def adQ(ta:TA):TE:=fun σ H Q=>ta σ H fun vs H1=>∃a b:Addr,vs=[.ref a,.ref b]/\H1 a=some (.lst [])/\H1 b=some (.lst [])/\∀p,H1 p=none->Q (.ref p) (upd H1 p (.dK []))
noncomputable def adR(ta:TA):TE:=fun σ H Q=>ta σ H fun vs H1=>∃a b c:Addr,vs=[.ref a,.ref b,.ref c]/\H1 a=some (.lst [])/\H1 b=some (.lst [])/\H1 c=some (.lst [])/\∀p,H1 p=none->Q (.ref p) (upd H1 p (.lst []))
theorem yO{H:Hp}{pins:List (Addr × Obj)}{σ:St}{s:Shared}{l:Addr}(I:Inv X pins σ H s)(e:H l=some (.lst [])):s.heap.IsList l #[]:=by
 obtain⟨_,us,n,rv,_,g⟩:=I.Ij e;cases rv;exact⟨_,g,rfl,n,rfl⟩
theorem V0{a b:Expr}{ta:TA}{p p2 pos pos2:Pos}(hc:X.calm=true)(hg:Gl X "dict")(hm:X.mg "dict" = none)(hg2:Gl X "zip")(hm2:X.mg "zip" = none)(ha:PA X [a,b] ta)(hs:cT [a,b] X.env=[(false,eval a X.env),(false,eval b X.env)]:=by rfl)
  (hs2:cT [b] X.env=[(false,eval b X.env)]:=by rfl) (he:cT [.Call (.Name "zip" p2) [a,b] [] pos2] X.env=[(false,eval (.Call (.Name "zip" p2) [a,b] [] pos2) X.env)]:=by rfl):PE X (.Call (.Name "dict" p) [.Call (.Name "zip" p2) [a,b] [] pos2] [] pos) (adQ ta):=by
 intro pins s σ H Q I h;refine xr (j7 I hg hm (show vh "dict" = some (.type "dict") by decide +kernel) ?_ (by decide) (by decide));refine Ab ?_ he rfl;rw[he];refine Cw (x:=eval (.Call (.Name "zip" p2) [a,b] [] pos2) X.env) (rest:=[]) (Call_ (j7 I hg2 hm2 YD (Ab (thn (ha pos2 pins s σ H _ I h) fun us s1 ⟨vs,H1,I1,r1,q1⟩=>?_) (by rw[hs,hs2]) (by rw[hs2];rfl))));obtain⟨l1,l2,e,e1,e2,q⟩:=q1;subst e;obtain⟨u1,u2,rfl,r,r'⟩:=vals2 r1
 ·cases r;cases r';have m1:=yO I1 e1;have m2:=yO I1 e2;refine call_zip_2 m1 m2 fun h1 z1' z2 z3 z4 z5 z6 hk=>yq ?_;have old:∀ c o,s1.heap.get? c=some o->c<s1.heap.objs.size:=fun c o g=>bU g;have ap:X3 (s1.heap.objs.size+4) (s1.heap.objs.size+2) (s1.heap.objs.size+3) s1.heap.objs.size (s1.heap.objs.size+1) l1 l2:=(amb s1.heap.objs.size).apart e1 e2 fun c hc=>I1.hok.fresh (by
   simp only [cO,iM,or_false] at hc;rcases hc with rfl | rfl | rfl | rfl | rfl <;> lia)
  refine Oa ap (I1.ok.hd hc) z1' z2 z3 z4 z5 (m1.at fun o e=>hk _ o e) (m2.at fun o e=>hk _ o e) fun h' t' hd keep=>?_;refine⟨.ref h1.objs.size,_,I1.laid (t':=t') (fun b u g=>keep b u (cH (fJ (old b u g) (FW _ _))) (cH (fJ (old b u g) (FW _ _))) (cH (old b u g)) (cH (fJ (old b u g) (FW _ _))) (hk b u g)) (by rw[z6];lia) (ZQ (eO _) ?_ .nil hd),rfl,q _ (I1.hok.fresh (by rw[z6];lia))⟩;exact beq_eq_false_iff_ne.mpr (aX (cH (by rw[z6];exact fJ I1.big (FW _ _))))
theorem V1{a b c:Expr}{ta:TA}{p p2 pos pos2:Pos}(hc:X.calm=true)(hg:Gl X "list")(hm:X.mg "list" = none)(hg2:Gl X "zip")(hm2:X.mg "zip" = none)(ha:PA X [a,b,c] ta)(hs:cT [a,b,c] X.env=(false,eval a X.env)::cT [b,c] X.env:=by rfl)
  (hs2:(iu pos2 (cT [b,c] X.env)).any (·.1)=false:=by rfl) (he:cT [.Call (.Name "zip" p2) [a,b,c] [] pos2] X.env=[(false,eval (.Call (.Name "zip" p2) [a,b,c] [] pos2) X.env)]:=by rfl):PE X (.Call (.Name "list" p) [.Call (.Name "zip" p2) [a,b,c] [] pos2] [] pos) (adR ta):=by
 intro pins s σ H Q I h;refine xr (j7 I hg hm (show vh "list" = some (.type "list") by decide +kernel) ?_ (by decide) (by decide));refine Ab ?_ he rfl;rw[he];refine Cw (x:=eval (.Call (.Name "zip" p2) [a,b,c] [] pos2) X.env) (rest:=[]) (Call_ (j7 I hg2 hm2 YD (Ab (thn (ha pos2 pins s σ H _ I h) fun us s1 ⟨vs,H1,I1,r1,q1⟩=>?_) hs hs2)));obtain⟨l1,l2,l3,e,e1,e2,e3,q⟩:=q1;subst e;cases r1 with
 |cons r rr =>
  obtain⟨u2,u3,rfl,r',r''⟩:=vals2 rr;cases r;cases r';cases r'';have m1:=yO I1 e1;refine aaw m1 (yO I1 e2) (yO I1 e3) fun h1 hz ki k1 z6 hk=>yq ?_;obtain⟨o1,g1,_⟩:=id m1;refine Ms (I1.ok.hd hc) z6 hz ki k1 (m1.at fun o e=>hk _ o e) (bU g1) fun h' k gS keep=>?_;exact⟨.ref (s1.heap.objs.size+6),_,I1.laid (t':=s1.toks) (o:=.lst []) (fun b u e=>keep b u (bU e) (hk b u e)) (FW _ _) ⟨eO _,[],k,.nil,gS⟩,rfl,q _ (I1.hok.fresh (FW _ _))⟩
end
end L2
set_option Elab.async false
set_option maxRecDepth 100000
set_option maxHeartbeats 4000000
namespace My
open PySem L2 MG
set_option genInjectivity false in
set_option genSizeOf false in
structure Ad where
 cV:Addr
 gY:Addr
 gR:Addr
 gB:Addr
 sY:Addr
 iH:Addr
 Gj:Addr
 zX:Addr
 f'0:Addr
 Dt:FuncData
 f'1:Addr
 Am:FuncData
 f'2:Addr
 abw:FuncData
 f'3:Addr
 vO:FuncData
 f'4:Addr
 qj:FuncData
 f'5:Addr
 GF:FuncData
 f'6:Addr
 Mt:FuncData
 f'7:Addr
 vP:FuncData
 f'8:Addr
 yP:FuncData
 f'9:Addr
 V2:FuncData
 Ul:Addr
 tG:FuncData
 Ze:Addr
 oA:FuncData
 Zf:Addr
 vQ:FuncData
 Zg:Addr
 tH:FuncData
 ab0:Addr
 V3:FuncData
 ab1:Addr
 ajD:FuncData
 Um:Addr
 oE:FuncData
 ab2:Addr
 Mu:FuncData
 Zh:Addr
 lN:FuncData
 Zi:Addr
 ql:FuncData
 Uo:Addr
 oF:FuncData
 ab3:Addr
 V4:FuncData
 ab4:Addr
 Px:FuncData
 Zj:Addr
 qm:FuncData
 Zk:Addr
 qp:FuncData
 ab5:Addr
 Mv:FuncData
 Uq:Addr
 qt:FuncData
 Zm:Addr
 tK:FuncData
 Zn:Addr
 qu:FuncData
 Zo:Addr
 qw:FuncData
 Zq:Addr
 oG:FuncData
 Ur:Addr
 oH:FuncData
 ab6:Addr
 rH:FuncData
 ab7:Addr
 Py:FuncData
 ab8:Addr
 yQ:FuncData
 ab9:Addr
 Mw:FuncData
 acd:Addr
 uI:FuncData
 ace:Addr
 rJ:FuncData
 acf:Addr
 Dv:FuncData
 acg:Addr
 V5:FuncData
 ach:Addr
 Mx:FuncData
 aci:Addr
 ajE:FuncData
 acj:Addr
 Mz:FuncData
 acn:Addr
 Hx:FuncData
 aco:Addr
 Hy:FuncData
 acp:Addr
 ajF:FuncData
 Zr:Addr
 tL:FuncData
 Zt:Addr
 qz:FuncData
 acq:Addr
 ajG:FuncData
 acr:Addr
 Hz:FuncData
 acs:Addr
 Dw:FuncData
 acu:Addr
 yR:FuncData
 acv:Addr
 HB:FuncData
 acw:Addr
 MF:FuncData
 acy:Addr
 HD:FuncData
 acz:Addr
 V6:FuncData
 acA:Addr
 wH:FuncData
 acB:Addr
 uJ:FuncData
 acC:Addr
 Ao:FuncData
 acD:Addr
 yS:FuncData
 acE:Addr
 Dy:FuncData
 acF:Addr
 yU:FuncData
 acG:Addr
 uK:FuncData
 acH:Addr
 HF:FuncData
 acI:Addr
 wI:FuncData
 acJ:Addr
 Dz:FuncData
 acK:Addr
 Aq:FuncData
 acL:Addr
 wK:FuncData
 acM:Addr
 HJ:FuncData
 acN:Addr
 wL:FuncData
 acO:Addr
 abx:FuncData
 acP:Addr
 Pz:FuncData
 acQ:Addr
 Ar:FuncData
 acR:Addr
 HN:FuncData
 acS:Addr
 MJ:FuncData
 acT:Addr
 V7:FuncData
 acU:Addr
 PB:FuncData
 acV:Addr
 Av:FuncData
 acW:Addr
 aby:FuncData
 acX:Addr
 rK:FuncData
 acY:Addr
 DG:FuncData
 ahe:Addr
 ame:FuncData
variable{H H' G H0 G':Hp}{A:Ad}{n room i j h:Nat}{c:Tab}{ks C ns D:List Int}{L:List (Int × Int)}{K:bB}{p f b l dx e d t:Addr}{v reach a th span:Int}{α:Type}{fd:FuncData}{m p0:Str}{st:Stmt}{ls:RG.Ls}{σ:St}{as:List Addr}{o:HO}{xs:List V}{R:Prop}
structure Tx(K:bB)(mg:Str->Option Value)(A:Ad):Prop where
 bV:Cls K A.cV
 Tn:mg "Rungs" = some (.ref A.cV)
 ajH:Mk K A.cV A.f'7
 DK:cR K A.cV "room"
 wM:cR K A.cV "total"
 Aw:cR K A.cV "over"
 Ax:cR K A.cV "under"
 qC:cR K A.cV "turns"
 HS:cR K A.cV "least"
 HW:cR K A.cV "most"
 yV:cR K A.cV "rungs"
 dI:Cls K A.gY
 V8:mg "Window" = some (.ref A.gY)
 amf:Mk K A.gY A.Ul
 DN:cR K A.gY "room"
 DQ:cR K A.gY "reach"
 jM:cR K A.gY "clock"
 qD:cR K A.gY "boxes"
 dM:Cls K A.gR
 MN:mg "Distinct" = some (.ref A.gR)
 amg:Mk K A.gR A.Um
 tM:cR K A.gR "room"
 tO:cR K A.gR "arrivals"
 lO:cR K A.gR "level"
 mW:cR K A.gR "kept"
 fQ:Cls K A.gB
 Ce:mg "Frequent" = some (.ref A.gB)
 ajI:Mk K A.gB A.Uo
 qF:cR K A.gB "room"
 tQ:cR K A.gB "total"
 tR:cR K A.gB "lost"
 yW:cR K A.gB "counts"
 jT:Cls K A.sY
 PJ:mg "Balance" = some (.ref A.sY)
 amh:Mk K A.sY A.Uq
 tU:cR K A.sY "span"
 oK:cR K A.sY "sums"
 bW:Cls K A.iH
 vR:mg "Keepsake" = some (.ref A.iH)
 abz:Mk K A.iH A.Ur
 yX:cR K A.iH "room"
 yZ:cR K A.iH "reach"
 tV:cR K A.iH "span"
 za:cR K A.iH "came"
 zc:cR K A.iH "went"
 zf:cR K A.iH "up"
 zj:cR K A.iH "down"
 vU:cR K A.iH "window"
 zm:cR K A.iH "seen"
 tW:cR K A.iH "balance"
 uL:mg "Unlike" = some (.ref A.Gj)
 DR:mg "TooManyOff" = some (.ref A.zX)
 jy:Bq K A.Gj [.type "ValueError",.type "Exception",.type "BaseException",.type "object"] "ValueError.__new__" = true
 jF:Bq K A.zX [.type "ValueError",.type "Exception",.type "BaseException",.type "object"] "ValueError.__new__" = true
 tX:Catch K A.zX A.zX
 F'0:Fg K mg "with_thing" s'0 A.f'0 A.Dt Q32
 F'1:Fg K mg "left_behind" s'1 A.f'1 A.Am Q14
 F'2:Fg K mg "risen" s'2 A.f'2 A.abw Q17
 F'3:Fun K "turn" "Rungs.turn" s'3 A.f'3 A.vO
 b'3:Binds K A.vO Q18 []
 Tp:Meth K A.cV "turn" A.f'3
 F'4:Fun K "settle" "Rungs.settle" s'4 A.f'4 A.qj
 b'4:Binds K A.qj ["self","lists"] []
 zp:Meth K A.cV "settle" A.f'4
 F'5:Fg K mg "greater" s'5 A.f'5 A.GF Q1
 F'6:Fg K mg "lesser" s'6 A.f'6 A.Mt Q1
 F'7:Fun K "__init__" "Rungs.__init__" s'7 A.f'7 A.vP
 b'7:Binds K A.vP Q3 []
 alg:Meth K A.cV "__init__" A.f'7
 F'8:Fun K "add" "Rungs.add" s'8 A.f'8 A.yP
 b'8:Binds K A.yP Q2 []
 HX:Meth K A.cV "add" A.f'8
 F'9:Fg K mg "joined" s'9 A.f'9 A.V2 ["boxes","room"]
 F'10:Fun K "__init__" "Window.__init__" s'10 A.Ul A.tG
 b'10:Binds K A.tG Q19 []
 akn:Meth K A.gY "__init__" A.Ul
 F'11:Fun K "settle" "Window.settle" s'11 A.Ze A.oA
 b'11:Binds K A.oA ["self","boxes"] []
 oM:Meth K A.gY "settle" A.Ze
 F'12:Fun K "add" "Window.add" s'12 A.Zf A.vQ
 b'12:Binds K A.vQ Q20 []
 Tq:Meth K A.gY "add" A.Zf
 F'13:Fun K "idle" "Window.idle" s'13 A.Zg A.tH
 b'13:Binds K A.tH Q21 []
 Oc:Meth K A.gY "idle" A.Zg
 F'14:Fg K mg "spread" s'14 A.ab0 A.V3 Q12
 F'15:Fg K mg "mark" s'15 A.ab1 A.ajD Q12
 F'16:Fun K "__init__" "Distinct.__init__" s'16 A.Um A.oE
 b'16:Binds K A.oE Q3 []
 aed:Meth K A.gR "__init__" A.Um
 F'17:Fg K mg "of_marks" s'17 A.ab2 A.Mu Q22
 F'18:Fun K "settle" "Distinct.settle" s'18 A.Zh A.lN
 b'18:Binds K A.lN ["self","things"] []
 rM:Meth K A.gR "settle" A.Zh
 F'19:Fun K "add" "Distinct.add" s'19 A.Zi A.ql
 b'19:Binds K A.ql Q23 []
 MP:Meth K A.gR "add" A.Zi
 F'20:Fun K "__init__" "Frequent.__init__" s'20 A.Uo A.oF
 b'20:Binds K A.oF Q3 []
 aee:Meth K A.gB "__init__" A.Uo
 F'21:Fg K mg "cut_of" s'21 A.ab3 A.V4 ["counts","room"]
 F'22:Fg K mg "lowered" s'22 A.ab4 A.Px ["counts","cut"]
 F'23:Fun K "fit" "Frequent.fit" s'23 A.Zj A.qm
 b'23:Binds K A.qm ["self","grown"] []
 zq:Meth K A.gB "fit" A.Zj
 F'24:Fun K "add" "Frequent.add" s'24 A.Zk A.qp
 b'24:Binds K A.qp Q2 []
 zu:Meth K A.gB "add" A.Zk
 F'25:Fg K mg "with_row" s'25 A.ab5 A.Mv Q33
 F'26:Fun K "__init__" "Balance.__init__" s'26 A.Uq A.qt
 b'26:Binds K A.qt Q24 []
 ajJ:Meth K A.sY "__init__" A.Uq
 F'27:Fun K "put" "Balance.put" s'27 A.Zm A.tK
 b'27:Binds K A.tK Q2 []
 Od:Meth K A.sY "put" A.Zm
 F'28:Fun K "take" "Balance.take" s'28 A.Zn A.qu
 b'28:Binds K A.qu Q2 []
 M5:Meth K A.sY "take" A.Zn
 F'29:Fun K "put" "Keepsake.put" s'29 A.Zo A.qw
 b'29:Binds K A.qw Q2 []
 zx:Meth K A.iH "put" A.Zo
 F'30:Fun K "take" "Keepsake.take" s'30 A.Zq A.oG
 b'30:Binds K A.oG Q2 []
 wO:Meth K A.iH "take" A.Zq
 F'31:Fun K "__init__" "Keepsake.__init__" s'31 A.Ur A.oH
 b'31:Binds K A.oH Q25 []
 aef:Meth K A.iH "__init__" A.Ur
 F'32:Fg K mg "poured_frequent" s'32 A.ab6 A.rH Q1
 F'33:Fg K mg "list_at" s'33 A.ab7 A.Py Q26
 F'34:Fg K mg "poured_rungs" s'34 A.ab8 A.yQ Q1
 F'35:Fg K mg "followed" s'35 A.ab9 A.Mw Q1
 F'36:Fg K mg "poured_balance" s'36 A.acd A.uI Q1
 F'37:Fg K mg "poured_distinct" s'37 A.ace A.rJ Q1
 F'38:Fg K mg "empty_like" s'38 A.acf A.Dv ["keepsake"]
 F'39:Fg K mg "poured" s'39 A.acg A.V5 Q1
 F'40:Fg K mg "due_sums" s'40 A.ach A.Mx ["span"]
 F'41:Fg K mg "root" s'41 A.aci A.ajE ["number"]
 F'42:Fg K mg "one_pair" s'42 A.acj A.Mz ["rest"]
 F'43:Fg K mg "two_pairs" s'43 A.acn A.Hx Q27
 F'44:Fg K mg "pairs_for" s'44 A.aco A.Hy ["rest"]
 F'45:Fg K mg "fits" s'45 A.acp A.ajF Q34
 F'46:Fun K "off" "Balance.off" s'46 A.Zr A.tL
 b'46:Binds K A.tL ["self"] []
 Oe:Meth K A.sY "off" A.Zr
 F'47:Fun K "off" "Keepsake.off" s'47 A.Zt A.qz
 b'47:Binds K A.qz ["self"] []
 zy:Meth K A.iH "off" A.Zt
 wW:Fg K mg "need" s'48 A.acq A.ajG Q28
 F'49:Fg K mg "number_of" s'49 A.acr A.Hz Q13
 aay:Fg K mg "numbers_of" s'50 A.acs A.Dw Q10
 F'51:Fg K mg "sound_bounds" s'51 A.acu A.yR Q29
 F'52:Fg K mg "bounds_of" s'52 A.acv A.HB Q10
 Tr:Fg K mg "words_of" s'53 A.acw A.MF Q35
 F'54:Fg K mg "signed_of" s'54 A.acy A.HD Q13
 F'55:Fg K mg "parted" s'55 A.acz A.V6 ["words"]
 F'56:Fg K mg "rising_things" s'56 A.acA A.wH Q14
 F'57:Fg K mg "sound_frequent" s'57 A.acB A.uJ Q36
 F'58:Fg K mg "sound_rungs" s'58 A.acC A.Ao Q15
 F'59:Fg K mg "sound_places" s'59 A.acD A.yS Q11
 F'60:Fg K mg "sound_sums" s'60 A.acE A.Dy Q11
 F'61:Fg K mg "sound_window" s'61 A.acF A.yU Q11
 F'62:Fg K mg "sound_distinct" s'62 A.acG A.uK ["distinct"]
 F'63:Fg K mg "read_keep" s'63 A.acH A.HF Q10
 F'64:Fg K mg "read_frequent" s'64 A.acI A.wI Q37
 F'65:Fg K mg "read_rungs" s'65 A.acJ A.Dz Q38
 F'66:Fg K mg "read_window" s'66 A.acK A.Aq Q39
 F'67:Fg K mg "read_distinct" s'67 A.acL A.wK Q40
 F'68:Fg K mg "read_sums" s'68 A.acM A.HJ Q30
 F'69:Fg K mg "read_keepsake" s'69 A.acN A.wL ["text"]
 ajK:Fg K mg "_law_mix" s'70 A.acO A.abx Q31
 F'71:Fg K mg "_law_whole" s'71 A.acP A.Pz ["_law_found"]
 F'72:Fg K mg "_law_spoils_by" s'72 A.acQ A.Ar Q41
 F'73:Fg K mg "_law_rows_by" s'73 A.acR A.HN Q42
 F'74:Fg K mg "_law_poured" s'74 A.acS A.MJ Q43
 F'75:Fg K mg "_law_told" s'75 A.acT A.V7 ["_law_balance"]
 F'76:Fg K mg "_law_pairs" s'76 A.acU A.PB Q44
 F'77:Fg K mg "_law_with_sums" s'77 A.acV A.Av Q45
 F'78:Fg K mg "_law_far" s'78 A.acW A.aby ["_law_script"]
 F'79:Fg K mg "stand_for_total" s'79 A.acX A.rK Q15
 F'80:Fg K mg "sound_list" s'80 A.acY A.DG Q16
 F'81:Fg K mg "law" s'81 A.ahe A.ame ["_law_script"]
 abA:mg "all" = none
 aoY:mg "bool" = none
 aaz:mg "dict" = none
 ami:mg "int" = none
 pB:mg "isinstance" = none
 eF:mg "len" = none
 M6:mg "list" = none
 abB:mg "max" = none
 amj:mg "min" = none
 vV:mg "range" = none
 Cg:mg "reversed" = none
 n_set:mg "set" = none
 lQ:mg "sorted" = none
 amk:mg "str" = none
 PK:mg "sum" = none
 alh:mg "tuple" = none
 V9:mg "zip" = none
 adS:∃u,mg "FIGURES" = some u/\RelV (.str "0123456789") u
 Tt:∃u,mg "LEAST_ROOM" = some u/\RelV (.int 2) u
 ali:∃u,mg "LINES" = some u/\RelV (.int 8) u
 aaA:∃u,mg "MOST" = some u/\RelV (.int 1152921504606846976) u
 M7:∃u,mg "MOST_FIGURES" = some u/\RelV (.int 60) u
 Ip:∃u,mg "MOST_HALVINGS" = some u/\RelV (.int 60) u
 Tv:∃u,mg "MOST_LEVEL" = some u/\RelV (.int 60) u
 Tw:∃u,mg "MOST_REACH" = some u/\RelV (.int 1000000000) u
 Wa:∃u,mg "MOST_ROOM" = some u/\RelV (.int 64) u
 Wb:∃u,mg "MOST_SPAN" = some u/\RelV (.int 1000000000) u
 ajL:∃u,mg "SPREAD" = some u/\RelV (.int 770093176312745717) u
 adT:xV K (.type "int") (.type "int")=some true
 aaB:xV K (.type "int") (.type "bool")=some false
 aml:xV K (.type "list") (.type "list")=some true
 ako:xV K (.type "tuple") (.type "tuple")=some true
variable{P:bh}{w:World}{K:bB}{mg:Str->Option Value}{base:Heap}{A:Ad}
local macro_rules | `(tactic| walk_at "sc") => `(tactic| exact ⟨rfl, rfl, rfl, by decide +kernel, rfl, by decide +kernel, by decide +kernel⟩)
theorem jg:aK ["lists","thing","weight","grown","place","bits"] Q32 (aF s'0):=by walk_at "sc"
theorem M8:aK Q14 Q14 (aF s'1):=by walk_at "sc"
theorem ajM:aK Q17 Q17 (aF s'2):=by walk_at "sc"
theorem Og:aK Q18 Q18 (aF s'3):=by walk_at "sc"
theorem fZ:aK ["self","lists","settled","place","stands_for","things"] ["self","lists"] (aF s'4):=by walk_at "sc"
theorem M9:aK ["one","other","known"] Q1 (aF s'5):=by walk_at "sc"
theorem PL:aK ["one","other","known"] Q1 (aF s'6):=by walk_at "sc"
theorem Oh:aK Q3 Q3 (aF s'7):=by walk_at "sc"
theorem Tz:aK Q2 Q2 (aF s'8):=by walk_at "sc"
theorem jH:aK ["boxes","room","done","newer","at_hand","box"] ["boxes","room"] (aF s'9):=by walk_at "sc"
theorem Nb:aK Q19 Q19 (aF s'10):=by walk_at "sc"
theorem mX:aK ["self","boxes","edge","within"] ["self","boxes"] (aF s'11):=by walk_at "sc"
theorem Oi:aK Q20 Q20 (aF s'12):=by walk_at "sc"
theorem Nf:aK Q21 Q21 (aF s'13):=by walk_at "sc"
theorem adU:aK Q12 Q12 (aF s'14):=by walk_at "sc"
theorem DW:aK ["thing","rest","halvings"] Q12 (aF s'15):=by walk_at "sc"
theorem GJ:aK Q3 Q3 (aF s'16):=by walk_at "sc"
theorem Wc:aK Q22 Q22 (aF s'17):=by walk_at "sc"
theorem kE:aK ["self","things","left"] ["self","things"] (aF s'18):=by walk_at "sc"
theorem Ir:aK Q23 Q23 (aF s'19):=by walk_at "sc"
theorem GP:aK Q3 Q3 (aF s'20):=by walk_at "sc"
theorem PN:aK ["counts","room","falling"] ["counts","room"] (aF s'21):=by walk_at "sc"
theorem vW:aK ["counts","cut","left","thing","count"] ["counts","cut"] (aF s'22):=by walk_at "sc"
theorem wQ:aK ["self","grown","cut"] ["self","grown"] (aF s'23):=by walk_at "sc"
theorem wR:aK ["self","thing","weight","grown"] Q2 (aF s'24):=by walk_at "sc"
theorem nQ:aK ["sums","thing","weight","grown","share","held"] Q33 (aF s'25):=by walk_at "sc"
theorem Iu:aK Q24 Q24 (aF s'26):=by walk_at "sc"
theorem Ng:aK Q2 Q2 (aF s'27):=by walk_at "sc"
theorem Iv:aK Q2 Q2 (aF s'28):=by walk_at "sc"
theorem Iw:aK Q2 Q2 (aF s'29):=by walk_at "sc"
theorem GQ:aK Q2 Q2 (aF s'30):=by walk_at "sc"
theorem GR:aK Q25 Q25 (aF s'31):=by walk_at "sc"
theorem gK:aK ["one","other","poured","together","thing","count"] Q1 (aF s'32):=by walk_at "sc"
theorem aaC:aK Q26 Q26 (aF s'33):=by walk_at "sc"
theorem jW:aK ["one","other","poured","together","place"] Q1 (aF s'34):=by walk_at "sc"
theorem zA:aK ["one","other","both","behind"] Q1 (aF s'35):=by walk_at "sc"
theorem rN:aK ["one","other","poured"] Q1 (aF s'36):=by walk_at "sc"
theorem qG:aK ["one","other","poured"] Q1 (aF s'37):=by walk_at "sc"
theorem Oj:aK ["keepsake"] ["keepsake"] (aF s'38):=by walk_at "sc"
theorem Qa:aK ["one","other","both"] Q1 (aF s'39):=by walk_at "sc"
theorem zB:aK ["span","once","squares"] ["span"] (aF s'40):=by walk_at "sc"
theorem vX:aK ["number","guess","doubling","better"] ["number"] (aF s'41):=by walk_at "sc"
theorem Wd:aK ["rest"] ["rest"] (aF s'42):=by walk_at "sc"
theorem iU:aK ["rest","bend","both","times","square","apart","low","more"] Q27 (aF s'43):=by walk_at "sc"
theorem DX:aK Q27 ["rest"] (aF s'44):=by walk_at "sc"
theorem DY:aK ["pairs","rest","span","sums","thing","more"] Q34 (aF s'45):=by walk_at "sc"
theorem qH:aK ["self","rest","pairs"] ["self"] (aF s'46):=by walk_at "sc"
theorem Iz:aK ["self"] ["self"] (aF s'47):=by walk_at "sc"
theorem alj:aK Q28 Q28 (aF s'48):=by walk_at "sc"
theorem TF:aK Q13 Q13 (aF s'49):=by walk_at "sc"
theorem Ol:aK Q10 Q10 (aF s'50):=by walk_at "sc"
theorem IK:aK Q29 Q29 (aF s'51):=by walk_at "sc"
theorem Ea:aK ["words","line","numbers"] Q10 (aF s'52):=by walk_at "sc"
theorem HY:aK ["lines","line","name","words"] Q35 (aF s'53):=by walk_at "sc"
theorem Eb:aK ["word","line","number"] Q13 (aF s'54):=by walk_at "sc"
theorem GZ:aK ["words","groups","word"] ["words"] (aF s'55):=by walk_at "sc"
theorem uM:aK ["things","rising"] Q14 (aF s'56):=by walk_at "sc"
theorem rO:aK ["frequent","things","counts"] Q36 (aF s'57):=by walk_at "sc"
theorem Nh:aK Q15 Q15 (aF s'58):=by walk_at "sc"
theorem gW:aK ["window","ahead","first","last","weight"] Q11 (aF s'59):=by walk_at "sc"
theorem gw:aK ["window","newer","neighbour","first","last","weight"] Q11 (aF s'60):=by walk_at "sc"
theorem IV:aK Q11 Q11 (aF s'61):=by walk_at "sc"
theorem rP:aK ["distinct","fewest"] ["distinct"] (aF s'62):=by walk_at "sc"
theorem Ec:aK ["words","line","numbers"] Q10 (aF s'63):=by walk_at "sc"
theorem mY:aK ["frequent","words","line","numbers","things"] Q37 (aF s'64):=by walk_at "sc"
theorem tY:aK ["rungs","words","line","groups","numbers"] Q38 (aF s'65):=by walk_at "sc"
theorem zE:aK ["window","words","line","numbers"] Q39 (aF s'66):=by walk_at "sc"
theorem uN:aK ["distinct","words","line","numbers"] Q40 (aF s'67):=by walk_at "sc"
theorem TJ:aK Q30 Q30 (aF s'68):=by walk_at "sc"
theorem mZ:aK ["text","lines","keepsake"] ["text"] (aF s'69):=by walk_at "sc"
theorem ajN:aK Q31 Q31 (aF s'70):=by walk_at "sc"
theorem aaD:aK ["_law_found"] ["_law_found"] (aF s'71):=by walk_at "sc"
theorem jC:aK ["_law_script","_law_span","_law_most","_law_more","_law_k","_law_cell","_law_size"] Q41 (aF s'72):=by walk_at "sc"
theorem iV:aK ["_law_script","_law_span","_law_more","_law_rows","_law_thing","_law_due","_law_k","_law_weight"] Q42 (aF s'73):=by walk_at "sc"
theorem jD:aK ["_law_script","_law_rows","_law_span","_law_left","_law_k","_law_cell","_law_one","_law_at"] Q43 (aF s'74):=by walk_at "sc"
theorem uO:aK ["_law_balance","_law_told_here","_law_refused"] ["_law_balance"] (aF s'75):=by walk_at "sc"
theorem Ni:aK ["_law_found","_law_due","_law_pair"] Q44 (aF s'76):=by walk_at "sc"
theorem zF:aK ["_law_span","_law_sums","_law_lines"] Q45 (aF s'77):=by walk_at "sc"
theorem lR:aK ["_law_script","_law_span","_law_more","_law_sums","_law_half","_law_one","_law_other","_law_thing","_law_keepsake"] ["_law_script"] (aF s'78):=by walk_at "sc"
theorem Ci:aK ["rungs","weight","things"] Q15 (aF s'79):=by walk_at "sc"
theorem Om:aK Q16 Q16 (aF s'80):=by walk_at "sc"
theorem G9:aK ["_law_script","_law_span","_law_more","_law_rows","_law_told_here","_law_due"] ["_law_script"] (aF s'81):=by walk_at "sc"
noncomputable def ajO(K:bB):Sp:=fun vs H Q _=>∃(a:Addr)(ns:List Int),vs=[.ref a]/\SqL K H a (ns.map V.int)/\ns.length<=63/\∀H',Q (.bl true) H'
theorem sq{t u:TS}{D:Ends}(h:∀R:St->Hp->Prop,(∀σ H,u D σ H->R σ H)->t { D with nx:=R } σ H):tSeq t u D σ H:=h (u D) fun _ _ z=>z
local macro_rules | `(tactic| walk_at "rec") => `(tactic| repeat first | rw [ajj] | rw [ak7] | (rw [ak8 ?h]; (case h => decide +kernel)))
noncomputable def rg(aG bN cI bO bQ bR cJ bT:V):List (Str × V):=[("room",aG),("total",bN),("over",cI),("under",bO),("turns",bQ),("least",bR),("most",cJ),("rungs",bT)]
theorem zU(aG bN cI bO bQ bR cJ bT:V):(rg aG bN cI bO bQ bR cJ bT).lookup ("room" : Str)=some aG:=by rfl
theorem uP(aG bN cI bO bQ bR cJ bT:V):(rg aG bN cI bO bQ bR cJ bT).lookup ("total" : Str)=some bN:=by rfl
theorem Jk(aG bN cI bO bQ bR cJ bT:V):(rg aG bN cI bO bQ bR cJ bT).lookup ("over" : Str)=some cI:=by rfl
theorem Ed(aG bN cI bO bQ bR cJ bT:V):(rg aG bN cI bO bQ bR cJ bT).lookup ("under" : Str)=some bO:=by rfl
theorem nR(aG bN cI bO bQ bR cJ bT:V):(rg aG bN cI bO bQ bR cJ bT).lookup ("turns" : Str)=some bQ:=by rfl
theorem Nj(aG bN cI bO bQ bR cJ bT:V):(rg aG bN cI bO bQ bR cJ bT).lookup ("least" : Str)=some bR:=by rfl
theorem TQ(aG bN cI bO bQ bR cJ bT:V):(rg aG bN cI bO bQ bR cJ bT).lookup ("most" : Str)=some cJ:=by rfl
theorem uQ(aG bN cI bO bQ bR cJ bT:V):(rg aG bN cI bO bQ bR cJ bT).lookup ("rungs" : Str)=some bT:=by rfl
theorem aoZ(aG bN cI bO bQ bR cJ bT:V):cF "rungs" bT (cF "most" cJ (cF "least" bR (cF "turns" bQ (cF "under" bO (cF "over" cI (cF "total" bN (cF "room" aG [])))))))=rg aG bN cI bO bQ bR cJ bT:=by
 unfold rg
 walk_at "rec"
theorem vY(aG bN cI bO bQ bR cJ bT y:V):cF "total" y (rg aG bN cI bO bQ bR cJ bT)=rg aG y cI bO bQ bR cJ bT:=by
 unfold rg
 walk_at "rec"
theorem zG(aG bN cI bO bQ bR cJ bT y:V):cF "over" y (rg aG bN cI bO bQ bR cJ bT)=rg aG bN y bO bQ bR cJ bT:=by
 unfold rg
 walk_at "rec"
theorem vZ(aG bN cI bO bQ bR cJ bT y:V):cF "under" y (rg aG bN cI bO bQ bR cJ bT)=rg aG bN cI y bQ bR cJ bT:=by
 unfold rg
 walk_at "rec"
theorem pC(aG bN cI bO bQ bR cJ bT y:V):cF "turns" y (rg aG bN cI bO bQ bR cJ bT)=rg aG bN cI bO y bR cJ bT:=by
 unfold rg
 walk_at "rec"
theorem Ef(aG bN cI bO bQ bR cJ bT y:V):cF "least" y (rg aG bN cI bO bQ bR cJ bT)=rg aG bN cI bO bQ y cJ bT:=by
 unfold rg
 walk_at "rec"
theorem Ia(aG bN cI bO bQ bR cJ bT y:V):cF "most" y (rg aG bN cI bO bQ bR cJ bT)=rg aG bN cI bO bQ bR y bT:=by
 unfold rg
 walk_at "rec"
theorem Eh(aG bN cI bO bQ bR cJ bT y:V):cF "rungs" y (rg aG bN cI bO bQ bR cJ bT)=rg aG bN cI bO bQ bR cJ y:=by
 unfold rg
 walk_at "rec"
theorem rgN{aG bN cI bO bQ bR cJ bT:V}(h:m∉[("room" : Str),("total" : Str),("over" : Str),("under" : Str),("turns" : Str),("least" : Str),("most" : Str),("rungs" : Str)]):(rg aG bN cI bO bQ bR cJ bT).lookup m=none:=by
 simp only[cO,iM,or_false,not_or]at h;obtain⟨Cj,alm,ao0,aln,alo,alp,ao1,alq⟩:=h;unfold rg;rw[cW Cj,cW alm,cW ao0,cW aln,cW alo,cW alp,cW ao1,cW alq];rfl
noncomputable def oV:Option Int->V
 |none=>.non
 |some i=>.int i
structure LL(H:Hp)(a:Addr)(bs:List Addr)(ls:RG.Ls):Prop where
 o:H a=some (.lst (bs.map V.ref))
 n:bs.length=ls.length
 e:∀(i:Nat)(b:Addr)(l:List Int),bs[i]? = some b->ls[i]? = some l->H b=some (.lst (l.map V.int))
 x:a∉bs
section
variable{a c:Addr}{bs:List Addr}{m:List Int}
theorem LL.same(h:LL H a bs ls)(s:Same H H'):LL H' a bs ls:=⟨s _ _ h.o,h.n,fun i b l e1 e2=>s _ _ (h.e i b l e1 e2),h.x⟩
theorem LL.at(h:LL H a bs ls)(hi:i<ls.length):∃b l,bs[i]? = some b/\ls[i]? = some l/\H b=some (.lst (l.map V.int)):=by
 have hb:i<bs.length:=by rw[h.n];exact hi
 exact⟨bs[i],ls[i],gA hb,gA hi,h.e i _ _ (gA hb) (gA hi)⟩
theorem LL.ix(h:bs[i]? = some b):atI (bs.map V.ref) (i:Int)=some (.ref b):=oY (by rw[gQ,h];rfl)
theorem zV(h:j<n):ixN n (j:Int)=some j:=by
 unfold ixN;rw[if_pos tb_g%,if_pos tb_g%];simp
theorem LL.set(h:LL H a bs ls)(hc:H c=some (.lst (m.map V.int)))(nc:c≠a):LL (upd H a (.lst ((bs.map V.ref).set i (.ref c)))) a (bs.set i c) (ls.set i m):=by
 refine⟨by rw[ak,aeR],by rw[kY,kY,h.n],fun j b l e1 e2=>?_,fun z=>?_⟩
 ·by_cases ij:i=j
  ·subst ij;rw[List.getElem?_set]at e1 e2;rw[if_pos rfl]at e1 e2;split at e1
   ·split at e2
    ·obtain rfl:=cN e1;obtain rfl:=cN e2;rw[aB nc];exact hc
    ·cases e2
   ·cases e1
  ·rw[Er ij]at e1 e2;have nb:b≠a:=fun z=>h.x (by rw[<-z];exact List.mem_of_getElem? e1);rw[aB nb];exact h.e j b l e1 e2
 ·rcases wz z with y|y
  ·exact h.x y
  ·exact nc y.symm
theorem LL.app(h:LL H a bs ls)(hc:H c=some (.lst (m.map V.int)))(nc:c≠a):LL (upd H a (.lst (bs.map V.ref++[.ref c]))) a (bs++[c]) (ls++[m]):=by
 refine⟨by rw[ak,cM];rfl,by rw[fj,fj,h.n];rfl,fun j b l e1 e2=>?_,fun z=>?_⟩
 ·rcases jO j bs.length with lt|ge
  ·rw[Jx lt]at e1;rw[Jx (by rw[<-h.n];exact lt)]at e2;have nb:b≠a:=fun z=>h.x (by rw[<-z];exact List.mem_of_getElem? e1);rw[aB nb];exact h.e j b l e1 e2
  ·rw[Jw ge]at e1;rw[Jw (by rw[<-h.n];exact ge),<-h.n]at e2;obtain e:j-bs.length=0:=by
    have:=(gn.mp e1).1;have:j-bs.length<1:=this;lia
   rw[e]at e1 e2;obtain rfl:=cN e1;obtain rfl:=cN e2;rw[aB nc];exact hc
 ·rcases dY.mp z with y|y
  ·exact h.x y
  ·exact nc (cZ.mp y).symm
theorem LL.copy{g:Addr}(h:LL H a bs ls)(hg:H g=none):LL (upd H g (.lst (bs.map V.ref))) g bs ls:=by
 have s:Same H (upd H g (.lst (bs.map V.ref))):=Same.new hg;refine⟨ak,h.n,(h.same s).e,fun z=>?_⟩;obtain⟨i,hi,e⟩:=Qi.mp z;obtain⟨b,l,e1,_,e3⟩:=h.at (i:=i) (by rw[<-h.n];exact hi);rw[gA hi,e]at e1;obtain rfl:=cN e1;rw[hg]at e3;cases e3
end
noncomputable def ao2(σ:St)(_:Hp):Nat:=match σ with
 |[_,_,_,_,_,some (.int n)]=>n.toNat
 |_=>0
noncomputable def alr:Sp:=fun vs H Q _=>∃(a:Addr)(bs:List Addr)(ls:RG.Ls)(t w:Int),vs=[.ref a,.int t,.int w]/\LL H a bs ls/\0<=w/\w<2 ^ 64/\ls.length<=800/\(∀l∈ls,l.length<=62) /\
 ∀(g:Addr)(bs':List Addr)(H':Hp),H g=none->LL H' g bs' (RG.iK t ls w.toNat)->Same H H'->(∀c∈bs',c∈bs\/H c=none)->Q (.ref g) H'
theorem ok'0(T:Tx K mg A):bZ P w K mg base CX0 1 A.f'0 A.Dt Q32 alr:=by
 k_dat (T.F'0.ok,jg) "a"
 ·obtain⟨a,bs,ls,t,w,rfl,_⟩:=h;rfl
 ·obtain⟨a,bs0,ls,t,w,rfl,hL,w0,w64,hn,h9,q⟩:=h;have w64':w.toNat<2 ^ 64:=by lia
  refine ⟨_,(ao (psS 3 jg.nd (lg (K8 rfl) (by rfl) T.M6 Yr (aj (pv 0) aq)))
   (ao (psS 4 jg.nd aA)
   (ao (psS 5 jg.nd (pv 2))
   (ao (uo jK (aN oO (pv 5) aA (aM _)) (ao (cU (aN iI (pv 4) (aO bA (by rfl) T.eF dZ (aj (pv 3) aq)) (aM _)) (aC (aZ (lG qT yd yg gF (pv 3) (aj (dG aq) aq)))) bJ)
   (ao (cU (aN iI (aH eU (pv 5) aA) aA (aM _)) (aC (yE (aO (o8 rfl) (by rfl) T.lQ Ku (aj (aH vG (bC (ixG (aY hr)) (pv 3) (pv 4) (fun _ _=>rfl)) (dG (aj (pv 1) aq))) aq)) (yD (pv 3) (pv 4) (setG (aY hr))))) bJ)
   (ao (psS 4 jg.nd (aH bM (pv 4) aA))
   (aC (psS 5 jg.nd (aH gZ (pv 5) aA)))))))
   (aC (aW (pv 3))))))),?_⟩
  refine⟨_,rfl,.inl ⟨a,_,rfl,.inl (.inl (.inl hL.o)),fun g hg=>?_⟩⟩;have L0:=hL.copy hg;have s0:Same H (upd H g (.lst (bs0.map V.ref))):=Same.new hg;generalize upd H g (.lst (bs0.map V.ref))=H1 at L0 s0 ⊢;refine⟨_,rfl,?_⟩;refine ux (fun σ G=>∃(bs:List Addr)(ms:RG.Ls)(p k:Nat),σ=[some (.ref a),some (.int t),some (.int w),some (.ref g),some (.int (p:Int)),some (.int (k:Int))]/\LL G g bs ms/\Same H G/\p<=ms.length/\ms.length<=800/\k*2 ^ p<=w.toNat/\ms.take p++RG.iK t (ms.drop p) k=RG.iK t ls w.toNat/\(∀l∈ms.drop p,l.length<=62)/\∀c∈bs,c∈bs0\/H c=none) ao2
   ⟨bs0,ls,0,w.toNat,by rw[Cv w0];rfl,L0,s0,eO _,hn,by rw[afL];lia,rfl,h9,fun c hc=>.inl hc⟩ ?_ ?_
  ·rintro σ G ⟨bs,ms,p,k,rfl,L,sG,hp,h8,kp,eq,b9,fr⟩;refine⟨_,rfl,_,_,rfl,rfl,_,rfl,fO (fun hc=>?_) (fun hc=>?_)⟩
   ·have k0:0<k:=by have:=of_decide_eq_true hc;lia
    have p64:p<=63:=by
     rcases jO p (63+1)with z|z
     ·lia
     ·have h1:=Kd (show 0<2 by decide) z;have h2:=Br (2 ^ p) k0;lia
    refine⟨_,rfl,_,rfl,cX (.inl (.inl L.o)) ⟨rfl,_,rfl,fO (fun he=>?_) (fun he=>?_)⟩⟩
    ·have he:p=ms.length:=by
      have:=V.int.inj (of_decide_eq_true he);rw[aV,L.n]at this;lia
     refine⟨_,rfl,.inl ⟨rfl,_,.inl (.inl L.o)⟩,by show 0<=sizeLine;decide,fun c hc=>?_⟩;have s1:Same G (upd G c (.lst [])):=Same.new hc;have f1:(upd G c (.lst [])) c=some (.lst (([]:List Int).map V.int)):=ak;generalize upd G c (.lst [])=G1 at s1 f1 ⊢;have nc:c≠g:=aX (au L.o hc);refine⟨g,_,_,rfl,rfl,s1 _ _ L.o,bI (by rw[aV,L.n];lia),?_⟩;have L2:=(L.same s1).app f1 nc;have s2:Same H (upd G1 g (.lst (bs.map V.ref++[.ref c]))):=fun b o e=>by rw[aB (au e hg)];exact s1 _ _ (sG b o e)
     generalize upd G1 g (.lst (bs.map V.ref++[.ref c]))=GX at L2 s2 ⊢;have lp:p<(ms++[[]]).length:=by rw[fj];show p<ms.length+1;lia
     have lp8:(ms++[[]]).length<=800:=by rw[fj];show ms.length+1<=800;lia
     have b92:∀l∈(ms++[[]]).drop p,l.length<=62:=fun l hl=>by
      rw[he,aeJ]at hl;rw[cZ.mp hl];exact eO _
     have fr2:∀x∈bs++[c],x∈bs0\/H x=none:=fun x hx=>by
      rcases dY.mp hx with z|z
      ·exact fr x z
      ·rw[cZ.mp z];exact .inr (sG.free hc)
     have eq2:=(RG.aal (t:=t) he (show k≠0 by lia)).trans eq;obtain⟨b,l,eb,el,hb⟩:=L2.at lp;have hl9:l.length<=62:=b92 l (by rw[RG.iD el];exact dO);have e9:∀m,∀l∈((ms++[[]]).set p m).drop (p+1),l.length<=62:=fun m l hl=>b92 l (by rw[RG.set_drop]at hl;rw[RG.iD el];exact fX _ hl);have st:=RG.Lq (t:=t) el (show k≠0 by lia);have kh:k / 2*2 ^ (p+1)<=w.toNat:=by
      rw[sO,Ga (2 ^ p) 2,<-Kf];exact eN (Br _ tb_g%) kp
     have ek:((k:Int) / 2)=((k / 2:Nat):Int):=by lia
     have ep:((p:Int)+1)=((p+1:Nat):Int):=by lia
     refine⟨_,rfl,_,_,rfl,rfl,(by show(0:Int)<2;decide),rfl,_,rfl,fO (fun hb2=>?_) (fun hb2=>?_)⟩
     ·have o2:k % 2=1:=by have:=V.int.inj (of_decide_eq_true hb2);lia
      rw[if_pos o2]at st;refine⟨_,rfl,_,rfl,cD (.inl (.inl L2.o)) (v:=.ref b) (LL.ix eb) ⟨_,rfl,by show 1<=sizeLine;decide,fun c1 hc1=>?_⟩⟩;have y1:Same GX (upd GX c1 (.lst [.int t])):=Same.new hc1;have z1:(upd GX c1 (.lst [.int t])) c1=some (.lst [.int t]):=ak;generalize upd GX c1 (.lst [.int t])=J1 at y1 z1 ⊢;refine⟨b,c1,_,_,rfl,rfl,y1 _ _ hb,z1,qP (bI (by rw[aV];show l.length+1<=1000;lia)),fun c2 hc2=>?_⟩;rw[show l.map V.int++[V.int t]=(l++[t]).map V.int by rw[cM];rfl];have y2:Same J1 (upd J1 c2 (.lst ((l++[t]).map V.int))):=Same.new hc2;have z2:(upd J1 c2 (.lst ((l++[t]).map V.int))) c2=some (.lst ((l++[t]).map V.int)):=ak;generalize upd J1 c2 (.lst ((l++[t]).map V.int))=J2 at y2 z2 ⊢;refine .inr ⟨c2,l++[t],rfl,.inl (.inl z2),by rw[fj];show l.length+1<64;lia,fun c3 ns hc3 pm so=>?_⟩;obtain rfl:=RG.vL pm so;have y3:Same J2 (upd J2 c3 (.lst ((RG.srt (l++[t])).map V.int))):=Same.new hc3;have z3:(upd J2 c3 (.lst ((RG.srt (l++[t])).map V.int))) c3=some (.lst ((RG.srt (l++[t])).map V.int)):=ak;generalize upd J2 c3 (.lst ((RG.srt (l++[t])).map V.int))=J3 at y3 z3 ⊢;have y03:=y1.trans (y2.trans y3);have M3:=L2.same y03;have nc3:c3≠g:=aX (au ((y1.trans y2) _ _ L2.o) hc3);refine⟨_,rfl,_,rfl,.inl ⟨g,_,_,p,rfl,rfl,M3.o,zV (by rw[aV,L2.n];exact lp),?_⟩⟩;have M4:=M3.set (i:=p) z3 nc3;have y4:Same H (upd J3 g (.lst (((bs++[c]).map V.ref).set p (.ref c3)))):=fun b o e=>by rw[aB (au e hg)];exact y03 _ _ (s2 b o e)
      generalize upd J3 g (.lst (((bs++[c]).map V.ref).set p (.ref c3)))=J4 at M4 y4 ⊢;refine⟨_,rfl,_,_,rfl,rfl,_,rfl,_,_,rfl,rfl,⟨by decide,by decide⟩,?_,?_⟩
      ·exact ⟨_,_,p+1,k / 2,by rw [<- ek,<- ep];rfl,M4,y4,by rw [kY];lia,by rw [kY];lia,kh,st.trans eq2,e9 _,fun c hc=>by
        rcases wz hc with z|z
        ·exact fr2 c z
        ·rw [z];exact .inr ((s2.trans (y1.trans y2)).free hc3)⟩
      ·show((k:Int) / 2).toNat<(k:Int).toNat;lia
     ·have o2:¬ k % 2=1:=fun z=>hb2 (decide_eq_true (congrArg V.int tb_g%));rw[if_neg o2,RG.Dm el]at st;have e9':=e9 l;rw[RG.Dm el]at e9';refine⟨_,rfl,_,_,rfl,rfl,_,rfl,_,_,rfl,rfl,⟨by decide,by decide⟩,?_,?_⟩
      ·exact⟨(bs++[c]),(ms++[[]]),p+1,k / 2,by rw[<-ek,<-ep];rfl,L2,s2,by lia,by lia,kh,st.trans eq2,e9',fr2⟩
      ·show((k:Int) / 2).toNat<(k:Int).toNat;lia
    ·have he:¬ p=ms.length:=fun z=>he (decide_eq_true (congrArg V.int (by rw[aV,L.n];lia)));have lp:p<ms.length:=by lia
     obtain⟨b,l,eb,el,hb⟩:=L.at lp;have hl9:l.length<=62:=b9 l (by rw[RG.iD el];exact dO);have e9:∀m,∀l∈(ms.set p m).drop (p+1),l.length<=62:=fun m l hl=>b9 l (by rw[RG.set_drop]at hl;rw[RG.iD el];exact fX _ hl);have st:=RG.Lq (t:=t) el (show k≠0 by lia);have kh:k / 2*2 ^ (p+1)<=w.toNat:=by
      rw[sO,Ga (2 ^ p) 2,<-Kf];exact eN (Br _ tb_g%) kp
     have ek:((k:Int) / 2)=((k / 2:Nat):Int):=by lia
     have ep:((p:Int)+1)=((p+1:Nat):Int):=by lia
     refine⟨_,rfl,_,_,rfl,rfl,(by show(0:Int)<2;decide),rfl,_,rfl,fO (fun hb2=>?_) (fun hb2=>?_)⟩
     ·have o2:k % 2=1:=by have:=V.int.inj (of_decide_eq_true hb2);lia
      rw[if_pos o2]at st;refine⟨_,rfl,_,rfl,cD (.inl (.inl L.o)) (v:=.ref b) (LL.ix eb) ⟨_,rfl,by show 1<=sizeLine;decide,fun c1 hc1=>?_⟩⟩;have y1:Same G (upd G c1 (.lst [.int t])):=Same.new hc1;have z1:(upd G c1 (.lst [.int t])) c1=some (.lst [.int t]):=ak;generalize upd G c1 (.lst [.int t])=J1 at y1 z1 ⊢;refine⟨b,c1,_,_,rfl,rfl,y1 _ _ hb,z1,qP (bI (by rw[aV];show l.length+1<=1000;lia)),fun c2 hc2=>?_⟩;rw[show l.map V.int++[V.int t]=(l++[t]).map V.int by rw[cM];rfl];have y2:Same J1 (upd J1 c2 (.lst ((l++[t]).map V.int))):=Same.new hc2;have z2:(upd J1 c2 (.lst ((l++[t]).map V.int))) c2=some (.lst ((l++[t]).map V.int)):=ak;generalize upd J1 c2 (.lst ((l++[t]).map V.int))=J2 at y2 z2 ⊢;refine .inr ⟨c2,l++[t],rfl,.inl (.inl z2),by rw[fj];show l.length+1<64;lia,fun c3 ns hc3 pm so=>?_⟩;obtain rfl:=RG.vL pm so;have y3:Same J2 (upd J2 c3 (.lst ((RG.srt (l++[t])).map V.int))):=Same.new hc3;have z3:(upd J2 c3 (.lst ((RG.srt (l++[t])).map V.int))) c3=some (.lst ((RG.srt (l++[t])).map V.int)):=ak;generalize upd J2 c3 (.lst ((RG.srt (l++[t])).map V.int))=J3 at y3 z3 ⊢;have y03:=y1.trans (y2.trans y3);have M3:=L.same y03;have nc3:c3≠g:=aX (au ((y1.trans y2) _ _ L.o) hc3);refine⟨_,rfl,_,rfl,.inl ⟨g,_,_,p,rfl,rfl,M3.o,zV (by rw[aV,L.n];exact lp),?_⟩⟩;have M4:=M3.set (i:=p) z3 nc3;have y4:Same H (upd J3 g (.lst ((bs.map V.ref).set p (.ref c3)))):=fun b o e=>by rw[aB (au e hg)];exact y03 _ _ (sG b o e)
      generalize upd J3 g (.lst ((bs.map V.ref).set p (.ref c3)))=J4 at M4 y4 ⊢;refine⟨_,rfl,_,_,rfl,rfl,_,rfl,_,_,rfl,rfl,⟨by decide,by decide⟩,?_,?_⟩
      ·exact ⟨_,_,p+1,k / 2,by rw [<- ek,<- ep];rfl,M4,y4,by rw [kY];lia,by rw [kY];lia,kh,st.trans eq,e9 _,fun c hc=>by
        rcases wz hc with z|z
        ·exact fr c z
        ·rw [z];exact .inr ((sG.trans (y1.trans y2)).free hc3)⟩
      ·show((k:Int) / 2).toNat<(k:Int).toNat;lia
     ·have o2:¬ k % 2=1:=fun z=>hb2 (decide_eq_true (congrArg V.int tb_g%));rw[if_neg o2,RG.Dm el]at st;have e9':=e9 l;rw[RG.Dm el]at e9';refine⟨_,rfl,_,_,rfl,rfl,_,rfl,_,_,rfl,rfl,⟨by decide,by decide⟩,?_,?_⟩
      ·exact⟨bs,ms,p+1,k / 2,by rw[<-ek,<-ep];rfl,L,sG,by lia,by lia,kh,st.trans eq,e9',fr⟩
      ·show((k:Int) / 2).toNat<(k:Int).toNat;lia
   ·have k0:k=0:=by have:¬ (0:Int)<k:=fun z=>hc (decide_eq_true z);lia
    subst k0;rw[RG.iT,Qh]at eq;rw[eq]at L;exact⟨_,rfl,q g bs G hg L sG fr⟩
  ·exact fun σ H Q Q' hq h=>mV (jG (bL 5) (vM _)) σ H Q Q' hq h
noncomputable def ao3:Sp:=fun vs H Q _=>∃(b:Addr)(l:List Int),vs=[.ref b]/\H b=some (.lst (l.map V.int))/\∀(c:Addr)(H':Hp),H c=none->H' c=some (.lst ((RG.lft l).map V.int))->Same H H'->Q (.ref c) H'
theorem ok'1(T:Tx K mg A):bZ P w K mg base CX0 1 A.f'1 A.Am Q14 ao3:=by
 k_dat (T.F'1.ok,M8) "a"
 ·obtain⟨b,l,rfl,_⟩:=h;rfl
 ·obtain⟨b,l,rfl,hb,q⟩:=h;have h2:(l.length:Int)-(l.length:Int) % 2=((l.length-l.length % 2:Nat):Int):=by lia
  refine⟨_,(aC (aW (jz m8 (pv 0) (dW (aH gk (aO bA (by rfl) T.eF dZ (aj (pv 0) aq)) (aH eU (aO bA (by rfl) T.eF dZ (aj (pv 0) aq)) aA))) iB))),?_⟩;refine⟨_,rfl,_,rfl,cX (.inl (.inl hb)) ⟨_,rfl,cX (.inl (.inl hb)) ⟨_,_,rfl,rfl,(by show(0:Int)<2;decide),_,_,rfl,rfl,_,rfl,b,_,rfl,.inl (.inl hb),fun c hc=>?_⟩⟩⟩;rw[aV,h2];have e:Gu (l.map V.int) (some ((l.length-l.length % 2:Nat):Int)) none=(RG.lft l).map V.int:=by
   rw[RG.Vr,JD];unfold Gu HT.sIx;simp only[aV];rw[if_neg tb_g%];rw[wA]
   ·congr 1;simp
   ·rw[JB,aV];simp
  rw[e];exact q c _ hc ak (Same.new hc)
noncomputable def als:Sp:=fun vs H Q _=>∃(b:Addr)(l:List Int)(tn:Int),vs=[.ref b,.int tn]/\H b=some (.lst (l.map V.int))/\∀(c:Addr)(H':Hp),H c=none->H' c=some (.lst ((RG.pick (decide (tn % 2=1)) l).map V.int))->Same H H'->Q (.ref c) H'
theorem ok'2(T:Tx K mg A):bZ P w K mg base CX0 1 A.f'2 A.abw Q17 als:=by
 k_dat (T.F'2.ok,ajM) "a"
 ·obtain⟨b,l,tn,rfl,_⟩:=h;rfl
 ·obtain⟨b,l,tn,rfl,hb,q⟩:=h;refine⟨_,(aC (aW (pI (pv 0) (dW (aH eU (pv 1) aA)) (dW (aH gk (aO bA (by rfl) T.eF dZ (aj (pv 0) aq)) (aH eU (aO bA (by rfl) T.eF dZ (aj (pv 0) aq)) aA))) (dW aA)))),?_⟩;refine⟨_,rfl,_,rfl,_,_,rfl,rfl,(by show(0:Int)<2;decide),_,rfl,?_⟩;refine⟨_,rfl,cX (.inl (.inl hb)) ⟨_,rfl,cX (.inl (.inl hb)) ⟨_,_,rfl,rfl,(by show(0:Int)<2;decide),_,_,rfl,rfl,_,rfl,?_⟩⟩⟩;refine⟨_,rfl,_,rfl,by decide,b,_,rfl,.inl (.inl hb),fun c hc=>?_⟩;rw[aV,adG tb_g%];exact q c _ hc ak (Same.new hc)
noncomputable def ao4(A:Ad):Sp:=fun vs H Q _=>∃(p dx:Addr)(r T ov un tn st:Int)(mi ma rf:V),vs=[.ref p,.int st]/\H p=some (.ins A.cV dx (rg (.int r) (.int T) (.int ov) (.int un) (.int tn) mi ma rf)) /\
 Q .non (upd H p (.ins A.cV dx (rg (.int r) (.int T) (.int (if tn % 2=0 then ov+st else ov)) (.int (if tn % 2=0 then un else un+st)) (.int (tn+1)) mi ma rf)))
theorem ok'3(T:Tx K mg A):bZ P w K mg base CX0 1 A.f'3 A.vO Q18 (ao4 A):=by
 k_dat (T.F'3.ok,Og) "a"
 ·obtain⟨p,dx,r,T,ov,un,tn,st,mi,ma,rf,rfl,_⟩:=h;rfl
 ·obtain ⟨p,dx,r,T',ov,un,tn,st,mi,ma,rf,rfl,hp,q⟩:=h;refine ⟨_,(ao (cU (aN iI (aH eU (pf 0) aA) aA (aM _)) (aC (aQ (pv 0) (aH bM (pf 0) (pv 1)) rfl)) (aC (aQ (pv 0) (aH bM (pf 0) (pv 1)) rfl)))
   (aC (aQ (pv 0) (aH bM (pf 0) aA) rfl))),?_⟩
  refine⟨_,rfl,rdF hp T.bV T.qC (nR ..) ⟨_,_,rfl,rfl,(by show(0:Int)<2;decide),rfl,_,rfl,fO (fun h=>?_) (fun h=>?_)⟩⟩
  ·have h0:tn % 2=0:=V.int.inj (of_decide_eq_true h);rw[if_pos h0,if_pos h0]at q;refine⟨_,rfl,rdF hp T.bV T.Aw (Jk ..) ⟨_,rfl,_,_,rfl,rfl,_,rfl,p,_,dx,_,rfl,hp,T.bV,T.Aw,(by show 8<1000;decide),?_⟩⟩;rw[zG];refine⟨_,rfl,rdF ak T.bV T.qC (nR ..) ⟨_,_,rfl,rfl,_,rfl,p,_,dx,_,rfl,ak,T.bV,T.qC,(by show 8<1000;decide),?_⟩⟩;rw[pC,cQ];exact q
  ·have h0:¬ tn % 2=0:=fun z=>h (decide_eq_true (congrArg V.int z));rw[if_neg h0,if_neg h0]at q;refine⟨_,rfl,rdF hp T.bV T.Ax (Ed ..) ⟨_,rfl,_,_,rfl,rfl,_,rfl,p,_,dx,_,rfl,hp,T.bV,T.Ax,(by show 8<1000;decide),?_⟩⟩;rw[vZ];refine⟨_,rfl,rdF ak T.bV T.qC (nR ..) ⟨_,_,rfl,rfl,_,rfl,p,_,dx,_,rfl,ak,T.bV,T.qC,(by show 8<1000;decide),?_⟩⟩;rw[pC,cQ];exact q
theorem LL.but{a C:Addr}{bs:List Addr}{fs:List (Str × V)}(h:LL H a bs ls)(b:But p H H')(hp:H p=some (.ins C e fs)):LL H' a bs ls:=
 ⟨b _ _ h.o (iY h.o hp (by intro z;cases z)),h.n,fun i c l e1 e2=>b _ _ (h.e i c l e1 e2) (iY (h.e i c l e1 e2) hp (by intro z;cases z)),h.x⟩
noncomputable def placeOf(σ:St)(_:Hp):Nat:=match σ with
 |[_,_,_,some (.int n),_,_]=>(1000-n).toNat
 |_=>0
noncomputable def ajP(A:Ad):Sp:=fun vs H Q _=>∃(p dx a:Addr)(bs:List Addr)(ls:RG.Ls)(r tt ov un tn:Int)(mi ma:Option Int)(rf:V),vs=[.ref p,.ref a]/\H p=some (.ins A.cV dx (rg (.int r) (.int tt) (.int ov) (.int un) (.int tn) (oV mi) (oV ma) rf))/\LL H a bs ls/\2<=r/\r<=64/\((∀l∈ls,l.length<=31)\/∀l∈ls,(l.length:Int)<=r)/\ls.length<=400/\RG.val ls<2 ^ 500 /\
 ∀(g:Addr)(bs':List Addr)(out:RG.Ls)(tn' ov' un':Int)(H':Hp),RG.Stl r 0 tn ov un ls out tn' ov' un'->H g=none->LL H' g bs' out->H' p=some (.ins A.cV dx (rg (.int r) (.int tt) (.int ov') (.int un') (.int tn') (oV mi) (oV ma) (.ref g)))->But p H H'->out.length<=501->(∀c∈bs',c∈bs\/H c=none)->Q .non H'
theorem ok'4(T:Tx K mg A):bZ P w K mg base CX0 2 A.f'4 A.qj ["self","lists"] (ajP A):=by
 k_dat (T.F'4.ok,fZ) "a"
 ·obtain⟨p,dx,a,bs,ls,r,tt,ov,un,tn,mi,ma,rf,rfl,_⟩:=h;rfl
 ·obtain ⟨p,dx,a,bs0,ls,r,tt,ov,un,tn,mi,ma,rf,rfl,hp,hL,r2,r64,h2,h4,h5,q⟩:=h;refine ⟨_,(ao (psS 2 fZ.nd (lg (K8 rfl) (by rfl) T.M6 Yr (aj (pv 1) aq)))
   (ao (psS 3 fZ.nd aA)
   (ao (psS 4 fZ.nd aA)
   (ao (uo jK (aN pZ (pv 3) (aO bA (by rfl) T.eF dZ (aj (pv 2) aq)) (aM _)) (ao (psS 5 fZ.nd (bC (ixG (aY hr)) (pv 2) (pv 3) (fun _ _=>rfl)))
   (ao (cU (aN oO (aO bA (by rfl) T.eF dZ (aj (pv 5) aq)) (pf 0) (aM _)) (ao (cU (aN iI (aH bM (pv 3) aA) (aO bA (by rfl) T.eF dZ (aj (pv 2) aq)) (aM _)) (aC (aZ (lG qT yd yg gF (pv 2) (aj (dG aq) aq)))) bJ)
   (ao (yE (aD (ok'1 T) tb_g% T.F'1 aL (aj (pv 5) aq)) (yD (pv 2) (pv 3) (setG (aY hr))))
   (ao (yE (aO (o8 rfl) (by rfl) T.lQ Ku (aj (aH vG (bC (ixG (aY hr)) (pv 2) (aH bM (pv 3) aA) (fun _ _=>rfl)) (aD (ok'2 T) tb_g% T.F'2 aL (aj (pv 5) (aj (pf 0) aq)))) aq)) (yD (pv 2) (aH bM (pv 3) aA) (setG (aY hr))))
   (aC (aZ (eV (pv 0) T.bV T.Tp (ok'3 T) tb_g% T.b'3 .nil aL (aj (pv 4) aq))))))) bJ)
   (ao (psS 3 fZ.nd (aH bM (pv 3) aA))
   (aC (psS 4 fZ.nd (aH gU (pv 4) aA)))))))
   (aC (aQ (pv 0) (pv 2) rfl)))))),?_⟩
  refine⟨_,rfl,.inl ⟨a,_,rfl,.inl (.inl (.inl hL.o)),fun g hg=>?_⟩⟩;have L0:=hL.copy hg;have s0:Same H (upd H g (.lst (bs0.map V.ref))):=Same.new hg;generalize upd H g (.lst (bs0.map V.ref))=H1 at L0 s0 ⊢;refine ux (fun σ G=>∃(bs:List Addr)(ms:RG.Ls)(j:Nat)(tn2 ov2 un2:Int)(x:Option V),σ=[some (.ref p),some (.ref a),some (.ref g),some (.int (j:Int)),some (.int (2 ^ j)),x]/\LL G g bs ms/\G p=some (.ins A.cV dx (rg (.int r) (.int tt) (.int ov2) (.int un2) (.int tn2) (oV mi) (oV ma) rf))/\But p H G/\RG.Run r tn ov un ls j tn2 ov2 un2 ms/\ms.length<=501/\∀c∈bs,c∈bs0\/H c=none) placeOf
   ⟨bs0,ls,0,tn,ov,un,none,rfl,L0,s0 _ _ hp,s0.but p,RG.Run.start,by lia,fun c hc=>.inl hc⟩ ?_ ?_
  ·rintro σ G ⟨bs,ms,j,tn2,ov2,un2,x,rfl,L,gp,bt,R,ln,fr⟩;have jl:=R.le;have ep:((j:Int)+1)=((j+1:Nat):Int):=by lia
   refine⟨_,rfl,_,rfl,cX (.inl (.inl L.o)) ⟨_,_,rfl,rfl,_,rfl,fO (fun hc=>?_) (fun hc=>?_)⟩⟩
   ·have hj:j<ms.length:=by
     have:=of_decide_eq_true hc;rw[aV,L.n]at this;lia
    obtain⟨b,l,eb,el,hb⟩:=L.at hj;have nbg:b≠g:=fun z=>L.x (by rw[<-z];exact List.mem_of_getElem? eb);refine⟨_,rfl,_,rfl,cD (.inl (.inl L.o)) (v:=.ref b) (LL.ix eb) ?_⟩;refine⟨_,rfl,cX (.inl (.inl hb)) ⟨_,rfl,rdF gp T.bV T.DK (zU ..) ⟨_,_,rfl,rfl,_,rfl,fO (fun hg2=>?_) (fun hg2=>?_)⟩⟩⟩
    ·have hgt:r<(l.length:Int):=by have:=of_decide_eq_true hg2;rw[aV]at this;exact this
     have hs:∀l∈ls,l.length<=31:=h2.resolve_right fun z=>by
      have e:=R.b0 z;have:=z l (by rw[<-e];exact List.mem_of_getElem? el);lia
     have ll4:=R.b1 hs l (List.mem_of_getElem? el);have hl2:2<=l.length:=by lia
     have hbig:=R.big el (fun z=>by rw[z]at hl2;exact absurd hl2 (by decide));have j5:j<500:=by
      rcases jO j 500 with z|z
      ·exact z
      ·have:=Kd (show 0<2 by decide) z;lia
     refine⟨_,rfl,_,_,rfl,rfl,_,rfl,cX (.inl (.inl L.o)) ⟨rfl,_,rfl,fO (fun he=>?_) (fun he=>?_)⟩⟩
     ·have he:j+1=ms.length:=by
       have:=V.int.inj (of_decide_eq_true he);rw[aV,L.n]at this;lia
      refine⟨_,rfl,.inl ⟨rfl,_,.inl (.inl L.o)⟩,by show 0<=sizeLine;decide,fun c hc0=>?_⟩;have s1:Same G (upd G c (.lst [])):=Same.new hc0;have f1:(upd G c (.lst [])) c=some (.lst (([]:List Int).map V.int)):=ak;generalize upd G c (.lst [])=G1 at s1 f1 ⊢;have nc:c≠g:=aX (au L.o hc0);refine⟨g,_,_,rfl,rfl,s1 _ _ L.o,bI (by rw[aV,L.n];lia),?_⟩;have LX:=(L.same s1).app f1 nc;have gx:∀x o,G x=some o->x≠g->(upd G1 g (.lst (bs.map V.ref++[.ref c]))) x=some o:=fun x o e n=>by rw[aB n];exact s1 _ _ e
      have pX:=gx _ _ gp (iY gp L.o (by intro z;cases z));have bX:=gx _ _ hb nbg;have btX:But p H (upd G1 g (.lst (bs.map V.ref++[.ref c]))):=fun b o e n=>gx _ _ (bt b o e n) (au e hg);generalize upd G1 g (.lst (bs.map V.ref++[.ref c]))=GX at LX pX bX btX ⊢;obtain⟨nx,MR⟩:∃nx:List Int,RG.More j ms (ms++[[]]) nx:=⟨[],.inr ⟨he,rfl,rfl⟩⟩;have hb:=bX;have SG:Same GX GX:=Same.refl _;have fr2:∀x∈bs++[c],x∈bs0\/H x=none:=fun x hx=>by
       rcases dY.mp hx with z|z
       ·exact fr x z
       ·rw[cZ.mp z];exact .inr (gh bt hc0 fun y=>by rw[y,gp]at hc0;cases hc0)
      have LN:(ms++[[]]).length<=501:=by rw[fj];show ms.length+1<=501;lia
      obtain⟨h1,h2,_,_,_⟩:=MR.at el;obtain⟨hp1,_⟩:=gn.mp h1;obtain⟨hp2,_⟩:=gn.mp h2;have hb':GX b=some (.lst (l.map V.int)):=SG _ _ hb;refine⟨_,rfl,b,l,rfl,hb',fun c1 G1 nc1 f1 s1=>?_⟩;have L1:=LX.same s1;have n1:c1≠g:=aX (au LX.o nc1);refine⟨_,rfl,_,rfl,.inl ⟨g,_,_,j,rfl,rfl,L1.o,zV (by rw[aV,LX.n];exact hp1),?_⟩⟩;have L2:=L1.set (i:=j) f1 n1;have pg:p≠g:=iY (s1 _ _ pX) L1.o (by intro z;cases z);have u2:∀x o,G1 x=some o->x≠g->(upd G1 g (.lst (((bs++[c]).map V.ref).set j (.ref c1)))) x=some o:=fun x o e n=>by rw[aB n];exact e
      have po2:=u2 _ _ (s1 _ _ pX) pg;have hb2:=u2 _ _ (s1 _ _ hb') nbg;have s02:But p H (upd G1 g (.lst (((bs++[c]).map V.ref).set j (.ref c1)))):=fun x o e n=>u2 _ _ (s1 _ _ (btX x o e n)) (au e hg);generalize upd G1 g (.lst (((bs++[c]).map V.ref).set j (.ref c1)))=G2 at L2 po2 hb2 s02 ⊢;have e2:((ms++[[]]).set j (RG.lft l))[j+1]? = some nx:=by rw[Er tb_g%];exact h2
      obtain⟨b3,l3,eb3,el3,hb3⟩:=L2.at (i:=j+1) (by rw[kY];exact hp2);obtain rfl:l3=nx:=by rw[e2]at el3;exact(cN el3).symm
      have nx2:l3.length<=31:=by
       rcases MR with⟨_,e⟩|⟨_,_,e⟩
       ·exact R.b2 hs l3 (by rw[RG.iD e];exact dO)
       ·rw[e];exact eO _
      refine⟨_,rfl,_,rfl,_,_,rfl,rfl,cD (.inl (.inl L2.o)) (v:=.ref b3) (by rw[ep];exact LL.ix eb3) ?_⟩;refine⟨_,rfl,_,rfl,rdF po2 T.bV T.qC (nR ..) ⟨b,l,tn2,rfl,hb2,fun c4 G4 nc4 f4 s4=>?_⟩⟩;have lp:=RG.nP (decide (tn2 % 2=1)) l;refine⟨b3,c4,_,_,rfl,rfl,s4 _ _ hb3,f4,qP (bI (by rw[aV,aV];lia)),fun c5 nc5=>?_⟩;rw[<-cM];have s5:Same G4 (upd G4 c5 (.lst ((l3++RG.pick (decide (tn2 % 2=1)) l).map V.int))):=Same.new nc5;have f5:(upd G4 c5 (.lst ((l3++RG.pick (decide (tn2 % 2=1)) l).map V.int))) c5=some (.lst ((l3++RG.pick (decide (tn2 % 2=1)) l).map V.int)):=ak;generalize upd G4 c5 (.lst ((l3++RG.pick (decide (tn2 % 2=1)) l).map V.int))=G5 at s5 f5 ⊢;refine .inr ⟨c5,_,rfl,.inl (.inl f5),by rw[fj];lia,fun c6 ns nc6 pm so=>?_⟩;obtain rfl:=RG.vL pm so;have s6:Same G5 (upd G5 c6 (.lst ((RG.srt (l3++RG.pick (decide (tn2 % 2=1)) l)).map V.int))):=Same.new nc6;have f6:(upd G5 c6 (.lst ((RG.srt (l3++RG.pick (decide (tn2 % 2=1)) l)).map V.int))) c6=some (.lst ((RG.srt (l3++RG.pick (decide (tn2 % 2=1)) l)).map V.int)):=ak;generalize upd G5 c6 (.lst ((RG.srt (l3++RG.pick (decide (tn2 % 2=1)) l)).map V.int))=G6 at s6 f6 ⊢;have s26:=s4.trans (s5.trans s6);have L6:=L2.same s26;have n6:c6≠g:=aX (au ((s4.trans s5) _ _ L2.o) nc6);refine⟨_,rfl,_,rfl,_,_,rfl,rfl,.inl ⟨g,_,_,j+1,rfl,rfl,L6.o,by rw[ep];exact zV (by rw[aV,kY,LX.n];exact hp2),?_⟩⟩;have L7:=L6.set (i:=j+1) f6 n6;have po7:(upd G6 g (.lst ((((bs++[c]).set j c1).map V.ref).set (j+1) (.ref c6)))) p=_:=(aB pg).trans (s26 _ _ po2);have s07:But p H (upd G6 g (.lst ((((bs++[c]).set j c1).map V.ref).set (j+1) (.ref c6)))):=fun x o e n=>by rw[aB (au e hg)];exact s26 _ _ (s02 x o e n)
      generalize upd G6 g (.lst ((((bs++[c]).set j c1).map V.ref).set (j+1) (.ref c6)))=G7 at L7 po7 s07 ⊢;refine⟨_,rfl,p,dx,_,rfl,po7,rgN tb_g%,_,rfl,p,dx,r,tt,ov2,un2,tn2,2 ^ j,oV mi,oV ma,rf,rfl,po7,?_⟩;have R8:=R.turn MR el hgt;have L8:LL (upd G7 p (.ins A.cV dx (rg (.int r) (.int tt) (.int (if tn2 % 2=0 then ov2+2 ^ j else ov2)) (.int (if tn2 % 2=0 then un2 else un2+2 ^ j)) (.int (tn2+1)) (oV mi) (oV ma) rf))) g _ _:=L7.but (But.upd) po7;have po8:(upd G7 p (.ins A.cV dx (rg (.int r) (.int tt) (.int (if tn2 % 2=0 then ov2+2 ^ j else ov2)) (.int (if tn2 % 2=0 then un2 else un2+2 ^ j)) (.int (tn2+1)) (oV mi) (oV ma) rf))) p=_:=ak;have s08:But p H (upd G7 p (.ins A.cV dx (rg (.int r) (.int tt) (.int (if tn2 % 2=0 then ov2+2 ^ j else ov2)) (.int (if tn2 % 2=0 then un2 else un2+2 ^ j)) (.int (tn2+1)) (oV mi) (oV ma) rf))):=s07.trans But.upd;generalize upd G7 p (.ins A.cV dx (rg (.int r) (.int tt) (.int (if tn2 % 2=0 then ov2+2 ^ j else ov2)) (.int (if tn2 % 2=0 then un2 else un2+2 ^ j)) (.int (tn2+1)) (oV mi) (oV ma) rf))=G8 at L8 po8 s08 ⊢;refine⟨_,rfl,_,_,rfl,rfl,_,rfl,_,_,rfl,rfl,iR (by decide) (by decide),?_,?_⟩
      ·exact ⟨_,_,j+1,_,_,_,_,by rw [<- ep,vA];rfl,L8,po8,s08,R8,by rw [kY,kY];exact LN,fun c hc=>by
        rcases wz hc with z|z
        ·rcases wz z with z|z
         ·exact fr2 c z
         ·rw[z];exact .inr (gh btX nc1 fun y=>by rw[y,pX]at nc1;cases nc1)
        ·rw [z];exact .inr (gh (s02.trans ((s4.trans s5).but p)) nc6 fun y=>by rw [y,(s4.trans s5) _ _ po2] at nc6;cases nc6)⟩
      ·show(1000-((j:Int)+1)).toNat<(1000-(j:Int)).toNat;lia
     ·have he:¬ j+1=ms.length:=fun z=>he (decide_eq_true (congrArg V.int (by rw[aV,L.n];lia)));obtain⟨b',nx,eb',el',_⟩:=L.at (i:=j+1) tb_g%;have MR:RG.More j ms ms nx:=.inl ⟨rfl,el'⟩;have SG:Same G G:=Same.refl _;have LN:=ln;obtain⟨h1,h2,_,_,_⟩:=MR.at el;obtain⟨hp1,_⟩:=gn.mp h1;obtain⟨hp2,_⟩:=gn.mp h2;have hb':G b=some (.lst (l.map V.int)):=SG _ _ hb;refine⟨_,rfl,b,l,rfl,hb',fun c1 G1 nc1 f1 s1=>?_⟩;have L1:=L.same s1;have n1:c1≠g:=aX (au L.o nc1);refine⟨_,rfl,_,rfl,.inl ⟨g,_,_,j,rfl,rfl,L1.o,zV (by rw[aV,L.n];exact hp1),?_⟩⟩;have L2:=L1.set (i:=j) f1 n1;have pg:p≠g:=iY (s1 _ _ gp) L1.o (by intro z;cases z);have u2:∀x o,G1 x=some o->x≠g->(upd G1 g (.lst ((bs.map V.ref).set j (.ref c1)))) x=some o:=fun x o e n=>by rw[aB n];exact e
      have po2:=u2 _ _ (s1 _ _ gp) pg;have hb2:=u2 _ _ (s1 _ _ hb') nbg;have s02:But p H (upd G1 g (.lst ((bs.map V.ref).set j (.ref c1)))):=fun x o e n=>u2 _ _ (s1 _ _ (bt x o e n)) (au e hg);generalize upd G1 g (.lst ((bs.map V.ref).set j (.ref c1)))=G2 at L2 po2 hb2 s02 ⊢;have e2:(ms.set j (RG.lft l))[j+1]? = some nx:=by rw[Er tb_g%];exact h2
      obtain⟨b3,l3,eb3,el3,hb3⟩:=L2.at (i:=j+1) (by rw[kY];exact hp2);obtain rfl:l3=nx:=by rw[e2]at el3;exact(cN el3).symm
      have nx2:l3.length<=31:=by
       rcases MR with⟨_,e⟩|⟨_,_,e⟩
       ·exact R.b2 hs l3 (by rw[RG.iD e];exact dO)
       ·rw[e];exact eO _
      refine⟨_,rfl,_,rfl,_,_,rfl,rfl,cD (.inl (.inl L2.o)) (v:=.ref b3) (by rw[ep];exact LL.ix eb3) ?_⟩;refine⟨_,rfl,_,rfl,rdF po2 T.bV T.qC (nR ..) ⟨b,l,tn2,rfl,hb2,fun c4 G4 nc4 f4 s4=>?_⟩⟩;have lp:=RG.nP (decide (tn2 % 2=1)) l;refine⟨b3,c4,_,_,rfl,rfl,s4 _ _ hb3,f4,qP (bI (by rw[aV,aV];lia)),fun c5 nc5=>?_⟩;rw[<-cM];have s5:Same G4 (upd G4 c5 (.lst ((l3++RG.pick (decide (tn2 % 2=1)) l).map V.int))):=Same.new nc5;have f5:(upd G4 c5 (.lst ((l3++RG.pick (decide (tn2 % 2=1)) l).map V.int))) c5=some (.lst ((l3++RG.pick (decide (tn2 % 2=1)) l).map V.int)):=ak;generalize upd G4 c5 (.lst ((l3++RG.pick (decide (tn2 % 2=1)) l).map V.int))=G5 at s5 f5 ⊢;refine .inr ⟨c5,_,rfl,.inl (.inl f5),by rw[fj];lia,fun c6 ns nc6 pm so=>?_⟩;obtain rfl:=RG.vL pm so;have s6:Same G5 (upd G5 c6 (.lst ((RG.srt (l3++RG.pick (decide (tn2 % 2=1)) l)).map V.int))):=Same.new nc6;have f6:(upd G5 c6 (.lst ((RG.srt (l3++RG.pick (decide (tn2 % 2=1)) l)).map V.int))) c6=some (.lst ((RG.srt (l3++RG.pick (decide (tn2 % 2=1)) l)).map V.int)):=ak;generalize upd G5 c6 (.lst ((RG.srt (l3++RG.pick (decide (tn2 % 2=1)) l)).map V.int))=G6 at s6 f6 ⊢;have s26:=s4.trans (s5.trans s6);have L6:=L2.same s26;have n6:c6≠g:=aX (au ((s4.trans s5) _ _ L2.o) nc6);refine⟨_,rfl,_,rfl,_,_,rfl,rfl,.inl ⟨g,_,_,j+1,rfl,rfl,L6.o,by rw[ep];exact zV (by rw[aV,kY,L.n];exact hp2),?_⟩⟩;have L7:=L6.set (i:=j+1) f6 n6;have po7:(upd G6 g (.lst (((bs.set j c1).map V.ref).set (j+1) (.ref c6)))) p=_:=(aB pg).trans (s26 _ _ po2);have s07:But p H (upd G6 g (.lst (((bs.set j c1).map V.ref).set (j+1) (.ref c6)))):=fun x o e n=>by rw[aB (au e hg)];exact s26 _ _ (s02 x o e n)
      generalize upd G6 g (.lst (((bs.set j c1).map V.ref).set (j+1) (.ref c6)))=G7 at L7 po7 s07 ⊢;refine⟨_,rfl,p,dx,_,rfl,po7,rgN tb_g%,_,rfl,p,dx,r,tt,ov2,un2,tn2,2 ^ j,oV mi,oV ma,rf,rfl,po7,?_⟩;have R8:=R.turn MR el hgt;have L8:LL (upd G7 p (.ins A.cV dx (rg (.int r) (.int tt) (.int (if tn2 % 2=0 then ov2+2 ^ j else ov2)) (.int (if tn2 % 2=0 then un2 else un2+2 ^ j)) (.int (tn2+1)) (oV mi) (oV ma) rf))) g _ _:=L7.but (But.upd) po7;have po8:(upd G7 p (.ins A.cV dx (rg (.int r) (.int tt) (.int (if tn2 % 2=0 then ov2+2 ^ j else ov2)) (.int (if tn2 % 2=0 then un2 else un2+2 ^ j)) (.int (tn2+1)) (oV mi) (oV ma) rf))) p=_:=ak;have s08:But p H (upd G7 p (.ins A.cV dx (rg (.int r) (.int tt) (.int (if tn2 % 2=0 then ov2+2 ^ j else ov2)) (.int (if tn2 % 2=0 then un2 else un2+2 ^ j)) (.int (tn2+1)) (oV mi) (oV ma) rf))):=s07.trans But.upd;generalize upd G7 p (.ins A.cV dx (rg (.int r) (.int tt) (.int (if tn2 % 2=0 then ov2+2 ^ j else ov2)) (.int (if tn2 % 2=0 then un2 else un2+2 ^ j)) (.int (tn2+1)) (oV mi) (oV ma) rf))=G8 at L8 po8 s08 ⊢;refine⟨_,rfl,_,_,rfl,rfl,_,rfl,_,_,rfl,rfl,iR (by decide) (by decide),?_,?_⟩
      ·exact ⟨_,_,j+1,_,_,_,_,by rw [<- ep,vA];rfl,L8,po8,s08,R8,by rw [kY,kY];exact LN,fun c hc=>by
        rcases wz hc with z|z
        ·rcases wz z with z|z
         ·exact fr c z
         ·rw[z];exact .inr (gh bt nc1 fun y=>by rw[y,gp]at nc1;cases nc1)
        ·rw [z];exact .inr (gh (s02.trans ((s4.trans s5).but p)) nc6 fun y=>by rw [y,(s4.trans s5) _ _ po2] at nc6;cases nc6)⟩
      ·show(1000-((j:Int)+1)).toNat<(1000-(j:Int)).toNat;lia
    ·have hle:(l.length:Int)<=r:=by
      have:¬ r<((l.map V.int).length:Int):=fun z=>hg2 (decide_eq_true z);rw[aV]at this;lia
     refine⟨_,rfl,_,_,rfl,rfl,_,rfl,_,_,rfl,rfl,iR (by decide) (by decide),?_,?_⟩
     ·exact⟨bs,ms,j+1,_,_,_,_,by rw[<-ep,vA];rfl,L,gp,bt,R.keep el hle,ln,fr⟩
     ·show(1000-((j:Int)+1)).toNat<(1000-(j:Int)).toNat;lia
   ·have hj:ms.length<=j:=by
     have:¬ (j:Int)<((bs.map V.ref).length:Int):=fun z=>hc (decide_eq_true z);rw[aV,L.n]at this;lia
    refine⟨_,rfl,_,rfl,p,_,dx,_,rfl,gp,T.bV,T.yV,(by show 8<1000;decide),?_⟩;rw[Eh];exact q g bs ms tn2 ov2 un2 _ (R.done hj) hg (L.but But.upd gp) ak (bt.trans But.upd) ln fr
  ·exact fun σ H Q Q' hq h=>mV (jG (bL 3) (Ma (jf (bL 2) uG))) σ H Q Q' hq h
noncomputable def lo2:Option Int->Option Int->Option Int
 |none,b=>b
 |a,none=>a
 |some a,some b=>some (min a b)
noncomputable def hi2:Option Int->Option Int->Option Int
 |none,b=>b
 |a,none=>a
 |some a,some b=>some (max a b)
noncomputable def abC(a b:Option Int):List Int:=a.toList++b.toList
theorem alu{a b:Option Int}{v:V}(h:Best true .non (abC a b) v):v=oV (lo2 a b):=by
 rcases h with⟨e,rfl⟩|⟨m,rfl,hm,hb⟩
 ·cases a <;> cases b <;> first|rfl|cases e
 ·cases a with
  |none=>cases b with
   |none=>cases hm
   |some b=>rw[cZ.mp hm];rfl
  |some a=>cases b with
   |none=>rw[cZ.mp hm];rfl
   |some b =>
    have h1:=hb a dO;have h2:=hb b (fX _ dO);rw[if_pos rfl]at h1 h2;have:m=min a b:=by
     rcases cO.mp hm with z|z
     ·lia
     ·have:=cZ.mp z;lia
    rw[this];rfl
theorem alv{a b:Option Int}{v:V}(h:Best false .non (abC a b) v):v=oV (hi2 a b):=by
 rcases h with⟨e,rfl⟩|⟨m,rfl,hm,hb⟩
 ·cases a <;> cases b <;> first|rfl|cases e
 ·cases a with
  |none=>cases b with
   |none=>cases hm
   |some b=>rw[cZ.mp hm];rfl
  |some a=>cases b with
   |none=>rw[cZ.mp hm];rfl
   |some b =>
    have h1:=hb a dO;have h2:=hb b (fX _ dO);rw[if_neg (by decide)]at h1 h2;have:m=max a b:=by
     rcases cO.mp hm with z|z
     ·lia
     ·have:=cZ.mp z;lia
    rw[this];rfl
noncomputable def known(a b:Option Int)(i:Nat):List V:=(([a,b].take i).flatMap Option.toList).map V.int
noncomputable def Ei(f:Option Int->Option Int->Option Int):Sp:=fun vs H Q _=>∃(a b:Option Int),vs=[oV a,oV b]/\∀H',Same H H'->Q (oV (f a b)) H'
theorem amm(T:Tx K mg A):bZ P w K mg base CX0 1 A.f'6 A.Mt Q1 (Ei lo2)/\bZ P w K mg base CX0 1 A.f'5 A.GF Q1 (Ei hi2):=by
 refine⟨T.F'6.ok PL (fun vs H Q E h=>?_) (fun cdv B outer s H vs Q E hr h=>?_),T.F'5.ok M9 (fun vs H Q E h=>?_) (fun cdv B outer s H vs Q E hr h=>?_)⟩
 ·obtain⟨a,b,rfl,_⟩:=h;rfl
 rotate_left
 ·obtain⟨a,b,rfl,_⟩:=h;rfl
 obtain ⟨a,b,rfl,q⟩:=h;refine ⟨_,(ao (mU (i:=2) (cl:=[]) (N:=Q12) (caps:=[]) (tt:=_) (te:=_) M9.nd rfl (Or.inl rfl) rfl (by with_unfolding_all rfl) tb_g% rfl tb_g% trivial (iJ (by with_unfolding_all rfl)) tb_g% rfl rfl rfl (cG.at (k:=1) (show cG _ _ _ _ 1 [] from trivial)) (ah9 (jL (aj (pv 0) (aj (pv 1) aq)))) (fun _ _ _ _=>(Jg (aN Sq (pv 0) mL (aM _)))) (fun _ _ _ _=>(pv 0)))
   (aC (aW (Dp false T.abB (pv 2) mL rfl)))),?_⟩
 rotate_left
 obtain ⟨a,b,rfl,q⟩:=h;refine ⟨_,(ao (mU (i:=2) (cl:=[]) (N:=Q12) (caps:=[]) (tt:=_) (te:=_) PL.nd rfl (Or.inl rfl) rfl (by with_unfolding_all rfl) tb_g% rfl tb_g% trivial (iJ (by with_unfolding_all rfl)) tb_g% rfl rfl rfl (cG.at (k:=1) (show cG _ _ _ _ 1 [] from trivial)) (ah9 (jL (aj (pv 0) (aj (pv 1) aq)))) (fun _ _ _ _=>(Jg (aN Sq (pv 0) mL (aM _)))) (fun _ _ _ _=>(pv 0)))
   (aC (aW (Dp true T.amj (pv 2) mL rfl)))),?_⟩
 all_goals
  refine⟨_,rfl,_,rfl,by show 2<=sizeLine;decide,fun t ht=>?_⟩;have s1:Same H (upd H t (.tup [oV a,oV b])):=Same.new ht;have f1:(upd H t (.tup [oV a,oV b])) t=some (.tup [oV a,oV b]):=ak;generalize upd H t (.tup [oV a,oV b])=H1 at s1 f1 ⊢;refine⟨t,rfl,⟨_,.inl (.inl f1)⟩,fun D hD=>?_⟩;refine aan (K:=K) (a:=t) (xs:=[oV a,oV b]) (fun i ys G=>ys=known a b i/\G=upd H1 D (.lst ys)) ⟨rfl,rfl⟩ ?_ ?_ ?_ ?_ ?_
  ·rintro i ys G hi ⟨rfl,rfl⟩;refine⟨.inl (.inl ((Same.new hD) _ _ f1)),ak,bI ?_⟩;unfold known;cases a <;> cases b <;> match i,hi with
    |0,_=>simp
    |1,_=>simp
    |2,_=>simp
  ·rintro i ys G x hx ⟨rfl,rfl⟩
   match i,hx with
   |0,hx =>
    obtain rfl:oV a=x:=cN hx;cases a with
    |none=>exact⟨_,rfl,rfl,_,rfl,fO (fun h=>absurd h (by decide)) (fun _=>⟨ak,rfl,rfl⟩)⟩
    |some z=>exact⟨_,rfl,rfl,_,rfl,fO (fun _=>⟨_,rfl,ak,rfl,by rw[cQ]⟩) (fun h=>absurd (show(!decide (V.int z=V.non))=true by rw[decide_eq_false (by intro y;cases y)];rfl) h)⟩
   |1,hx =>
    obtain rfl:oV b=x:=cN hx;cases b with
    |none=>exact⟨_,rfl,rfl,_,rfl,fO (fun h=>absurd h (by decide)) (fun _=>⟨ak,by cases a <;> rfl,by cases a <;> rfl⟩)⟩
    |some z=>exact⟨_,rfl,rfl,_,rfl,fO (fun _=>⟨_,rfl,ak,by cases a <;> rfl,by rw[cQ]⟩) (fun h=>absurd (show(!decide (V.int z=V.non))=true by rw[decide_eq_false (by intro y;cases y)];rfl) h)⟩
  ·rintro ys G ⟨rfl,rfl⟩;have ek:known a b [oV a,oV b].length=(abC a b).map V.int:=by cases a <;> cases b <;> rfl
   rw[ek];refine⟨_,rfl,D,abC a b,rfl,.inl (.inl ak),fun v hv=>?_⟩
   first|rw[alu hv]|rw[alv hv]
   exact q _ (s1.trans (Same.new hD))
  ·exact fun σ H R R' hr h=>mV (Jj (r:=fun x y H Q=>y=.non/\Q (.bl (!decide (x=.non))) H) (fun x y H Q Q' hq h=>⟨h.1,hq _ _ h.2⟩) (bL 0) (vM _)) σ H R R' hr h
  ·exact bL 0
theorem ok'6(T:Tx K mg A):bZ P w K mg base CX0 1 A.f'6 A.Mt Q1 (Ei lo2):=(amm T).1
theorem ok'5(T:Tx K mg A):bZ P w K mg base CX0 1 A.f'5 A.GF Q1 (Ei hi2):=(amm T).2
noncomputable def alw(A:Ad):Sp:=fun vs H Q _=>∃(p dx:Addr)(r:Int),vs=[.ref p,.int r]/\H p=some (.ins A.cV dx []) /\
 ∀(d:Addr)(H':Hp),H d=none->H' p=some (.ins A.cV dx (rg (.int r) (.int 0) (.int 0) (.int 0) (.int 0) .non .non (.ref d)))->H' d=some (.lst [])->But p H H'->Q .non H'
theorem ok'7(T:Tx K mg A):bZ P w K mg base CX0 1 A.f'7 A.vP Q3 (alw A):=by
 k_dat (T.F'7.ok,Oh) "a"
 ·obtain⟨p,dx,r,rfl,_⟩:=h;rfl
 ·obtain ⟨p,dx,r,rfl,hp,q⟩:=h;refine ⟨_,(ao (aQ (pv 0) (pv 1) rfl)
   (ao (aQ (pv 0) aA rfl)
   (ao (aQ (pv 0) aA rfl)
   (ao (aQ (pv 0) aA rfl)
   (ao (aQ (pv 0) aA rfl)
   (ao (aQ (pv 0) mL rfl)
   (ao (aQ (pv 0) mL rfl)
   (aC (aQ (pv 0) (dG aq) rfl))))))))),?_⟩
  refine⟨_,rfl,_,rfl,p,_,dx,[],rfl,hp,T.bV,T.DK,(by show 0<1000;decide),?_⟩;refine⟨_,rfl,p,_,dx,_,rfl,ak,T.bV,T.wM,(by show 1<1000;decide),?_⟩;refine⟨_,rfl,p,_,dx,_,rfl,ak,T.bV,T.Aw,(by show 2<1000;decide),?_⟩;refine⟨_,rfl,p,_,dx,_,rfl,ak,T.bV,T.Ax,(by show 3<1000;decide),?_⟩;refine⟨_,rfl,p,_,dx,_,rfl,ak,T.bV,T.qC,(by show 4<1000;decide),?_⟩;refine⟨_,rfl,p,_,dx,_,rfl,ak,T.bV,T.HS,(by show 5<1000;decide),?_⟩;refine⟨_,rfl,p,_,dx,_,rfl,ak,T.bV,T.HW,(by show 6<1000;decide),?_⟩;rw[cQ,cQ,cQ,cQ,cQ,cQ];refine⟨(by show 0<=sizeLine;decide),fun d hd=>?_⟩;have npd:p≠d:=fun z=>by rw[<-z,ak]at hd;cases hd
  rw[aB (aX npd)]at hd;refine⟨_,rfl,p,_,dx,_,rfl,(by rw[aB npd];exact ak),T.bV,T.yV,(by show 7<1000;decide),?_⟩;refine q d _ hd (KD ak (by rw[aoZ])) (by rw[aB (aX npd),ak]) fun b o e hb=>?_;rw[aB hb,aB (au e hd),aB hb];exact e
structure Rn(A:Ad)(H:Hp)(p dx a:Addr)(bs:List Addr)(r tt ov un tn:Int)(mi ma:Option Int)(ls:RG.Ls):Prop where
 o:H p=some (.ins A.cV dx (rg (.int r) (.int tt) (.int ov) (.int un) (.int tn) (oV mi) (oV ma) (.ref a)))
 l:LL H a bs ls
section
variable{a:Addr}{bs:List Addr}{r tt ov un tn:Int}{mi ma:Option Int}
theorem Rn.same(h:Rn A H p dx a bs r tt ov un tn mi ma ls)(s:Same H H'):Rn A H' p dx a bs r tt ov un tn mi ma ls:=⟨s _ _ h.o,h.l.same s⟩
theorem Rn.but{q C:Addr}{fs:List (Str × V)}(h:Rn A H p dx a bs r tt ov un tn mi ma ls)(b:But q H H')(hq:H q=some (.ins C e fs))(n:p≠q):Rn A H' p dx a bs r tt ov un tn mi ma ls:=⟨b _ _ h.o n,h.l.but b hq⟩
theorem Rn.new(h1:H p=some (.ins A.cV dx (rg (.int r) (.int 0) (.int 0) (.int 0) (.int 0) .non .non (.ref d))))(h2:H d=some (.lst [])):Rn A H p dx d [] r 0 0 0 0 none none []:=
 ⟨h1,⟨h2,rfl,fun i b l e=>by (cases i <;> cases e),fun z=>nomatch z⟩⟩
end
noncomputable def ao5(A:Ad):Sp:=fun vs H Q _=>∃(p dx a:Addr)(bs:List Addr)(r tt ov un tn t w:Int)(mi ma:Option Int)(ls:RG.Ls),vs=[.ref p,.int t,.int w]/\Rn A H p dx a bs r tt ov un tn mi ma ls/\2<=r/\r<=64/\0<=w/\w<2 ^ 64/\ls.length<=400/\(∀l∈ls,l.length<=62)/\((∀l∈ls,l.length<=30)\/∀l∈ls,(l.length:Int)+1<=r)/\RG.val ls<2 ^ 400 /\
 ∀(a':Addr)(bs':List Addr)(out:RG.Ls)(tn' ov' un':Int)(H':Hp),RG.Stl r 0 tn ov un (RG.iK t ls w.toNat) out tn' ov' un'->Rn A H' p dx a' bs' r (tt+w) ov' un' tn' (lo2 mi (some t)) (hi2 ma (some t)) out->But p H H'->H a'=none->(∀c∈bs',c∈bs\/H c=none)->Q .non H'
theorem ok'8(T:Tx K mg A):bZ P w K mg base CX0 5 A.f'8 A.yP Q2 (ao5 A):=by
 k_dat (T.F'8.ok,Tz) "a"
 ·obtain⟨p,dx,a,bs,r,tt,ov,un,tn,t,w,mi,ma,ls,rfl,_⟩:=h;rfl
 ·obtain ⟨p,dx,a,bs,r,tt,ov,un,tn,t,w,mi,ma,ls,rfl,hR,r2,r64,w0,w64,h3,h1,h6,hv,q⟩:=h;refine ⟨_,(ao (aQ (pv 0) (aH bM (pf 0) (pv 2)) rfl)
   (ao (aQ (pv 0) (aD (ok'6 T) tb_g% T.F'6 aL (aj (pf 0) (aj (pv 1) aq))) rfl)
   (ao (aQ (pv 0) (aD (ok'5 T) tb_g% T.F'5 aL (aj (pf 0) (aj (pv 1) aq))) rfl)
   (aC (aZ (eV (pv 0) T.bV T.zp (ok'4 T) tb_g% T.b'4 .nil aL (aj (aD (ok'0 T) tb_g% T.F'0 aL (aj (pf 0) (aj (pv 1) (aj (pv 2) aq)))) aq))))))),?_⟩
  refine⟨_,rfl,rdF hR.o T.bV T.wM (uP ..) ⟨_,rfl,_,_,rfl,rfl,_,rfl,p,_,dx,_,rfl,hR.o,T.bV,T.wM,(by show 8<1000;decide),?_⟩⟩;rw[vY];have b1:But p H (upd H p (.ins A.cV dx (rg (.int r) (.int (tt+w)) (.int ov) (.int un) (.int tn) (oV mi) (oV ma) (.ref a)))):=But.upd;have o1:(upd H p (.ins A.cV dx (rg (.int r) (.int (tt+w)) (.int ov) (.int un) (.int tn) (oV mi) (oV ma) (.ref a)))) p=_:=ak;have L1:=hR.l.but b1 hR.o;generalize upd H p (.ins A.cV dx (rg (.int r) (.int (tt+w)) (.int ov) (.int un) (.int tn) (oV mi) (oV ma) (.ref a)))=H1 at b1 o1 L1 ⊢;refine⟨_,rfl,rdF o1 T.bV T.HS (Nj ..) ⟨_,rfl,mi,some t,rfl,fun H2 s2=>⟨_,rfl,p,_,dx,_,rfl,s2 _ _ o1,T.bV,T.HS,(by show 8<1000;decide),?_⟩⟩⟩;rw[Ef];have b3:But p H2 (upd H2 p (.ins A.cV dx (rg (.int r) (.int (tt+w)) (.int ov) (.int un) (.int tn) (oV (lo2 mi (some t))) (oV ma) (.ref a)))):=But.upd;have o3:(upd H2 p (.ins A.cV dx (rg (.int r) (.int (tt+w)) (.int ov) (.int un) (.int tn) (oV (lo2 mi (some t))) (oV ma) (.ref a)))) p=_:=ak;have L3:=(L1.same s2).but b3 (s2 _ _ o1);have b03:But p H (upd H2 p (.ins A.cV dx (rg (.int r) (.int (tt+w)) (.int ov) (.int un) (.int tn) (oV (lo2 mi (some t))) (oV ma) (.ref a)))):=(b1.trans (s2.but p)).trans b3;generalize upd H2 p (.ins A.cV dx (rg (.int r) (.int (tt+w)) (.int ov) (.int un) (.int tn) (oV (lo2 mi (some t))) (oV ma) (.ref a)))=H3 at b03 o3 L3 ⊢;refine⟨_,rfl,rdF o3 T.bV T.HW (TQ ..) ⟨_,rfl,ma,some t,rfl,fun H4 s4=>⟨_,rfl,p,_,dx,_,rfl,s4 _ _ o3,T.bV,T.HW,(by show 8<1000;decide),?_⟩⟩⟩;rw[Ia];have b5:But p H4 (upd H4 p (.ins A.cV dx (rg (.int r) (.int (tt+w)) (.int ov) (.int un) (.int tn) (oV (lo2 mi (some t))) (oV (hi2 ma (some t))) (.ref a)))):=But.upd;have o5:(upd H4 p (.ins A.cV dx (rg (.int r) (.int (tt+w)) (.int ov) (.int un) (.int tn) (oV (lo2 mi (some t))) (oV (hi2 ma (some t))) (.ref a)))) p=_:=ak;have L5:=(L3.same s4).but b5 (s4 _ _ o3);have b05:But p H (upd H4 p (.ins A.cV dx (rg (.int r) (.int (tt+w)) (.int ov) (.int un) (.int tn) (oV (lo2 mi (some t))) (oV (hi2 ma (some t))) (.ref a)))):=(b03.trans (s4.but p)).trans b5;generalize upd H4 p (.ins A.cV dx (rg (.int r) (.int (tt+w)) (.int ov) (.int un) (.int tn) (oV (lo2 mi (some t))) (oV (hi2 ma (some t))) (.ref a)))=H5 at b05 o5 L5 ⊢;refine⟨_,rfl,p,dx,_,rfl,o5,rgN tb_g%,?_⟩;refine⟨_,rfl,rdF o5 T.bV T.yV (uQ ..) ⟨_,rfl,_,rfl,a,bs,ls,t,w,rfl,L5,w0,w64,by lia,fun l hl=>by have:=h1 l hl;lia,fun g bs' H6 ng L6 s6 fr6=>?_⟩⟩;refine⟨p,dx,g,bs',_,r,tt+w,ov,un,tn,lo2 mi (some t),hi2 ma (some t),.ref a,rfl,s6 _ _ o5,L6,r2,r64,(h6.imp (fun z=>RG.Vv t _ _ z) fun z l m=>by have:=RG.Vv t (b:=(r-1).toNat) w.toNat ls (fun k hk=>by have:=z k hk;lia) l m;lia),?_,?_,fun g2 bs2 out tn' ov' un' H7 st ng2 L7 o7 b7 _ fr7=>?_⟩
  ·have:=RG.Pg t 64 w.toNat ls tb_g%;lia
  ·rw[RG.Pb];have:(2:Nat) ^ 400+2 ^ 64<2 ^ 500:=by decide
   lia
  ·have b07:But p H H7:=(b05.trans (s6.but p)).trans b7;have n5:H5 g2=none:=s6.free ng2;refine q g2 bs2 out tn' ov' un' H7 st ⟨o7,L7⟩ b07 (gh b05 n5 fun z=>by rw[z,o5]at n5;cases n5) fun c hc=>?_;have h5:H5 c=none->c∈bs\/H c=none:=fun n=>.inr (gh b05 n fun z=>by rw[z,o5]at n;cases n);rcases fr7 c hc with z|z
   ·rcases fr6 c z with z|z
    ·exact .inl z
    ·exact h5 z
   ·exact h5 (s6.free z)
noncomputable def wf(aG aP fV fW:V):List (Str × V):=[("room",aG),("reach",aP),("clock",fV),("boxes",fW)]
theorem zW(aG aP fV fW:V):(wf aG aP fV fW).lookup ("room" : Str)=some aG:=by rfl
theorem uR(aG aP fV fW:V):(wf aG aP fV fW).lookup ("reach" : Str)=some aP:=by rfl
theorem lU(aG aP fV fW:V):(wf aG aP fV fW).lookup ("clock" : Str)=some fV:=by rfl
theorem uU(aG aP fV fW:V):(wf aG aP fV fW).lookup ("boxes" : Str)=some fW:=by rfl
theorem ao6(aG aP fV fW:V):cF "boxes" fW (cF "clock" fV (cF "reach" aP (cF "room" aG [])))=wf aG aP fV fW:=by
 unfold wf
 walk_at "rec"
theorem pD(aG aP fV fW y:V):cF "clock" y (wf aG aP fV fW)=wf aG aP y fW:=by
 unfold wf
 walk_at "rec"
theorem Ej(aG aP fV fW y:V):cF "boxes" y (wf aG aP fV fW)=wf aG aP fV y:=by
 unfold wf
 walk_at "rec"
theorem Wf(aG aP fV fW:V)(Cj:¬ m = "room")(TV:¬ m = "reach")(alx:¬ m = "clock")(aly:¬ m = "boxes"):(wf aG aP fV fW).lookup m=none:=by
 unfold wf;rw[cW Cj,cW TV,cW alx,cW aly];rfl
noncomputable abbrev Bp:=Addr × WN.Box
variable{ps:List Bp}
noncomputable def bt(b:WN.Box):HO:=.tup [.int b.f,.int b.l,.int b.s]
structure Bxs(H:Hp)(l:Addr)(ps:List Bp):Prop where
 l:H l=some (.lst (ps.map fun p=>V.ref p.1))
 t:∀p∈ps,H p.1=some (bt p.2)
noncomputable def bx(ps:List Bp):List WN.Box:=ps.map (·.2)
theorem lV(ps:List Bp):(bx ps).length=ps.length:=aV _
theorem Bxs.same(h:Bxs H l ps)(s:Same H H'):Bxs H' l ps:=⟨s _ _ h.l,fun p m=>s _ _ (h.t p m)⟩
theorem Bxs.but{q C:Addr}{fs:List (Str × V)}(h:Bxs H l ps)(s:But q H H')(hq:H q=some (.ins C e fs)):Bxs H' l ps:=
 ⟨s _ _ h.l (iY h.l hq (by intro z;cases z)),fun p m=>s _ _ (h.t p m) (iY (h.t p m) hq (by intro z;cases z))⟩
theorem TY{y:V}(h:(ps.map fun p=>V.ref p.1)[i]? = some y):∃p,ps[i]? = some p/\y=V.ref p.1:=by
 rw[gQ]at h;cases e:ps[i]? with
 |none=>rw[e]at h;cases h
 |some z=>rw[e]at h;exact⟨z,rfl,(cN h).symm⟩
noncomputable def lW(room edge:Int)(bs:List WN.Box):List WN.Box:=(WN.settled room (bs.filter fun b=>decide (edge<b.l)).reverse).reverse
noncomputable def ajQ:Sp:=fun vs H Q _=>∃(l:Addr)(room:Int)(ps:List Bp),vs=[.ref l,.int room]/\Bxs H l ps/\ps.length<=500/\0<=room/\room<=64 /\
 ∀(l':Addr)(ps':List Bp)(H':Hp),H l'=none->bx ps'=(WN.settled room (bx ps).reverse).reverse->Bxs H' l' ps'->Same H H'->Q (.ref l') H'
noncomputable def Wg:Option Bp->V
 |none=>.non
 |some h=>.ref h.1
theorem ao7{p:Bp}(h:ps.reverse[i]? = some p):(bx ps).reverse.drop i=p.2::(bx ps).reverse.drop (i+1):=by
 unfold bx;rw[<-Qm,<-JD,<-JD];have hi:i<ps.reverse.length:=(gn.mp h).1;rw[aei hi,fU];rw[(gn.mp h).2]
theorem ok'9(T:Tx K mg A):bZ P w K mg base CX0 1 A.f'9 A.V2 ["boxes","room"] ajQ:=by
 k_dat (T.F'9.ok,jH) "a"
 ·obtain⟨l,room,ps,rfl,_⟩:=h;rfl
 ·obtain ⟨l,room,ps,rfl,hb,h500,r0,r64,q⟩:=h;refine ⟨_,(ao (psS 2 jH.nd (dG aq))
   (ao (psS 3 jH.nd aA)
   (ao (psS 4 jH.nd mL)
   (ao (j9 jK rfl (ai6 rfl T.Cg (aj (pv 0) aq)) (pgN 5 jH.nd) (aC (cU (aN aie (pv 4) mL (aM _)) (aC (psS 4 jH.nd (pv 5))) (aC (cU (aN rC (aH gU (aH bM (bC (ixG (aY hr)) (pv 4) aA (fun _ _=>rfl)) (bC (ixG (aY hr)) (pv 5) aA (fun _ _=>rfl))) (pv 1)) (pv 3) (aM _)) (aC (psS 4 jH.nd (jL (aj (bC (ixG (aY hr)) (pv 5) aA (fun _ _=>rfl)) (aj (bC (ixG (aY hr)) (pv 4) aA (fun _ _=>rfl)) (aj (aH bM (bC (ixG (aY hr)) (pv 5) aA (fun _ _=>rfl)) (bC (ixG (aY hr)) (pv 4) aA (fun _ _=>rfl))) aq)))))) (ao (aZ (lG qT yd yg gF (pv 2) (aj (pv 4) aq)))
   (ao (psS 3 jH.nd (aH bM (pv 3) (bC (ixG (aY hr)) (pv 4) aA (fun _ _=>rfl))))
   (aC (psS 4 jH.nd (pv 5))))))))))
   (ao (cU (aN Sq (pv 4) mL (aM _)) (aC (aZ (lG qT yd yg gF (pv 2) (aj (pv 4) aq)))) bJ)
   (aC (aW (aap T.M6 T.Cg (aj (pv 2) aq) rfl)))))))),?_⟩
  refine ⟨(by show 0<=sizeLine;decide),fun D hD=>?_⟩;have sD:Same H (upd H D (.lst [])):=Same.new hD;refine ⟨_,rfl,l,_,rfl,.inl (.inl (sD _ _ hb.l)),abp (K:=K) (a:=l) (xs:=ps.map fun p=>V.ref p.1) (fun i σ H2=>∃ (xb:Option V) (S:Int) (ds:List Bp) (hand:Option Bp),σ=[some (.ref l),some (.int room),some (.ref D),some (.int S),some (Wg hand),xb]/\Same H H2/\Bxs H2 D ds/\ds.length<=i /\
    (hand=none->i=0/\ds=[]/\S=0)/\(∀ h,hand=some h->1<=i/\H2 h.1=some (bt h.2)/\bx ds++WN.settle room S h.2 ((bx ps).reverse.drop i)=WN.settled room (bx ps).reverse))
   ⟨none,0,[],none,rfl,sD,⟨ak,(fun p m=>nomatch m)⟩,bG _,fun _=>⟨rfl,rfl,rfl⟩,(fun h e=>nomatch e)⟩ (fun i σ H2 _ ⟨_,_,_,_,_,s,_⟩=>.inl (.inl (s _ _ hb.l))) ?_ ?_⟩
  ·rintro i y σ H2 hi ⟨xb,S,ds,hand,rfl,s2,hD2,hlen,hn,hs⟩;rw[<-Qm]at hi;obtain⟨p,hp,rfl⟩:=TY hi;have hip:i<ps.length:=by
    have:=(gn.mp hp).1
    rwa [Ay]at this
   have pm:p∈ps:=Xd.mp (List.mem_of_getElem? hp);have ht:=s2 _ _ (hb.t p pm);have hdrop:=ao7 hp;cases hand with
   |none =>
    obtain⟨rfl,rfl,rfl⟩:=hn rfl;refine⟨_,rfl,rfl,_,rfl,?_⟩;rw[show decide (Wg none=V.non)=true from Mg];refine nO ⟨_,rfl,_,0,[],some p,rfl,s2,hD2,eO _,(fun e=>nomatch e),fun h e=>?_⟩;obtain rfl:=cN e;refine⟨bG _,ht,?_⟩;rw[aeK]at hdrop;rw[hdrop];rfl
   |some h =>
    obtain⟨i1,hht,heq⟩:=hs h rfl;rw[hdrop,WN.yK]at heq;refine⟨_,rfl,rfl,_,rfl,?_⟩;rw[show decide (Wg (some h)=V.non)=false from VH];refine uz ?_;refine⟨_,rfl,jA (.inl (.inl hht)) (v:=.int h.2.s) rfl ⟨_,rfl,jA (.inl (.inl ht)) (v:=.int p.2.s) rfl ⟨_,_,rfl,rfl,_,rfl,_,_,rfl,rfl,iR tb_g% tb_g%,_,rfl,_,_,rfl,rfl,_,rfl,fO (fun hc=>?_) (fun hc=>?_)⟩⟩⟩
    ·have hc:(h.2.s+p.2.s)*room<=S:=of_decide_eq_true hc;rw[if_pos hc]at heq;refine⟨_,rfl,jA (.inl (.inl ht)) (v:=.int p.2.f) rfl ⟨_,rfl,jA (.inl (.inl hht)) (v:=.int h.2.l) rfl ⟨_,rfl,jA (.inl (.inl ht)) (v:=.int p.2.s) rfl ⟨_,rfl,jA (.inl (.inl hht)) (v:=.int h.2.s) rfl ⟨_,_,rfl,rfl,(by show 3<=sizeLine;decide),fun t1 ht1=>?_⟩⟩⟩⟩⟩;have s3:Same H2 (upd H2 t1 (bt ⟨p.2.f,h.2.l,p.2.s+h.2.s⟩)):=Same.new ht1;refine⟨_,S,ds,some (t1,⟨p.2.f,h.2.l,p.2.s+h.2.s⟩),rfl,s2.trans s3,hD2.same s3,by lia,(fun e=>nomatch e),fun h' e=>?_⟩;obtain rfl:=cN e;refine⟨by lia,ak,?_⟩;rw[show p.2.s+h.2.s=h.2.s+p.2.s by lia];exact heq
    ·have hc:¬ (h.2.s+p.2.s)*room<=S:=fun z=>hc (decide_eq_true z);rw[if_neg hc]at heq;refine⟨_,rfl,.inl ⟨rfl,_,.inl (.inl hD2.l)⟩,_,rfl,D,_,_,rfl,rfl,hD2.l,bI (by rw[aV];lia),?_⟩;have nD:∀a b,H2 a=some (bt b)->a≠D:=fun a b e=>iY e hD2.l (by intro z;cases z);have ht3:∀L,(upd H2 D L) h.1=some (bt h.2):=fun L=>by rw[aB (nD _ _ hht)];exact hht
     refine⟨_,rfl,_,rfl,jA (.inl (.inl (ht3 _))) (v:=.int h.2.s) rfl ⟨_,_,rfl,rfl,?_⟩⟩;refine⟨_,rfl,_,S+h.2.s,ds++[h],some p,rfl,fun b o e=>?_,⟨?_,fun z m=>?_⟩,by rw[fj];show ds.length+1<=i+1;lia,(fun e=>nomatch e),fun h' e=>?_⟩
     ·rw[aB (au e hD)];exact s2 _ _ e
     ·rw[ak,cM];rfl
     ·rcases dY.mp m with m|m
      ·have:=hD2.t z m;rw[aB (nD _ _ this)];exact this
      ·rw[cZ.mp m];exact ht3 _
     ·obtain rfl:=cN e;refine⟨by lia,by rw[aB (nD _ _ ht)];exact ht,?_⟩;unfold bx at heq ⊢;rw[cM,pL];exact heq
  ·rintro σ H2 ⟨xb,S,ds,hand,rfl,s2,hD2,hlen,hn,hs⟩;rw[aV]at hlen hn hs;cases hand with
   |none =>
    obtain⟨h0,rfl,rfl⟩:=hn rfl;have e0:ps=[]:=z8.mp h0;subst e0;refine⟨_,rfl,rfl,_,rfl,?_⟩;rw[show decide (Wg none=V.non)=true from Mg];refine uz ⟨_,rfl,D,_,rfl,.inl (.inl hD2.l),fun l' hl'=>?_⟩;exact q l' [] _ (s2.free hl') rfl ⟨ak,(fun p m=>nomatch m)⟩ (s2.trans (Same.new hl'))
   |some h =>
    obtain⟨i1,hht,heq⟩:=hs h rfl;refine⟨_,rfl,rfl,_,rfl,?_⟩;rw[show decide (Wg (some h)=V.non)=false from VH];refine nO ⟨_,rfl,.inl ⟨rfl,_,.inl (.inl hD2.l)⟩,_,rfl,D,_,_,rfl,rfl,hD2.l,bI (by rw[aV];lia),?_⟩;have nD:∀a b,H2 a=some (bt b)->a≠D:=fun a b e=>iY e hD2.l (by intro z;cases z);have eL:((ds.map fun p=>V.ref p.1)++[V.ref h.1])=(ds++[h]).map fun p=>V.ref p.1:=by rw[cM];rfl
    have s3:Same H (upd H2 D (.lst ((ds.map fun p=>V.ref p.1)++[V.ref h.1]))):=fun b o e=>by rw[aB (au e hD)];exact s2 _ _ e
    have t3:∀p∈ds++[h],(upd H2 D (.lst ((ds.map fun p=>V.ref p.1)++[V.ref h.1]))) p.1=some (bt p.2):=fun z m=>by
     rcases dY.mp m with m|m
     ·have:=hD2.t z m;rw[aB (nD _ _ this)];exact this
     ·rw[cZ.mp m,aB (nD _ _ hht)];exact hht
    refine⟨_,rfl,D,_,rfl,.inl (.inl ak),fun l' hl'=>?_⟩;refine q l' (ds++[h]).reverse _ (s3.free hl') ?_ ⟨?_,fun z m=>?_⟩ (s3.trans (Same.new hl'))
    ·rw[WW (by rw[Ay,lV];exact bG _),WN.Lx]at heq;rw[<-heq];unfold bx;rw[Qm,cM];rfl
    ·rw[ak,Qm,<-eL];rfl
    ·rw[aB (au (t3 z (Xd.mp m)) hl')];exact t3 z (Xd.mp m)
noncomputable def alz(A:Ad):Sp:=fun vs H Q _=>∃(p dx:Addr)(r k:Int),vs=[.ref p,.int r,.int k]/\H p=some (.ins A.gY dx []) /\
 ∀(d:Addr)(H':Hp),H d=none->H' p=some (.ins A.gY dx (wf (.int r) (.int k) (.int 0) (.ref d)))->H' d=some (.lst [])->But p H H'->Q .non H'
theorem amn(T:Tx K mg A):bZ P w K mg base CX0 1 A.Ul A.tG Q19 (alz A):=by
 k_dat (T.F'10.ok,Nb) "a"
 ·obtain⟨p,dx,r,k,rfl,_⟩:=h;rfl
 ·obtain ⟨p,dx,r,k,rfl,hp,q⟩:=h;refine ⟨_,(ao (aQ (pv 0) (pv 1) rfl)
   (ao (aQ (pv 0) (pv 2) rfl)
   (ao (aQ (pv 0) aA rfl)
   (aC (aQ (pv 0) (dG aq) rfl))))),?_⟩
  refine⟨_,rfl,_,rfl,p,_,dx,[],rfl,hp,T.dI,T.DN,(by show 0<1000;decide),?_⟩;refine⟨_,rfl,_,rfl,p,_,dx,_,rfl,ak,T.dI,T.DQ,(by show 1<1000;decide),?_⟩;refine⟨_,rfl,p,_,dx,_,rfl,ak,T.dI,T.jM,(by show 2<1000;decide),?_⟩;rw[cQ,cQ];refine⟨(by show 0<=sizeLine;decide),fun d hd=>?_⟩;have npd:p≠d:=fun z=>by rw[<-z,ak]at hd;cases hd
  rw[aB (aX npd)]at hd;refine⟨_,rfl,p,_,dx,_,rfl,(by rw[aB npd];exact ak),T.dI,T.qD,(by show 3<1000;decide),?_⟩;refine q d _ hd (KD ak (by rw[ao6])) (by rw[aB (aX npd),ak]) fun b o e hb=>?_;rw[aB hb,aB (au e hd),aB hb];exact e
structure Wn(A:Ad)(H:Hp)(p dx l:Addr)(r k c:Int)(ps:List Bp):Prop where
 o:H p=some (.ins A.gY dx (wf (.int r) (.int k) (.int c) (.ref l)))
 b:Bxs H l ps
theorem Wn.same{r k c:Int}(h:Wn A H p dx l r k c ps)(s:Same H H'):Wn A H' p dx l r k c ps:=⟨s _ _ h.o,h.b.same s⟩
theorem Wn.but{q C:Addr}{fs:List (Str × V)}{r k c:Int}(h:Wn A H p dx l r k c ps)(s:But q H H')(hq:H q=some (.ins C e fs))(n:p≠q):Wn A H' p dx l r k c ps:=⟨s _ _ h.o n,h.b.but s hq⟩
noncomputable def adV(A:Ad):Sp:=fun vs H Q _=>∃(p dx l l0:Addr)(r k c:Int)(ps:List Bp),vs=[.ref p,.ref l]/\H p=some (.ins A.gY dx (wf (.int r) (.int k) (.int c) (.ref l0)))/\Bxs H l ps/\ps.length<=500/\0<=r/\r<=64 /\
 ∀(l':Addr)(ps':List Bp)(H':Hp),bx ps'=lW r (c-k) (bx ps)->Wn A H' p dx l' r k c ps'->But p H H'->H l'=none->Q .non H'
theorem ajR(T:Tx K mg A):bZ P w K mg base CX0 2 A.Ze A.oA ["self","boxes"] (adV A):=by
 k_dat (T.F'11.ok,mX) "a"
 ·obtain⟨p,dx,l,l0,r,k,c,ps,rfl,_⟩:=h;rfl
 ·obtain ⟨p,dx,l,l0,r,k,c,ps,rfl,hp,hb,h500,r0,r64,q⟩:=h;refine ⟨_,(ao (Gm (i:=2) mX.nd rfl (Or.inr rfl) (aH gk (pf 0) (pf 0)))
   (ao (mU (i:=3) (cl:=[("edge",s.heap.objs.size+1)]) (N:=["box","edge"]) (caps:=[2]) (tt:=(aif (tOp _ (tOp (Dd K) _ _) _))) (te:=_) mX.nd rfl (Or.inl rfl) rfl (by with_unfolding_all rfl) tb_g% rfl tb_g% ⟨rfl,trivial⟩ (iJ (by with_unfolding_all rfl)) tb_g% rfl rfl rfl (cG.at (k:=1) (show cG _ _ _ _ 1 [2] from ⟨⟨"edge",_,rfl,rfl,.inl rfl,.inl rfl,rfl⟩,trivial⟩)) (gj (pv 1)) (fun _ _ _ _=>(Jg (aN oO (bC (ixG (by exact aY hr)) (pv 0) aA (fun _ _=>rfl)) (pv 1) (aM _)))) (fun _ _ _ _=>(pv 0)))
   (aC (aQ (pv 0) (aD (ok'9 T) tb_g% T.F'9 aL (aj (pv 3) (aj (pf 0) aq))) rfl)))),?_⟩
  refine⟨_,rfl,rdF hp T.dI T.jM (lU _ _ _ _) ⟨_,rfl,rdF hp T.dI T.DQ (uR _ _ _ _) ⟨_,_,rfl,rfl,?_⟩⟩⟩;refine⟨_,rfl,l,rfl,⟨_,.inl (.inl hb.l)⟩,fun D hD=>?_⟩;refine Hw (K:=K) (a:=l) (xs:=ps.map fun p=>V.ref p.1) (fun i ys H2=>ys=((ps.take i).filter fun p=>decide (c-k<p.2.l)).map (fun p=>V.ref p.1)/\H2=upd H D (.lst ys)) ⟨by simp,rfl⟩ ?_ ?_ ?_ ?_ ?_
  ·rintro i ys H2 hi ⟨rfl,rfl⟩;refine⟨.inl (.inl ((Same.new hD) _ _ hb.l)),ak,bI ?_⟩;rw[aV];have:=Jv (fun p:Bp=>decide (c-k<p.2.l)) (ps.take i);rw[iw]at this;lia
  ·rintro i ys H2 x hx ⟨rfl,rfl⟩;obtain⟨z,hz,rfl⟩:=TY hx;have ht:=(Same.new (o:=.lst (((ps.take i).filter fun p=>decide (c-k<p.2.l)).map (fun p=>V.ref p.1))) hD) _ _ (hb.t z (List.mem_of_getElem? hz));refine⟨_,rfl,jA (.inl (.inl ht)) (v:=.int z.2.l) rfl ⟨_,rfl,_,_,rfl,rfl,_,rfl,fO (fun hc=>?_) (fun hc=>?_)⟩⟩
   ·have hc:c-k<z.2.l:=of_decide_eq_true hc;refine⟨_,rfl,ak,?_,by rw[cQ]⟩;rw[qM,hz,Cp,cM];show _=_++(([z]:List Bp).filter fun p=>decide (c-k<p.2.l)).map (fun p=>V.ref p.1);rw[List.filter_cons_of_pos (by simpa using hc)];rfl
   ·have hc:¬ c-k<z.2.l:=fun y=>hc (decide_eq_true y);refine⟨ak,?_,rfl⟩;rw[qM,hz,Cp,cM];show _=_++(([z]:List Bp).filter fun p=>decide (c-k<p.2.l)).map (fun p=>V.ref p.1);rw[List.filter_cons_of_neg (by simpa using hc)];simp
  ·rintro ys H2 ⟨rfl,rfl⟩;rw[aV,m9];have sD:Same H (upd H D (.lst ((ps.filter fun p=>decide (c-k<p.2.l)).map (fun p=>V.ref p.1)))):=Same.new hD;have bD:Bxs (upd H D (.lst ((ps.filter fun p=>decide (c-k<p.2.l)).map (fun p=>V.ref p.1)))) D (ps.filter fun p=>decide (c-k<p.2.l)):=⟨ak,fun z m=>sD _ _ (hb.t z (Ew.mp m).1)⟩;generalize upd H D (.lst ((ps.filter fun p=>decide (c-k<p.2.l)).map (fun p=>V.ref p.1)))=H3 at sD bD ⊢;have hlen:=Jv (fun p:Bp=>decide (c-k<p.2.l)) ps;refine⟨_,rfl,_,rfl,rdF (sD _ _ hp) T.dI T.DN (zW _ _ _ _) ?_⟩;refine⟨D,r,_,rfl,bD,by lia,r0,r64,fun l' ps' H4 hl' e' b' s4=>?_⟩;have hp4:=s4 _ _ (sD _ _ hp);refine⟨_,rfl,p,_,dx,_,rfl,hp4,T.dI,T.qD,(by show 4<1000;decide),?_⟩;rw[Ej];have npl:∀b o,H4 b=some o->(∀C d fs,o≠.ins C d fs)->b≠p:=fun b o e n z=>by rw[z,hp4]at e;exact n _ _ _ (cN e).symm
   refine q l' ps' _ ?_ ⟨ak,⟨by rw[aB (npl _ _ b'.l (by intro _ _ _ z;cases z))];exact b'.l,fun z m=>by rw[aB (npl _ _ (b'.t z m) (by intro _ _ _ z;cases z))];exact b'.t z m⟩⟩ (fun b o e n=>by rw[aB n];exact s4 _ _ (sD _ _ e)) (sD.free hl');rw[e'];unfold lW bx;rw[List.filter_map];rfl
  ·exact fun σ H R R' hr h=>mV (jG (pq (bL 0) (vM _)) (bL 1)) σ H R R' hr h
  ·exact bL 0
noncomputable def ao8(A:Ad):Sp:=fun vs H Q _=>∃(p dx l:Addr)(r k c v:Int)(ps:List Bp),vs=[.ref p,.int v]/\Wn A H p dx l r k c ps/\ps.length<=400/\0<=r/\r<=64 /\
 ∀(l':Addr)(ps':List Bp)(H':Hp),bx ps'=lW r (c+1-k) (bx ps++[⟨c+1,c+1,v⟩])->Wn A H' p dx l' r k (c+1) ps'->But p H H'->H l'=none->Q .non H'
theorem ok'12(T:Tx K mg A):bZ P w K mg base CX0 5 A.Zf A.vQ Q20 (ao8 A):=by
 k_dat (T.F'12.ok,Oi) "a"
 ·obtain⟨p,dx,l,r,k,c,v,ps,rfl,_⟩:=h;rfl
 ·obtain ⟨p,dx,l,r,k,c,v,ps,rfl,hw,h400,r0,r64,q⟩:=h;refine ⟨_,(ao (aQ (pv 0) (aH bM (pf 0) aA) rfl)
   (aC (aZ (eV (pv 0) T.dI T.oM (ajR T) tb_g% T.b'11 .nil aL (aj (aH vG (pf 0) (dG (aj (jL (aj (pf 0) (aj (pf 0) (aj (pv 1) aq)))) aq))) aq))))),?_⟩
  refine⟨_,rfl,rdF hw.o T.dI T.jM (lU _ _ _ _) ⟨_,_,rfl,rfl,_,rfl,p,_,dx,_,rfl,hw.o,T.dI,T.jM,(by show 4<1000;decide),?_⟩⟩;rw[pD];have b1:But p H (upd H p (.ins A.gY dx (wf (.int r) (.int k) (.int (c+1)) (.ref l)))):=But.upd;have w1:(upd H p (.ins A.gY dx (wf (.int r) (.int k) (.int (c+1)) (.ref l)))) p=some (.ins A.gY dx (wf (.int r) (.int k) (.int (c+1)) (.ref l))):=ak;have x1:=hw.b.but b1 hw.o;generalize upd H p (.ins A.gY dx (wf (.int r) (.int k) (.int (c+1)) (.ref l)))=H1 at b1 w1 x1 ⊢;refine⟨_,rfl,p,dx,_,rfl,w1,Wf _ _ _ _ tb_g% tb_g% tb_g% tb_g%,?_⟩;refine⟨_,rfl,rdF w1 T.dI T.qD (uU _ _ _ _) ?_⟩;refine⟨_,rfl,rdF w1 T.dI T.jM (lU _ _ _ _) ⟨_,rfl,rdF w1 T.dI T.jM (lU _ _ _ _) ⟨_,rfl,(by show 3<=sizeLine;decide),fun t ht=>⟨(by show 1<=sizeLine;decide),fun l1 hl1=>?_⟩⟩⟩⟩;have s2:Same H1 (upd H1 t (bt ⟨c+1,c+1,v⟩)):=Same.new ht;have t2:(upd H1 t (bt ⟨c+1,c+1,v⟩)) t=some (bt ⟨c+1,c+1,v⟩):=ak;show rCat _ _ (upd (upd H1 t (bt ⟨c+1,c+1,v⟩)) l1 (.lst [.ref t])) _;have hl1':(upd H1 t (bt ⟨c+1,c+1,v⟩)) l1=none:=hl1;generalize upd H1 t (bt ⟨c+1,c+1,v⟩)=H2 at s2 t2 hl1' ⊢;have s3:Same H2 (upd H2 l1 (.lst [.ref t])):=Same.new hl1';have t3:(upd H2 l1 (.lst [.ref t])) l1=some (.lst [.ref t]):=ak;generalize upd H2 l1 (.lst [.ref t])=H3 at s3 t3 ⊢;refine⟨l,l1,_,_,rfl,rfl,s3 _ _ (s2 _ _ x1.l),t3,qP (bI (by rw[aV];show ps.length+1<=1000;lia)),fun l2 hl2=>?_⟩;have s4:Same H3 (upd H3 l2 (.lst ((ps.map fun p=>V.ref p.1)++[.ref t]))):=Same.new hl2;have s14:Same H1 (upd H3 l2 (.lst ((ps.map fun p=>V.ref p.1)++[.ref t]))):=s2.trans (s3.trans s4);have x4:Bxs (upd H3 l2 (.lst ((ps.map fun p=>V.ref p.1)++[.ref t]))) l2 (ps++[(t,⟨c+1,c+1,v⟩)]):=by
   refine⟨by rw[ak,cM];rfl,fun z m=>?_⟩;rcases dY.mp m with m|m
   ·exact s14 _ _ (x1.t z m)
   ·rw[cZ.mp m];exact s4 _ _ (s3 _ _ t2)
  generalize upd H3 l2 (.lst ((ps.map fun p=>V.ref p.1)++[.ref t]))=H4 at s4 s14 x4 ⊢;refine⟨p,dx,l2,l,r,k,c+1,_,rfl,s14 _ _ w1,x4,by rw[fj];show ps.length+1<=500;lia,r0,r64,fun l' ps' H5 e' w5 b5 n5=>?_⟩;have bb:But p H H5:=fun b o e n=>b5 b o (s14 _ _ (b1 b o e n)) n;refine q l' ps' H5 (by rw[e'];unfold bx;rw[cM];rfl) w5 bb ?_;exact gh b1 (s14.free n5) (fun z=>by rw[z,s14 _ _ w1]at n5;cases n5)
noncomputable def alA(A:Ad):Sp:=fun vs H Q _=>∃(p dx l:Addr)(r k c v:Int)(ps:List Bp),vs=[.ref p,.int v]/\Wn A H p dx l r k c ps/\ps.length<=400/\0<=r/\r<=64 /\
 ∀(l':Addr)(ps':List Bp)(H':Hp),bx ps'=lW r (c+v-k) (bx ps)->Wn A H' p dx l' r k (c+v) ps'->But p H H'->H l'=none->Q .non H'
theorem ok'13(T:Tx K mg A):bZ P w K mg base CX0 5 A.Zg A.tH Q21 (alA A):=by
 k_dat (T.F'13.ok,Nf) "a"
 ·obtain⟨p,dx,l,r,k,c,v,ps,rfl,_⟩:=h;rfl
 ·obtain ⟨p,dx,l,r,k,c,v,ps,rfl,hw,h400,r0,r64,q⟩:=h;refine ⟨_,(ao (aQ (pv 0) (aH bM (pf 0) (pv 1)) rfl)
   (aC (aZ (eV (pv 0) T.dI T.oM (ajR T) tb_g% T.b'11 .nil aL (aj (pf 0) aq))))),?_⟩
  refine⟨_,rfl,rdF hw.o T.dI T.jM (lU _ _ _ _) ⟨_,rfl,_,_,rfl,rfl,_,rfl,p,_,dx,_,rfl,hw.o,T.dI,T.jM,(by show 4<1000;decide),?_⟩⟩;rw[pD];have b1:But p H (upd H p (.ins A.gY dx (wf (.int r) (.int k) (.int (c+v)) (.ref l)))):=But.upd;have w1:(upd H p (.ins A.gY dx (wf (.int r) (.int k) (.int (c+v)) (.ref l)))) p=some (.ins A.gY dx (wf (.int r) (.int k) (.int (c+v)) (.ref l))):=ak;have x1:=hw.b.but b1 hw.o;generalize upd H p (.ins A.gY dx (wf (.int r) (.int k) (.int (c+v)) (.ref l)))=H1 at b1 w1 x1 ⊢;refine⟨_,rfl,p,dx,_,rfl,w1,Wf _ _ _ _ tb_g% tb_g% tb_g% tb_g%,?_⟩;refine⟨_,rfl,rdF w1 T.dI T.qD (uU _ _ _ _) ?_⟩;refine⟨p,dx,l,l,r,k,c+v,ps,rfl,w1,x1,by lia,r0,r64,fun l' ps' H5 e' w5 b5 n5=>?_⟩;exact q l' ps' H5 e' w5 (fun b o e n=>b5 b o (b1 b o e n) n) (gh b1 n5 (fun z=>by rw[z,w1]at n5;cases n5))
open MK
noncomputable def ajS:Sp:=fun vs H Q _=>∃n:Int,vs=[.int n]/\Q (.int (n*770093176312745717 % 1152921504606846976)) H
theorem ok'14(T:Tx K mg A):bZ P w K mg base CX0 1 A.ab0 A.V3 Q12 ajS:=by
 k_dat (T.F'14.ok,adU) "a"
 ·obtain⟨n,rfl,_⟩:=h;rfl
 ·obtain⟨n,rfl,q⟩:=h;obtain⟨_,Nk,Nm⟩:=T.aaA;obtain⟨_,ajT,ajU⟩:=T.ajL;refine⟨_,(aC (aW (aH eU (aH gU (pv 0) (jt (v:=.int 770093176312745717) rfl ajT ajU)) (jt (v:=.int 1152921504606846976) rfl Nk Nm)))),?_⟩;exact⟨_,rfl,_,_,rfl,rfl,iR (by decide) (by decide),_,_,rfl,rfl,(by show(0:Int)<1152921504606846976;decide),q⟩
noncomputable def Ck(r:Int)(h:Nat):Prop:=(r=0/\h=60)\/N5 r h
theorem Ck.uniq{r:Int}{k:Nat}(a:Ck r h)(b:Ck r k):h=k:=by
 rcases a with⟨a,rfl⟩|a
 ·rcases b with⟨_,rfl⟩|b
  ·rfl
  ·exact absurd a b.ne
 ·rcases b with⟨b,rfl⟩|b
  ·exact absurd b a.ne
  ·exact a.uniq b
noncomputable def ao9:Sp:=fun vs H Q _=>∃n:Int,vs=[.int n]/\∀h:Nat,Ck (n*770093176312745717 % 1152921504606846976) h->Q (.int h) H
noncomputable def restOf(σ:St)(_:Hp):Nat:=match σ with
 |[_,some (.int x),_]=>x.toNat
 |_=>0
theorem ajV(T:Tx K mg A):bZ P w K mg base CX0 2 A.ab1 A.ajD Q12 ao9:=by
 k_dat (T.F'15.ok,DW) "a"
 ·obtain⟨n,rfl,_⟩:=h;rfl
 ·obtain ⟨n,rfl,q⟩:=h;obtain ⟨_,IW,Ja⟩:=T.Ip;refine ⟨_,(ao (psS 1 DW.nd (aD (ok'14 T) tb_g% T.F'14 aL (aj (pv 0) aq)))
   (ao (cU (aN iI (pv 1) aA (aM _)) (aC (aW (jt (v:=.int 60) rfl IW Ja))) bJ)
   (ao (psS 2 DW.nd aA)
   (ao (uo jK (aN iI (aH eU (pv 1) aA) aA (aM _)) (ao (psS 1 DW.nd (aH gZ (pv 1) aA))
   (aC (psS 2 DW.nd (aH bM (pv 2) aA)))))
   (aC (aW (pv 2))))))),?_⟩
  refine⟨_,rfl,n,rfl,?_⟩;have z0:=yp (n*770093176312745717) (show(1152921504606846976:Int)≠0 by decide);have z1:=yj (n*770093176312745717) (show(0:Int)<1152921504606846976 by decide);generalize n*770093176312745717 % 1152921504606846976=r at q z0 z1;refine⟨_,rfl,rfl,_,rfl,fO (fun h=>?_) (fun h=>?_)⟩
  ·have e:V.int r=V.int 0:=of_decide_eq_true h;exact q 60 (.inl ⟨V.int.inj e,rfl⟩)
  ·have ne:r≠0:=fun z=>h (decide_eq_true (congrArg V.int z));refine ux (fun σ H'=>∃(x:Int)(i:Nat),σ=[some (.int n),some (.int x),some (.int (i:Int))]/\To r x i/\H'=H) restOf ⟨r,0,rfl,⟨by simp,ne⟩,rfl⟩ ?_
    (by rintro σ H Q Q' hq ⟨v,e,i,j,e1,e2,h,sc,k,e3,q⟩;exact⟨v,e,i,j,e1,e2,h,sc,k,e3,hq _ _ q⟩)
   rintro σ H' ⟨x,i,rfl,ht,rfl⟩;refine⟨_,rfl,_,_,rfl,rfl,(by show(0:Int)<2;decide),rfl,_,rfl,fO (fun h=>?_) (fun h=>?_)⟩
   ·have e:x % 2=0:=V.int.inj (of_decide_eq_true h);have hx:=ht.lt tb_g% z1;refine⟨_,rfl,_,_,rfl,rfl,⟨by decide,by decide⟩,_,rfl,_,_,rfl,rfl,⟨x / 2,i+1,?_,ht.step e,rfl⟩,?_⟩
    ·rw[show((i+1:Nat):Int)=(i:Int)+1 by lia];rfl
    ·show(x / 2).toNat<x.toNat;lia
   ·have e:¬ x % 2=0:=fun z=>h (decide_eq_true (congrArg V.int z));exact⟨_,rfl,q i (.inr (ht.stop e))⟩
noncomputable def df(aG cj eX gM:V):List (Str × V):=[("room",aG),("arrivals",cj),("level",eX),("kept",gM)]
theorem v8(aG cj eX gM:V):(df aG cj eX gM).lookup ("room" : Str)=some aG:=by rfl
theorem rQ(aG cj eX gM:V):(df aG cj eX gM).lookup ("arrivals" : Str)=some cj:=by rfl
theorem lX(aG cj eX gM:V):(df aG cj eX gM).lookup ("level" : Str)=some eX:=by rfl
theorem rR(aG cj eX gM:V):(df aG cj eX gM).lookup ("kept" : Str)=some gM:=by rfl
theorem apa(aG cj eX gM:V):cF "kept" gM (cF "level" eX (cF "arrivals" cj (cF "room" aG [])))=df aG cj eX gM:=by
 unfold df
 walk_at "rec"
theorem oN(aG cj eX gM y:V):cF "arrivals" y (df aG cj eX gM)=df aG y eX gM:=by
 unfold df
 walk_at "rec"
theorem v9(aG cj eX gM y:V):cF "level" y (df aG cj eX gM)=df aG cj y gM:=by
 unfold df
 walk_at "rec"
theorem Ib(aG cj eX gM y:V):cF "kept" y (df aG cj eX gM)=df aG cj eX y:=by
 unfold df
 walk_at "rec"
theorem ajW(aG cj eX gM:V)(Cj:¬ m = "room")(aaE:¬ m = "arrivals")(alB:¬ m = "level")(apb:¬ m = "kept"):(df aG cj eX gM).lookup m=none:=by
 unfold df;rw[cW Cj,cW aaE,cW alB,cW apb];rfl
noncomputable def alC(A:Ad):Sp:=fun vs H Q _=>∃(p dx:Addr)(r:Int),vs=[.ref p,.int r]/\H p=some (.ins A.gR dx []) /\
 ∀(d:Addr)(H':Hp),H d=none->H' p=some (.ins A.gR dx (df (.int r) (.int 0) (.int 0) (.ref d)))->H' d=some (.lst [])->But p H H'->Q .non H'
theorem amo(T:Tx K mg A):bZ P w K mg base CX0 1 A.Um A.oE Q3 (alC A):=by
 k_dat (T.F'16.ok,GJ) "a"
 ·obtain⟨p,dx,r,rfl,_⟩:=h;rfl
 ·obtain ⟨p,dx,r,rfl,hp,q⟩:=h;refine ⟨_,(ao (aQ (pv 0) (pv 1) rfl)
   (ao (aQ (pv 0) aA rfl)
   (ao (aQ (pv 0) aA rfl)
   (aC (aQ (pv 0) (dG aq) rfl))))),?_⟩
  refine⟨_,rfl,_,rfl,p,_,dx,[],rfl,hp,T.dM,T.tM,(by show 0<1000;decide),?_⟩;refine⟨_,rfl,p,_,dx,_,rfl,ak,T.dM,T.tO,(by show 1<1000;decide),?_⟩;refine⟨_,rfl,p,_,dx,_,rfl,ak,T.dM,T.lO,(by show 2<1000;decide),?_⟩;rw[cQ,cQ];refine⟨(by show 0<=sizeLine;decide),fun d hd=>?_⟩;have npd:p≠d:=fun z=>by rw[<-z,ak]at hd;cases hd
  rw[aB (aX npd)]at hd;refine⟨_,rfl,p,_,dx,_,rfl,(by rw[aB npd];exact ak),T.dM,T.mW,(by show 3<1000;decide),?_⟩;refine q d _ hd (KD ak (by rw[apa])) (by rw[aB (aX npd),ak]) fun b o e hb=>?_;rw[aB hb,aB (au e hd),aB hb];exact e
theorem alD{n:Int}(m:Ck (n*770093176312745717 % 1152921504606846976) h):h<=60:=by
 rcases m with⟨_,rfl⟩|m
 ·exact bG _
 ·have:=m.lt (yp _ (by decide)) (yj _ (by decide));lia
theorem abD:∀(n:Nat)(r:Int),r.natAbs<=n->r≠0->∃h,N5 r h
 |0,r,h,h0=>absurd (show r=0 by lia) h0
 |n+1,r,h,h0=>by
  by_cases e:r % 2=1
  ·exact⟨0,r,by simp,e⟩
  ·obtain⟨k,m,e1,e2⟩:=abD n (r / 2) tb_g% tb_g%;refine⟨k+1,m,?_,e2⟩;rw[vA,<-Gd,<-e1];lia
theorem T5(k:Int):∃h,Ck (k*770093176312745717 % 1152921504606846976) h:=by
 by_cases e:k*770093176312745717 % 1152921504606846976=0
 ·exact⟨60,.inl ⟨e,rfl⟩⟩
 ·obtain⟨h,hh⟩:=abD _ _ (bG _) e;exact⟨h,.inr hh⟩
noncomputable def mkOf(k:Int):Int:=(agS (T5 k):Nat)
theorem mk_eq{k:Int}(m:Ck (k*770093176312745717 % 1152921504606846976) h):(h:Int)=mkOf k:=by
 rw[m.uniq (agR (T5 k))];rfl
theorem mk_le(k:Int):mkOf k<=60:=by
 obtain⟨h,m⟩:=T5 k;have:=alD m;rw[<-mk_eq m];lia
noncomputable def up(v:Int)(ks:List Int):List Int:=ks.filter fun z=>decide (v<=mkOf z)
theorem abE{w:Int}(h:v<=w)(ks:List Int):up w (up v ks)=up w ks:=by
 unfold up;rw[List.filter_filter];apply List.filter_congr;intro x _;by_cases e:w<=mkOf x
 ·rw[decide_eq_true e,decide_eq_true (show v<=mkOf x by lia)];rfl
 ·rw[decide_eq_false e];rfl
theorem apc(h:∀z∈ks,v<=mkOf z):up v ks=ks:=by
 unfold up;rw[aev];exact fun z hz=>decide_eq_true (h z hz)
theorem abF(h:60<v)(ks:List Int):up v ks=[]:=by
 unfold up;rw[aen];intro z _ e;have:=of_decide_eq_true e;have:=mk_le z;lia
theorem qI{z:Int} :z∈up v ks↔z∈ks/\v<=mkOf z:=by
 unfold up;rw[Ew,decide_eq_true_iff]
noncomputable def srt(ns:List Int):List Int:=ns.mergeSort fun a b=>decide (a<=b)
theorem pH:∀{xs ys:List Int},xs.Perm ys->xs.Pairwise (· <= ·)->ys.Pairwise (· <= ·)->xs=ys
 |[],ys,p,_,_=>by rw[aeO.mp p]
 |x::xs,[],p,_,_=>absurd p (by simp)
 |x::xs,y::ys,p,h1,h2=>by
  have a1:=kW.mp h1;have a2:=kW.mp h2;have e:x=y:=by
   have m1:x∈y::ys:=p.mem_iff.mp dO;have m2:y∈x::xs:=p.mem_iff.mpr dO;rcases cO.mp m1 with z|z
   ·exact z
   ·rcases cO.mp m2 with z'|z'
    ·exact z'.symm
    ·exact agu (a1.1 y z') (a2.1 x z)
  subst e;rw[pH (agX p) a1.2 a2.2]
theorem iZ(ns:List Int):(srt ns).Perm ns:=aew _ _
theorem vK(ns:List Int):(srt ns).Pairwise (· <= ·):=by
 have:=aek (le:=fun a b:Int=>decide (a<=b)) (fun a b c h1 h2=>by simp only[decide_eq_true_eq]at *; lia) (fun a b=>by simp only[afO,decide_eq_true_eq];lia) ns;exact this.imp fun h=>of_decide_eq_true h
theorem vL{ms:List Int}(p:ms.Perm ns)(h:ms.Pairwise (· <= ·)):ms=srt ns:=pH (p.trans (iZ ns).symm) h (vK ns)
theorem Qc{ms:List Int}(p:ms.Perm ns):srt ms=srt ns:=pH ((iZ ms).trans (p.trans (iZ ns).symm)) (vK _) (vK _)
theorem aaF(v:Int)(ns:List Int):up v (srt ns)=srt (up v ns):=vL ((iZ ns).filter _) ((vK ns).filter _)
theorem gP(ns:List Int):(srt ns).length=ns.length:=(iZ ns).length_eq
theorem rE{z:Int} :z∈srt ns↔z∈ns:=(iZ ns).mem_iff
noncomputable def adW:Sp:=fun vs H Q _=>∃(l:Addr)(v:Int)(ks:List Int),vs=[.ref l,.int v]/\H l=some (.lst (ks.map V.int))/\ks.length<=900 /\
 ∀(l':Addr)(H':Hp),H l'=none->H' l'=some (.lst ((up v ks).map V.int))->Same H H'->Q (.ref l') H'
theorem amq(T:Tx K mg A):bZ P w K mg base CX0 3 A.ab2 A.Mu Q22 adW:=by
 k_dat (T.F'17.ok,Wc) "a"
 ·obtain⟨l,v,ks,rfl,_⟩:=h;rfl
 ·obtain⟨l,v,ks,rfl,hl,h500,q⟩:=h;refine⟨_,(aC (aW (lJ (cl:=[("level",s.heap.objs.size+1)]) (N:=["thing","level"]) (caps:=[1]) (tt:=_) (te:=_) rfl (by with_unfolding_all rfl) tb_g% rfl tb_g% ⟨rfl,trivial⟩ (iJ (by with_unfolding_all rfl)) tb_g% rfl rfl rfl (cG.at (k:=1) (show cG _ _ _ _ 1 [1]from⟨⟨"level",_,rfl,rfl,.inl rfl,.inl rfl,rfl⟩,trivial⟩)) (gj (pv 0)) (fun _ _ _ _=>(Jg (aN Ai (aD (ajV T) (by exact hr.mono (by decide)) T.F'15 aL (aj (pv 0) aq)) (pv 1) (aM _)))) (fun _ _ _ _=>(pv 0))))),?_⟩;refine⟨_,rfl,l,rfl,⟨_,.inl (.inl hl)⟩,fun D hD=>?_⟩;refine Hw (K:=K) (a:=l) (xs:=ks.map V.int) (fun i ys H2=>ys=(up v (ks.take i)).map V.int/\H2=upd H D (.lst ys)) ⟨rfl,rfl⟩ ?_ ?_ ?_ ?_ ?_
  ·rintro i ys H2 hi ⟨rfl,rfl⟩;refine⟨.inl (.inl ((Same.new hD) _ _ hl)),ak,bI ?_⟩;have:(up v (ks.take i)).length<=(ks.take i).length:=Jv _ _;rw[iw]at this;rw[aV];lia
  ·rintro i ys H2 x hx ⟨rfl,rfl⟩;obtain⟨z,hz,rfl⟩:=int_at hx;refine⟨_,rfl,z,rfl,fun h hh=>⟨_,rfl,_,_,rfl,rfl,_,rfl,fO (fun hc=>?_) (fun hc=>?_)⟩⟩
   ·have hc:v<=(h:Int):=of_decide_eq_true hc;rw[mk_eq hh]at hc;refine⟨_,rfl,ak,?_,by rw[cQ]⟩;have e:up v (ks.take (i+1))=up v (ks.take i)++[z]:=by
     rw[qM,hz];unfold up;rw[Cp];simp[hc]
    rw[e,cM];rfl
   ·have hc:¬ v<=(h:Int):=fun y=>hc (decide_eq_true y);rw[mk_eq hh]at hc;refine⟨ak,?_,rfl⟩;have e:up v (ks.take (i+1))=up v (ks.take i):=by
     rw[qM,hz];unfold up;rw[Cp];simp[hc]
    rw[e]
  ·rintro ys H2 ⟨rfl,rfl⟩;rw[aV,m9];exact q D _ hD ak (Same.new hD)
  ·exact fun σ H R R' hr ⟨v,e,n,en,q⟩=>⟨v,e,n,en,fun h m=>by
    obtain ⟨u,eu,i,j,ei,ej,k,ek,r⟩:=q h m;exact ⟨u,eu,i,j,ei,ej,k,ek,hr _ _ r⟩⟩
  ·exact bL 0
structure Dn(A:Ad)(H:Hp)(p dx l:Addr)(r n v:Int)(ks:List Int):Prop where
 o:H p=some (.ins A.gR dx (df (.int r) (.int n) (.int v) (.ref l)))
 l:H l=some (.lst (ks.map V.int))
theorem Dn.same{r n:Int}(h:Dn A H p dx l r n v ks)(s:Same H H'):Dn A H' p dx l r n v ks:=⟨s _ _ h.o,s _ _ h.l⟩
theorem Dn.but{q C:Addr}{fs:List (Str × V)}{r n:Int}(h:Dn A H p dx l r n v ks)(s:But q H H')(hq:H q=some (.ins C e fs))(m:p≠q):Dn A H' p dx l r n v ks:=⟨s _ _ h.o m,s _ _ h.l (iY h.l hq (by intro z;cases z))⟩
noncomputable def Lvl(r v v':Int)(ks:List Int):Prop:=v<=v'/\((up v' ks).length:Int)<=r/\∀w,v<=w->w<v'->r<((up w ks).length:Int)
theorem Lvl.le{r v':Int}(h:Lvl r v v' ks)(r0:0<=r)(hv:v<=61):v'<=61:=by
 rcases(show v'<=61\/61<v' by lia)with z|z
 ·exact z
 ·have:=h.2.2 61 hv z;rw[abF (by decide)]at this;have e:(([]:List Int).length:Int)=0:=rfl;lia
noncomputable def adX(A:Ad):Sp:=fun vs H Q _=>∃(p dx l l0:Addr)(r n v:Int)(ks:List Int),vs=[.ref p,.ref l]/\H p=some (.ins A.gR dx (df (.int r) (.int n) (.int v) (.ref l0)))/\H l=some (.lst (ks.map V.int))/\ks.length<=63/\0<=r/\0<=v/\v<=61/\(∀z∈ks,v<=mkOf z) /\
 ∀(l':Addr)(v':Int)(H':Hp),Lvl r v v' ks->Dn A H' p dx l' r n v' (up v' (srt ks))->But p H H'->H l'=none->Q .non H'
noncomputable def lvV:Option V->Nat
 |some (.int v)=>(100-v).toNat
 |_=>0
noncomputable def lvO:Option HO->Nat
 |some (.ins _ _ fs)=>lvV (fs.lookup ("level" : Str))
 |_=>0
noncomputable def lvOf(σ:St)(H:Hp):Nat:=match σ with
 |some (.ref p)::_=>lvO (H p)
 |_=>0
theorem abG{C:Addr}{a b c:V}(h:H p=some (.ins C dx (df a b (.int v) c))):lvOf (some (.ref p)::σ) H=(100-v).toNat:=by
 show lvO (H p)=_;rw[h];show lvV ((df a b (.int v) c).lookup ("level" : Str))=_;rw[lX];rfl
theorem amr(T:Tx K mg A):bZ P w K mg base CX0 4 A.Zh A.lN ["self","things"] (adX A):=by
 k_dat (T.F'18.ok,kE) "a"
 ·obtain⟨p,dx,l,l0,r,n,v,ks,rfl,_⟩:=h;rfl
 ·obtain ⟨p,dx,l,l0,r,n,v,ks,rfl,hp,hl,h900,r0,v0,v61,hv,q⟩:=h;refine ⟨_,(ao (psS 2 kE.nd (aO (o8 rfl) (by rfl) T.lQ Ku (aj (pv 1) aq)))
   (ao (uo jK (aN oO (aO bA (by rfl) T.eF dZ (aj (pv 2) aq)) (pf 0) (aM _)) (ao (aQ (pv 0) (aH bM (pf 0) aA) rfl)
   (aC (psS 2 kE.nd (aD (amq T) tb_g% T.F'17 aL (aj (pv 2) (aj (pf 0) aq)))))))
   (aC (aQ (pv 0) (pv 2) rfl)))),?_⟩
  refine⟨_,rfl,.inr ⟨l,ks,rfl,.inl (.inl hl),by lia,fun l1 ms hl1 pm so=>?_⟩⟩;have s1:Same H (upd H l1 (.lst (ms.map V.int))):=Same.new hl1;have f1:(upd H l1 (.lst (ms.map V.int))) l1=some (.lst (ms.map V.int)):=ak;obtain rfl:ms=srt ks:=vL pm so;have lm:=pm.length_eq;show Zu _ _ _ [some (.ref p),some (.ref l),some (.ref l1)] (upd H l1 (.lst ((srt ks).map V.int)));generalize upd H l1 (.lst ((srt ks).map V.int))=H1 at s1 f1 ⊢;have e0:up v (srt ks)=srt ks:=apc fun z hz=>hv z (rE.mp hz);have lu:∀w,(up w (srt ks)).length=(up w ks).length:=fun w=>by rw[aaF,gP]
  refine ux (fun σ G=>∃(l2:Addr)(w:Int),σ=[some (.ref p),some (.ref l),some (.ref l2)]/\H l2=none/\G p=some (.ins A.gR dx (df (.int r) (.int n) (.int w) (.ref l0)))/\G l2=some (.lst ((up w (srt ks)).map V.int))/\But p H G/\v<=w/\(w<=61)/\∀u,v<=u->u<w->r<((up u ks).length:Int)) lvOf
   ⟨l1,v,rfl,hl1,s1 _ _ hp,by rw[e0];exact f1,s1.but p,iW _,v61,fun u a b=>by lia⟩ ?_ ?_
  ·rintro σ G ⟨l2,w,rfl,nl2,gp,gl,bt,hvw,hw,hd⟩;have lms:(up w (srt ks)).length<=ks.length:=by rw[lu];exact Jv _ _
   refine⟨_,rfl,cX (.inl (.inl gl)) ⟨_,rfl,rdF gp T.dM T.tM (v8 _ _ _ _) ⟨_,_,rfl,rfl,_,rfl,fO (fun hc=>?_) (fun hc=>?_)⟩⟩⟩
   ·have hc:r<(((up w (srt ks)).map V.int).length:Int):=of_decide_eq_true hc;rw[aV]at hc;have hw60:w<=60:=by
     rcases(show w<=60\/60<w by lia)with z|z
     ·exact z
     ·rw[abF z]at hc;have e:(([]:List Int).length:Int)=0:=rfl;lia
    refine⟨_,rfl,rdF gp T.dM T.lO (lX _ _ _ _) ⟨_,_,rfl,rfl,_,rfl,p,_,dx,_,rfl,gp,T.dM,T.lO,(by show 4<1000;decide),?_⟩⟩;rw[v9];have npl:l2≠p:=iY gl gp (by intro z;cases z);have b2:But p G (upd G p (.ins A.gR dx (df (.int r) (.int n) (.int (w+1)) (.ref l0)))):=But.upd;have o2:(upd G p (.ins A.gR dx (df (.int r) (.int n) (.int (w+1)) (.ref l0)))) p=some (.ins A.gR dx (df (.int r) (.int n) (.int (w+1)) (.ref l0))):=ak;have lw:=abG (σ:=[some (.ref l),some (.ref l2)]) gp;have gl2:=b2 _ _ gl npl;refine⟨_,rfl,_,rfl,rdF o2 T.dM T.lO (lX _ _ _ _) ⟨l2,w+1,_,rfl,gl2,by lia,fun l3 G3 nl3 gl3 s3=>?_⟩⟩;have nl3':H l3=none:=by
     refine gh (fun b o e m=>b2 b o (bt b o e m) m) nl3 fun z=>?_;rw[z,o2]at nl3;cases nl3
    rw[abE (show w<=w+1 by lia)]at gl3;refine⟨⟨l3,w+1,rfl,nl3',s3 _ _ o2,gl3,fun b o e m=>s3 _ _ (b2 b o (bt b o e m) m),by lia,by lia,fun u a b=>?_⟩,?_⟩
    ·rcases(show u<w\/u=w by lia)with z|z
     ·exact hd u a z
     ·rw[z,<-lu];exact hc
    ·rw[lw];refine mD (Ri (abG (s3 _ _ o2))) ?_;lia
   ·have hc:¬ r<(((up w (srt ks)).map V.int).length:Int):=fun z=>hc (decide_eq_true z);rw[aV]at hc;refine⟨_,rfl,_,rfl,p,_,dx,_,rfl,gp,T.dM,T.mW,(by show 4<1000;decide),?_⟩;rw[Ib];have npl:l2≠p:=iY gl gp (by intro z;cases z);refine q l2 w _ ⟨hvw,by rw[<-lu];lia,hd⟩ ⟨ak,by rw[aB npl];exact gl⟩ (fun b o e m=>by rw[aB m];exact bt b o e m) nl2
  ·exact fun σ H Q Q' hq h=>mV (jG (Ma (jf (bL 2) uG)) (yM (bL 0))) σ H Q Q' hq h
theorem ajX(k:Int)(ks:List Int):inV (.int k) (ks.map V.int)=decide (k∈ks):=by
 induction ks with
 |nil=>rfl
 |cons x r ih =>
  show(eqV (.int x) (.int k) || inV (.int k) (r.map V.int))=_;rw[ih];show((x == k) || decide (k∈r))=decide (k∈x::r);by_cases e:k=x
  ·subst e;simp
  ·have:(x == k)=false:=by simp;exact fun z=>e z.symm
   rw[this];simp[e]
theorem ajY(ks:List Int):(ks.map V.int).all uy=true:=by
 rw[Et];intro x m;obtain⟨z,_,rfl⟩:=jq.mp m;rfl
noncomputable def came(C:List Int)(k:Int):List Int:=if k∈C then C else C++[k]
theorem ajZ(C:List Int)(k:Int):C.length<=(came C k).length/\(came C k).length<=C.length+1:=by
 unfold came;split
 ·lia
 ·rw[fj];show C.length<=C.length+1/\_;exact⟨by lia,bG _⟩
theorem alE{k w:Int}:(up w C).length<=(up w (came C k)).length:=by
 unfold came;split
 ·exact bG _
 ·unfold up;rw[Cp,fj];lia
noncomputable def zH(r v:Int)(C:List Int):Prop:=0<=v/\((up v C).length:Int)<=r/\∀w,0<=w->w<v->r<((up w C).length:Int)
theorem zH.lvl{r v':Int}(h:zH r v C)(g:Lvl r v v' D)(hm:∀w,(up w C).length<=(up w D).length):zH r v' D:=by
 have:=h.1;have:=g.1;refine⟨by lia,g.2.1,fun w a b=>?_⟩;rcases(show w<v\/v<=w by lia)with z|z
 ·have:=h.2.2 w a z;have:=hm w;lia
 ·exact g.2.2 w z b
theorem zH.le{r:Int}(h:zH r v C)(r0:0<=r):v<=61:=Lvl.le (ks:=C) (v:=0) ⟨h.1,h.2.1,h.2.2⟩ r0 (by decide)
noncomputable def apd(A:Ad):Sp:=fun vs H Q _=>∃(p dx l:Addr)(r n v k:Int)(C:List Int),vs=[.ref p,.int k]/\Dn A H p dx l r n v (srt (up v C))/\zH r v C/\C.length<=800/\0<=r/\r<=60 /\
 ∀(l':Addr)(v':Int)(H':Hp),Lvl r v v' (came C k)->Dn A H' p dx l' r (n+1) v' (srt (up v' (came C k)))->But p H H'->(l'=l\/H l'=none)->Q .non H'
theorem ok'19(T:Tx K mg A):bZ P w K mg base CX0 5 A.Zi A.ql Q23 (apd A):=by
 k_dat (T.F'19.ok,Ir) "a"
 ·obtain⟨p,dx,l,r,n,v,k,C,rfl,_⟩:=h;rfl
 ·obtain⟨p,dx,l,r,n,v,k,C,rfl,hd,hL,h8,r0,r8,q⟩:=h;have v0:=hL.1;have v61:=hL.le r0;have hlen:(srt (up v C)).length<=62:=by have:=hL.2.1;rw[gP];lia
  refine ⟨_,(ao (aQ (pv 0) (aH bM (pf 0) aA) rfl)
   (aC (cU (PW.pt (pw_and (aN Ai (aD (ajV T) tb_g% T.F'15 aL (aj (pv 1) aq)) (pf 0) (aM _)) (pw_and1 (aN (aoA (aY hr)) (pv 1) (pf 0) (by with_unfolding_all rfl))))) (aC (aZ (eV (pv 0) T.dM T.rM (amr T) tb_g% T.b'18 .nil aL (aj (aH vG (pf 0) (dG (aj (pv 1) aq))) aq)))) bJ))),?_⟩
  refine⟨_,rfl,rdF hd.o T.dM T.tO (rQ _ _ _ _) ⟨_,_,rfl,rfl,_,rfl,p,_,dx,_,rfl,hd.o,T.dM,T.tO,(by show 4<1000;decide),?_⟩⟩;rw[oN];have b1:But p H (upd H p (.ins A.gR dx (df (.int r) (.int (n+1)) (.int v) (.ref l)))):=But.upd;have d1:Dn A (upd H p (.ins A.gR dx (df (.int r) (.int (n+1)) (.int v) (.ref l)))) p dx l r (n+1) v (srt (up v C)):=⟨ak,by rw[aB (iY hd.l hd.o (by intro z;cases z))];exact hd.l⟩;generalize upd H p (.ins A.gR dx (df (.int r) (.int (n+1)) (.int v) (.ref l)))=H1 at b1 d1 ⊢;refine⟨_,rfl,k,rfl,fun h hh=>⟨_,rfl,rdF d1.o T.dM T.lO (lX _ _ _ _) ⟨_,_,rfl,rfl,_,rfl,fO (fun hc=>?_) (fun hc=>?_)⟩⟩⟩
  ·have hc:v<=(h:Int):=of_decide_eq_true hc;rw[mk_eq hh]at hc;refine⟨_,rfl,_,rfl,rdF d1.o T.dM T.mW (rR _ _ _ _) (.inl ⟨l,_,rfl,.inl (.inl (.inl d1.l)),rfl,ajY _,_,rfl,?_⟩)⟩;rw[if_pos rfl,ajX];by_cases m:k∈srt (up v C)
   ·rw[decide_eq_true m];have ec:came C k=C:=by unfold came;rw[if_pos (qI.mp (rE.mp m)).1]
    rw[ec]at q;exact uz (q l v _ ⟨iW _,hL.2.1,fun w a b=>by lia⟩ d1 b1 (.inl rfl))
   ·rw[decide_eq_false m];have hk:k∉C:=fun z=>m (rE.mpr (qI.mpr ⟨z,hc⟩));have ec:came C k=C++[k]:=by unfold came;rw[if_neg hk]
    have eu:∀w,v<=w->up w (srt (up v C)++[k])=up w (srt (up v C))++up w [k]:=fun w _=>by unfold up;rw[Cp]
    refine nO ⟨_,rfl,p,dx,_,rfl,d1.o,ajW _ _ _ _ tb_g% tb_g% tb_g% tb_g%,?_⟩;refine⟨_,rfl,rdF d1.o T.dM T.mW (rR _ _ _ _) ⟨_,rfl,(by show 1<=sizeLine;decide),fun l1 hl1=>?_⟩⟩;have s2:Same H1 (upd H1 l1 (.lst [.int k])):=Same.new hl1;refine⟨l,l1,_,_,rfl,rfl,s2 _ _ d1.l,ak,qP (bI (by rw[aV];show(srt (up v C)).length+1<=1000;lia)),fun l2 hl2=>?_⟩;have s3:Same H1 (upd (upd H1 l1 (.lst [.int k])) l2 (.lst ((srt (up v C)++[k]).map V.int))):=s2.trans (Same.new hl2);have f3:(upd (upd H1 l1 (.lst [.int k])) l2 (.lst ((srt (up v C)++[k]).map V.int))) l2=some (.lst ((srt (up v C)++[k]).map V.int)):=ak;rw[show(srt (up v C)).map V.int++[V.int k]=(srt (up v C)++[k]).map V.int by rw[cM];rfl];generalize upd (upd H1 l1 (.lst [.int k])) l2 (.lst ((srt (up v C)++[k]).map V.int))=H3 at s3 f3 ⊢;have d3:=d1.same s3;have pm:(srt (up v C)++[k]).Perm (up v (C++[k])):=by
     have:up v (C++[k])=up v C++[k]:=by unfold up;rw[Cp];simp[hc]
     rw[this];exact(iZ _).append_right _
    refine⟨p,dx,l2,l,r,n+1,v,_,rfl,d3.o,f3,by rw[fj];show(srt (up v C)).length+1<=63;lia,r0,v0,v61,(fun z hz=>(qI.mp (pm.mem_iff.mp hz)).2),fun l' v' H' lv dn bt nl=>?_⟩;have el:∀w,v<=w->(up w (srt (up v C)++[k])).length=(up w (C++[k])).length:=fun w hw=>(pm.filter _).length_eq.trans (congrArg mC (abE hw _));have nl1:H1 l'=none:=s3.free nl;have nl0:H l'=none:=gh b1 nl1 fun z=>by rw[z,d1.o]at nl1;cases nl1
    refine q l' v' H' ?_ ?_ (fun b o e m'=>bt b o (s3 _ _ (b1 b o e m')) m') (.inr nl0)
    ·rw[ec];exact⟨lv.1,by rw[<-el _ lv.1];exact lv.2.1,fun w a b=>by rw[<-el _ a];exact lv.2.2 w a b⟩
    ·rw[ec];have:up v' (srt (srt (up v C)++[k]))=srt (up v' (C++[k])):=by
      rw[Qc pm,aaF,abE lv.1]
     rw[this]at dn;exact dn
  ·have hc:¬ v<=(h:Int):=fun z=>hc (decide_eq_true z);rw[mk_eq hh]at hc;have ew:∀w,v<=w->up w (came C k)=up w C:=fun w hw=>by
    unfold came;split
    ·rfl
    ·unfold up;rw[Cp];simp[show ¬ w<=mkOf k by lia]
   refine uz (q l v _ ⟨iW _,by rw[ew v (iW _)];exact hL.2.1,fun w a b=>by lia⟩ ?_ b1 (.inl rfl));rw[ew v (iW _)];exact d1
noncomputable def fl(r t l:Int)(d:Addr):List (Str × V):=[("room",.int r),("total",.int t),("lost",.int l),("counts",.ref d)]
theorem rW(r t l:Int)(d:Addr):(fl r t l d).lookup ("room" : Str)=some (.int r):=by rfl
theorem Ek(r t l:Int)(d:Addr):(fl r t l d).lookup ("total" : Str)=some (.int t):=by rfl
theorem Jl(r t l:Int)(d:Addr):(fl r t l d).lookup ("lost" : Str)=some (.int l):=by rfl
theorem Hf(r t l:Int)(d:Addr):(fl r t l d).lookup ("counts" : Str)=some (.ref d):=by rfl
theorem ne1:¬ (("room" : Str) = "total"):=by decide +kernel
theorem ne2:¬ (("room" : Str) = "lost"):=by decide +kernel
theorem ne3:¬ (("room" : Str) = "counts"):=by decide +kernel
theorem ne4:¬ (("total" : Str) = "lost"):=by decide +kernel
theorem ne5:¬ (("total" : Str) = "counts"):=by decide +kernel
theorem ne6:¬ (("lost" : Str) = "counts"):=by decide +kernel
theorem T6(f:Str)(v:V)(r:List (Str × V))(u:V):cF f v ((f,u)::r)=(f,v)::r:=by unfold cF;rw[if_pos rfl]
theorem jX{f g:Str}(h:¬ g=f)(v:V)(r:List (Str × V))(u:V):cF f v ((g,u)::r)=(g,u)::cF f v r:=by rw[cF,if_neg h]
theorem ape(r t l:Int)(d:Addr):cF "counts" (.ref d) (cF "lost" (.int l) (cF "total" (.int t) (cF "room" (.int r) [])))=fl r t l d:=by
 unfold fl;rw [show cF "room" (.int r) []=[(("room" : Str),V.int r)] from rfl,jX ne1,show cF "total" (.int t) []=[(("total" : Str),V.int t)] from rfl,jX ne2,jX ne4,
  show cF "lost" (.int l) []=[(("lost" : Str),V.int l)] from rfl,jX ne3,jX ne5,jX ne6]
 rfl
theorem T7(r t l y:Int)(d:Addr):cF "total" (.int y) (fl r t l d)=fl r y l d:=by
 unfold fl;rw[jX ne1,T6]
theorem T8(r t l y:Int)(d:Addr):cF "lost" (.int y) (fl r t l d)=fl r t y d:=by
 unfold fl;rw[jX ne2,jX ne4,T6]
theorem abH(r t l:Int)(d e:Addr):cF "counts" (.ref e) (fl r t l d)=fl r t l e:=by
 unfold fl;rw[jX ne3,jX ne5,jX ne6,T6]
theorem Jm{f:Str}{v:V}{r:List (Str × V)}(h:¬ m=f):((f,v)::r).lookup m=r.lookup m:=by
 rw[Xc];rw[beq_eq_false_iff_ne.mpr h]
theorem abI(r t l:Int)(d:Addr)(h1:¬ m = "room")(h2:¬ m = "total")(h3:¬ m = "lost")(h4:¬ m = "counts"):(fl r t l d).lookup m=none:=by
 unfold fl;rw[Jm h1,Jm h2,Jm h3,Jm h4];rfl
noncomputable def apf(A:Ad):Sp:=fun vs H Q _=>∃(p dx:Addr)(r:Int),vs=[.ref p,.int r]/\H p=some (.ins A.gB dx []) /\
 ∀(d:Addr)(H':Hp),H d=none->H' p=some (.ins A.gB dx (fl r 0 0 d))->H' d=some (.dK (emb []))->But p H H'->Q .non H'
theorem aj0(T:Tx K mg A):bZ P w K mg base CX0 1 A.Uo A.oF Q3 (apf A):=by
 k_dat (T.F'20.ok,GP) "a"
 ·obtain⟨p,dx,r,rfl,_⟩:=h;rfl
 ·obtain ⟨p,dx,r,rfl,hp,k⟩:=h;refine ⟨_,(ao (aQ (pv 0) (pv 1) rfl)
   (ao (aQ (pv 0) aA rfl)
   (ao (aQ (pv 0) aA rfl)
   (aC (aQ (pv 0) K5 rfl))))),?_⟩
  refine⟨_,rfl,_,rfl,p,_,dx,[],rfl,hp,T.fQ,T.qF,(by show 0<1000;decide),?_⟩;refine⟨_,rfl,p,_,dx,_,rfl,ak,T.fQ,T.tQ,(by show 1<1000;decide),?_⟩;refine⟨_,rfl,p,_,dx,_,rfl,ak,T.fQ,T.tR,(by show 2<1000;decide),?_⟩;rw[cQ,cQ];intro d hd;have npd:p≠d:=fun z=>by rw[<-z,ak]at hd;cases hd
  rw[aB (aX npd)]at hd;refine⟨_,rfl,p,_,dx,_,rfl,(by rw[aB npd];exact ak),T.fQ,T.yW,(by show 3<1000;decide),?_⟩;refine k d _ hd (KD ak (by rw[ape])) (by rw[aB (aX npd),ak];rfl) fun b o e hb=>?_;rw[aB hb,aB (au e hd),aB hb];exact e
noncomputable def Qd(room:Nat)(c:Tab)(cut:Int):Prop:=if c.length<=room then cut=0 else IsCut room c cut
theorem Qd.apg{cut:Int}(h:Qd room c cut)(hp:∀p∈c,1<=p.2):ou room c (dD c cut) cut:=by
 unfold Qd at h;unfold ou;by_cases e:c.length<=room
 ·rw[if_pos e]at h ⊢; exact⟨h,by rw[h,aiF hp]⟩
 ·rw[if_neg e]at h ⊢; exact⟨h,rfl⟩
noncomputable def spCut:Sp:=fun vs H Q _=>∃(g:Addr)(c:Tab)(room:Nat),vs=[.ref g,.int room]/\H g=some (.dK (emb c))/\c.length<64/\∀(cut:Int)(H':Hp),Qd room c cut->Same H H'->Q (.int cut) H'
theorem ok'21(T:Tx K mg A):bZ P w K mg base CX0 1 A.ab3 A.V4 ["counts","room"] spCut:=by
 k_dat (T.F'21.ok,PN) "a"
 ·obtain⟨g,c,room,rfl,_⟩:=h;rfl
 ·obtain ⟨g,c,room,rfl,hg,h64,q⟩:=h;refine ⟨_,(ao (cU (aN rC (aO bA (by rfl) T.eF dZ (aj (pv 0) aq)) (pv 1) (aM _)) (aC (aW aA)) bJ)
   (ao (psS 2 PN.nd (adi T.lQ (pv 0) ⟨rfl,rfl⟩ rfl))
   (aC (aW (bC (ixG (aY hr)) (pv 2) (pv 1) (fun _ _=>rfl)))))),?_⟩
  refine⟨_,rfl,aoE (.inl hg) ⟨_,rfl,_,_,rfl,rfl,_,rfl,fO (fun h=>?_) (fun h=>?_)⟩⟩
  ·have h':((emb c).length:Int)<=room:=of_decide_eq_true h;rw[rD]at h';exact q 0 H (by unfold Qd;rw[if_pos tb_g%]) (Same.refl H)
  ·have h':¬ ((emb c).length:Int)<=room:=fun z=>h (decide_eq_true z);rw[rD]at h';refine⟨_,rfl,g,emb c,vals c,rfl,.inl hg,aiH c,(by unfold vals;rw[aV];exact h64),fun l d hl hp hs=>?_⟩;have hlen:d.length=c.length:=by rw[hp.length_eq];unfold vals;rw[aV]
   have e:d[room]? = some d[room]:=gA tb_g%;refine⟨_,rfl,_,rfl,cD (.inl (.inl ak)) (v:=.int d[room]) (oY (by rw[gQ,e];rfl)) (q _ _ ?_ (Same.new hl))⟩;unfold Qd;rw[if_neg tb_g%];exact⟨d,hp,hs,e⟩
noncomputable def adY:Sp:=fun vs H Q _=>∃(g:Addr)(c:Tab)(cut:Int),vs=[.ref g,.int cut]/\H g=some (.dK (emb c))/\(keys c).Nodup/\c.length<=1000 /\
 ∀(d:Addr)(H':Hp),H d=none->H' d=some (.dK (emb (dD c cut)))->Same H H'->Q (.ref d) H'
theorem Wh(c:Tab)(p:Int × Int)(cut:Int):dD (c++[p]) cut=if cut<p.2 then dD c cut++[(p.1,p.2-cut)]else dD c cut:=by
 unfold dD;rw[Cp,cM];by_cases h:cut<p.2
 ·rw[if_pos h];simp[h]
 ·rw[if_neg h];simp[h]
theorem take_snoc{p:Int × Int}(h:c[i]? = some p):c.take (i+1)=c.take i++[p]:=by
 rw[qM,h];rfl
theorem alF{p:Int × Int}{cut:Int}(hn:(keys c).Nodup)(h:c[i]? = some p)(hc:cut<p.2):put (dD (c.take i) cut) p.1 (p.2-cut)=dD (c.take (i+1)) cut:=by
 rw[take_snoc h,Wh,if_pos hc];refine Dg fun z=>?_;have z1:=S6 z;have e:keys (c.take (i+1))=keys (c.take i)++[p.1]:=by rw[take_snoc h];unfold keys;rw[cM];rfl
 have hn':(keys (c.take (i+1))).Nodup:=agW (ag0 _ (Xa _ _)) hn;rw[e,Ql]at hn';exact hn'.2.2 p.1 z1 p.1 (by simp) rfl
theorem ok'22(T:Tx K mg A):bZ P w K mg base CX0 1 A.ab4 A.Px ["counts","cut"] adY:=by
 k_dat (T.F'22.ok,vW) "a"
 ·obtain⟨g,c,cut,rfl,_⟩:=h;rfl
 ·obtain ⟨g,c,cut,rfl,hg,hn,hl,q⟩:=h;refine ⟨_,(ao (psS 2 vW.nd K5)
   (ao (abd jK rfl (pv 0) ⟨rfl,rfl⟩ (yC rfl (fK (pgN 3 vW.nd) (fK (pgN 4 vW.nd) rB))) (aC (cU (aN oO (pv 4) (pv 1) (aM _)) (aC (yE (aH gk (pv 4) (pv 1)) (yD (pv 2) (pv 3) (setG (aY hr))))) bJ)))
   (aC (aW (pv 2))))),?_⟩
  intro d hd;have ngd:g≠d:=au hg hd;have hg1:(upd H d (.dK [])) g=some (.dK (emb c)):=by rw[aB ngd];exact hg
  refine ⟨_,rfl,g,emb c,rfl,hg1,fun o wm=>O6 (fun i σ H2=>∃ (x y:Option V),σ=[some (.ref g),some (.int cut),some (.ref d),x,y]/\H2 g=some (.frz o (.dK (emb c)))/\H2 d=some (.dK (emb (dD (c.take i) cut)))/\(∀ b u,H b=some u->b≠g->H2 b=some u))
   ⟨none,none,rfl,ak,by rw [aB (aX ngd),ak];rfl,fun b u e hb=>by rw [aB hb,aB (au e hd)];exact e⟩ (fun i σ H2 ⟨_,_,_,h,_⟩=>h) ?_ ?_⟩
  ·rintro i p t σ H2 hi ⟨x,y,rfl,f1,f2,f3⟩ ht;obtain⟨pr,hpr,rfl⟩:=aiI hi;have ngt:g≠t:=au f1 ht;have ndt:d≠t:=au f2 ht;have f1':(upd H2 t (.tup [.int pr.1,.int pr.2])) g=some (.frz o (.dK (emb c))):=by rw[aB ngt];exact f1
   have f2':(upd H2 t (.tup [.int pr.1,.int pr.2])) d=some (.dK (emb (dD (c.take i) cut))):=by rw[aB ndt];exact f2
   have f3':∀b u,H b=some u->b≠g->(upd H2 t (.tup [.int pr.1,.int pr.2])) b=some u:=fun b u e hb=>by
    have:=f3 b u e hb;rw[aB (au this ht)];exact this
   refine⟨t,_,rfl,.inl (.inl ak),rfl,_,_,rfl,_,_,rfl,rfl,?_⟩;refine⟨_,rfl,_,rfl,_,_,rfl,rfl,_,rfl,fO (fun h=>?_) (fun h=>?_)⟩
   ·have hc:cut<pr.2:=of_decide_eq_true h;have hz:(emb (dD (c.take i) cut)).length<sizeLine:=by
     rw[rD];have:=akJ (c.take i) cut;rw[iw]at this;exact bI tb_g%
    refine⟨_,rfl,_,rfl,_,_,rfl,rfl,_,rfl,_,rfl,Z0 f2' hz ?_⟩;rw[Dj,alF hn hpr hc];refine⟨_,_,rfl,by rw[aB ngd];exact f1',ak,fun b u e hb=>?_⟩;have nb:b≠d:=au e hd;rw[aB nb];exact f3' b u e hb
   ·have hc:¬ cut<pr.2:=fun z=>h (decide_eq_true z);refine⟨_,_,rfl,f1',?_,f3'⟩;rw[take_snoc hpr,Wh,if_neg hc];exact f2'
  ·rintro σ H2 ⟨x,y,rfl,f1,f2,f3⟩;rw[rD,m9]at f2;refine⟨g,emb c,o,wm,f1,_,rfl,q d _ hd ?_ fun b u e=>?_⟩
   ·rw[aB (aX ngd)];exact f2
   ·by_cases hb:b=g
    ·subst hb;rw[ak,<-e,hg]
    ·rw[aB hb];exact f3 b u e hb
noncomputable def spFit(A:Ad):Sp:=fun vs H Q _=>∃(p dx g d:Addr)(room:Nat)(t l:Int)(c:Tab),vs=[.ref p,.ref g]/\H p=some (.ins A.gB dx (fl room t l d))/\H g=some (.dK (emb c))/\(keys c).Nodup/\(∀p∈c,1<=p.2)/\c.length<64 /\
 ∀(d':Addr)(c':Tab)(cut:Int)(H':Hp),H d'=none->ou room c c' cut->H' p=some (.ins A.gB dx (fl room t (l+cut) d'))->H' d'=some (.dK (emb c'))->But p H H'->Q .non H'
theorem ams(T:Tx K mg A):bZ P w K mg base CX0 2 A.Zj A.qm ["self","grown"] (spFit A):=by
 k_dat (T.F'23.ok,wQ) "a"
 ·obtain⟨p,dx,g,d,room,t,l,c,rfl,_⟩:=h;rfl
 ·obtain ⟨p,dx,g,d,room,t,l,c,rfl,hp,hg,hn,pos,h64,q⟩:=h;refine ⟨_,(ao (psS 2 wQ.nd (aD (ok'21 T) tb_g% T.F'21 aL (aj (pv 1) (aj (pf 0) aq))))
   (ao (aQ (pv 0) (aD (ok'22 T) tb_g% T.F'22 aL (aj (pv 1) (aj (pv 2) aq))) rfl)
   (aC (aQ (pv 0) (aH bM (pf 0) (pv 2)) rfl)))),?_⟩
  refine⟨_,rfl,_,rfl,rdF hp T.fQ T.qF (rW _ _ _ _) ⟨g,c,room,rfl,hg,h64,fun cut H1 hc s1=>?_⟩⟩;refine⟨_,rfl,_,rfl,g,c,cut,rfl,s1 _ _ hg,hn,by lia,fun d' H2 hd' e2 s2=>?_⟩;have hp2:=s2 _ _ (s1 _ _ hp);have npd:p≠d':=au (s1 _ _ hp) hd';refine⟨_,rfl,p,_,dx,_,rfl,hp2,T.fQ,T.yW,(by show 4<1000;decide),?_⟩;rw[abH];refine⟨_,rfl,rdF ak T.fQ T.tR (Jl _ _ _ _) ⟨_,rfl,_,_,rfl,rfl,_,rfl,p,_,dx,_,rfl,ak,T.fQ,T.tR,(by show 4<1000;decide),?_⟩⟩;rw[T8,cQ];refine q d' (dD c cut) cut _ (s1.free hd') (hc.apg pos) ak (by rw[aB (aX npd)];exact e2) fun b o e hb=>?_;rw[aB hb];exact s2 _ _ (s1 _ _ e)
noncomputable def spAdd(A:Ad):Sp:=fun vs H Q _=>∃(p dx d:Addr)(room:Nat)(t l k v:Int)(c:Tab),vs=[.ref p,.int k,.int v]/\H p=some (.ins A.gB dx (fl room t l d))/\H d=some (.dK (emb c))/\(keys c).Nodup/\(∀p∈c,1<=p.2)/\1<=v/\c.length<63 /\
 ∀(d':Addr)(c':Tab)(cut:Int)(H':Hp),H d'=none->ou room (put c k (low c k+v)) c' cut->H' p=some (.ins A.gB dx (fl room (t+v) (l+cut) d'))->H' d'=some (.dK (emb c'))->But p H H'->Q .non H'
theorem amt(T:Tx K mg A):bZ P w K mg base CX0 3 A.Zk A.qp Q2 (spAdd A):=by
 k_dat (T.F'24.ok,wR) "a"
 ·obtain⟨p,dx,d,room,t,l,k,v,c,rfl,_⟩:=h;rfl
 ·obtain ⟨p,dx,d,room,t,l,k,v,c,rfl,hp,hd,hn,pos,hv,h63,q⟩:=h;have npd:p≠d:=iY hp hd (by intro z;cases z);refine ⟨_,(ao (aQ (pv 0) (aH bM (pf 0) (pv 2)) rfl)
   (ao (psS 3 wR.nd (lg K7 (by rfl) T.aaz agc (aj (pf 0) aq)))
   (ao (yE (aH bM (K6 (aY hr) (pv 3) (pv 1) aA ⟨rfl,rfl,rfl,rfl⟩) (pv 2)) (yD (pv 3) (pv 1) (setG (aY hr))))
   (aC (aZ (eV (pv 0) T.fQ T.zq (ams T) tb_g% T.b'23 .nil aL (aj (pv 3) aq))))))),?_⟩
  refine⟨_,rfl,rdF hp T.fQ T.tQ (Ek _ _ _ _) ⟨_,rfl,_,_,rfl,rfl,_,rfl,p,_,dx,_,rfl,hp,T.fQ,T.tQ,(by show 4<1000;decide),?_⟩⟩;rw[T7];have hd1:(upd H p (.ins A.gB dx (fl room (t+v) l d))) d=some (.dK (emb c)):=by rw[aB (aX npd)];exact hd
  refine⟨_,rfl,rdF ak T.fQ T.yW (Hf _ _ _ _) ⟨d,emb c,rfl,.inl hd1,fun g hg=>?_⟩⟩;have ngp:p≠g:=fun z=>by rw[<-z,ak]at hg;cases hg
  have hg0:H g=none:=by rw[aB (aX ngp)]at hg;exact hg
  refine⟨_,rfl,g,rfl,.inl ⟨emb c,.inl ak⟩,_,rfl,_,al7 (.inl ak),?_⟩;rw[S8];refine⟨_,rfl,_,_,rfl,rfl,_,rfl,_,rfl,Z0 ak (by rw[rD];exact bI tb_g%) ?_⟩;rw[Dj,cQ];have hp2:∀o,(upd (upd H p (.ins A.gB dx (fl room (t+v) l d))) g o) p=some (.ins A.gB dx (fl room (t+v) l d)):=fun o=>by rw[aB ngp];exact ak
  refine⟨_,rfl,p,dx,_,rfl,hp2 _,abI _ _ _ _ tb_g% tb_g% tb_g% tb_g%,_,rfl,p,dx,g,d,room,t+v,l,_,rfl,hp2 _,ak,Lb hn _ _,S5 pos (by have:=vH pos k;lia),?_,fun d' c' cut H' e1 e2 e3 e4 e5=>?_⟩
  ·have:=SQ c k (low c k+v);lia
  ·have ngd:g≠d':=fun z=>by rw[<-z,ak]at e1;cases e1
   have npd':p≠d':=fun z=>by rw[<-z,hp2]at e1;cases e1
   rw[aB (aX ngd),aB (aX npd')]at e1;refine q d' c' cut H' e1 e2 e3 e4 fun b o e hb=>e5 b o ?_ hb;rw[aB (au e hg0),aB hb];exact e
noncomputable def bf(bH kO:V):List (Str × V):=[("span",bH),("sums",kO)]
theorem wg(bH kO:V):(bf bH kO).lookup ("span" : Str)=some bH:=by rfl
theorem El(bH kO:V):(bf bH kO).lookup ("sums" : Str)=some kO:=by rfl
theorem aph(bH kO:V):cF "sums" kO (cF "span" bH [])=bf bH kO:=by
 unfold bf
 walk_at "rec"
theorem rY(bH kO y:V):cF "sums" y (bf bH kO)=bf bH y:=by
 unfold bf
 walk_at "rec"
theorem bfN{bH kO:V}(h:m∉[("span" : Str),("sums" : Str)]):(bf bH kO).lookup m=none:=by
 simp only[cO,iM,or_false,not_or]at h;obtain⟨Np,aaG⟩:=h;unfold bf;rw[cW Np,cW aaG];rfl
theorem amu(bH kO:V)(Np:¬ m = "span")(aaG:¬ m = "sums"):(bf bH kO).lookup m=none:=by
 unfold bf;rw[cW Np,cW aaG];rfl
structure Q4 where
 a:Int
 b:Int
 c:Int
 d:Int
noncomputable def L4(q:Q4):List Int:=[q.a,q.b,q.c,q.d]
noncomputable def addQ(q p:Q4):Q4:=⟨q.a+p.a,q.b+p.b,q.c+p.c,q.d+p.d⟩
noncomputable def pwQ(t w:Int):Q4:=⟨w,w*t,w*t*t,w*t*t*t⟩
noncomputable def eY:Q4:=⟨0,0,0,0⟩
noncomputable def aj1(t w:Int):Nat->Int
 |0=>w
 |n+1=>aj1 t w n*t
structure Bn(A:Ad)(H:Hp)(p dx l:Addr)(s:Int)(q:Q4):Prop where
 o:H p=some (.ins A.sY dx (bf (.int s) (.ref l)))
 l:H l=some (.lst ((L4 q).map V.int))
theorem Bn.same{s:Int}{q:Q4}(h:Bn A H p dx l s q)(z:Same H H'):Bn A H' p dx l s q:=⟨z _ _ h.o,z _ _ h.l⟩
theorem Bn.but{x C:Addr}{fs:List (Str × V)}{s:Int}{q:Q4}(h:Bn A H p dx l s q)(z:But x H H')(hq:H x=some (.ins C e fs))(m:p≠x):Bn A H' p dx l s q:=⟨z _ _ h.o m,z _ _ h.l (iY h.l hq (by intro z;cases z))⟩
noncomputable def adZ:Sp:=fun vs H Q _=>∃(l:Addr)(t w:Int)(q:Q4),vs=[.ref l,.int t,.int w]/\H l=some (.lst ((L4 q).map V.int))/\0<=t/\t<2 ^ 64/\∀(l':Addr)(H':Hp),H l'=none->H' l'=some (.lst ((L4 (addQ q (pwQ t w))).map V.int))->Same H H'->Q (.ref l') H'
theorem fM{q:Q4}{x:V}(h:((L4 q).map V.int)[i]? = some x):(i=0/\x=.int q.a)\/(i=1/\x=.int q.b)\/(i=2/\x=.int q.c)\/(i=3/\x=.int q.d):=by
 match i,h with
 |0,h=>exact .inl ⟨rfl,(cN h).symm⟩
 |1,h=>exact .inr (.inl ⟨rfl,(cN h).symm⟩)
 |2,h=>exact .inr (.inr (.inl ⟨rfl,(cN h).symm⟩))
 |3,h=>exact .inr (.inr (.inr ⟨rfl,(cN h).symm⟩))
 |n+4,h=>simp[L4]at h
theorem aj2(T:Tx K mg A):bZ P w K mg base CX0 1 A.ab5 A.Mv Q33 adZ:=by
 k_dat (T.F'25.ok,nQ) "a"
 ·obtain⟨l,t,w,q,rfl,_⟩:=h;rfl
 ·obtain ⟨l,t,w,q,rfl,hl,t0,t1,k⟩:=h;refine ⟨_,(ao (psS 3 nQ.nd (dG aq))
   (ao (psS 4 nQ.nd (pv 2))
   (ao (j9 jK rfl (gj (pv 0)) (pgN 5 nQ.nd) (ao (aZ (lG qT yd yg gF (pv 3) (aj (aH bM (pv 5) (pv 4)) aq)))
   (aC (psS 4 nQ.nd (aH gU (pv 4) (pv 1))))))
   (aC (aW (pv 3)))))),?_⟩
  refine⟨(by show 0<=sizeLine;decide),fun D hD=>?_⟩;refine⟨_,rfl,?_⟩;have sD:Same H (upd H D (.lst [])):=Same.new hD;refine⟨_,rfl,l,rfl,⟨_,.inl (.inl (sD _ _ hl))⟩,ur (K:=K) (a:=l) (xs:=(L4 q).map V.int) (fun i σ H2=>∃x,σ=[some (.ref l),some (.int t),some (.int w),some (.ref D),some (.int (aj1 t w i)),x]/\H2 D=some (.lst (((L4 (addQ q (pwQ t w))).take i).map V.int))/\Same H H2) ⟨none,rfl,ak,sD⟩ (fun i σ H2 _ ⟨_,_,_,s⟩=>.inl (.inl (s _ _ hl))) ?_ ?_⟩
  ·rintro i y σ H2 hi ⟨x,rfl,f,s2⟩;have hz:∀n:Nat,n<=4->(((L4 (addQ q (pwQ t w))).take n).map V.int).length<sizeLine:=fun n hn=>bI (by rw[aV,iw];lia);have keep:∀L b o,H b=some o->(upd H2 D L) b=some o:=fun L b o e=>by rw[aB (au e hD)];exact s2 _ _ e
   rcases fM hi with⟨rfl,rfl⟩|⟨rfl,rfl⟩|⟨rfl,rfl⟩|⟨rfl,rfl⟩
   ·refine⟨_,rfl,.inl ⟨rfl,_,.inl (.inl f)⟩,_,rfl,_,rfl,_,_,rfl,rfl,D,_,_,rfl,rfl,f,hz 0 (by decide),?_⟩;exact⟨_,rfl,_,rfl,_,_,rfl,rfl,iR tb_g% t1,_,rfl,ak,keep _⟩
   ·refine⟨_,rfl,.inl ⟨rfl,_,.inl (.inl f)⟩,_,rfl,_,rfl,_,_,rfl,rfl,D,_,_,rfl,rfl,f,hz 1 (by decide),?_⟩;exact⟨_,rfl,_,rfl,_,_,rfl,rfl,iR tb_g% t1,_,rfl,ak,keep _⟩
   ·refine⟨_,rfl,.inl ⟨rfl,_,.inl (.inl f)⟩,_,rfl,_,rfl,_,_,rfl,rfl,D,_,_,rfl,rfl,f,hz 2 (by decide),?_⟩;exact⟨_,rfl,_,rfl,_,_,rfl,rfl,iR tb_g% t1,_,rfl,ak,keep _⟩
   ·refine⟨_,rfl,.inl ⟨rfl,_,.inl (.inl f)⟩,_,rfl,_,rfl,_,_,rfl,rfl,D,_,_,rfl,rfl,f,hz 3 (by decide),?_⟩;exact⟨_,rfl,_,rfl,_,_,rfl,rfl,iR tb_g% t1,_,rfl,ak,keep _⟩
  ·rintro σ H2 ⟨x,rfl,f,s2⟩;exact⟨_,rfl,k D H2 hD f s2⟩
noncomputable def alG(A:Ad):Sp:=fun vs H Q _=>∃(p dx:Addr)(s:Int),vs=[.ref p,.int s]/\H p=some (.ins A.sY dx [])/\∀(d:Addr)(H':Hp),H d=none->Bn A H' p dx d s eY->But p H H'->Q .non H'
theorem amv(T:Tx K mg A):bZ P w K mg base CX0 1 A.Uq A.qt Q24 (alG A):=by
 k_dat (T.F'26.ok,Iu) "a"
 ·obtain⟨p,dx,s,rfl,_⟩:=h;rfl
 ·obtain ⟨p,dx,sp,rfl,hp,q⟩:=h;refine ⟨_,(ao (aQ (pv 0) (pv 1) rfl)
   (aC (aQ (pv 0) (dG (aj aA (aj aA (aj aA (aj aA aq))))) rfl))),?_⟩
  refine⟨_,rfl,_,rfl,p,_,dx,[],rfl,hp,T.jT,T.tU,(by show 0<1000;decide),?_⟩;refine⟨(by show 4<=sizeLine;decide),fun d hd=>?_⟩;have npd:p≠d:=fun z=>by rw[<-z,ak]at hd;cases hd
  rw[aB (aX npd)]at hd;refine⟨_,rfl,p,_,dx,_,rfl,(by rw[aB npd];exact ak),T.jT,T.oK,(by show 1<1000;decide),?_⟩;refine q d _ hd ⟨KD ak (by rw[aph]),by rw[aB (aX npd),ak];rfl⟩ fun b o e hb=>?_;rw[aB hb,aB (au e hd),aB hb];exact e
noncomputable def aj3(A:Ad)(sg:Bool):Sp:=fun vs H Q _=>∃(p dx l:Addr)(s t w:Int)(q:Q4),vs=[.ref p,.int t,.int w]/\Bn A H p dx l s q/\0<=t/\t<2 ^ 64/\∀(l':Addr)(H':Hp),Bn A H' p dx l' s (addQ q (pwQ t (if sg then -w else w)))->But p H H'->H l'=none->Q .non H'
theorem ok'27(T:Tx K mg A):bZ P w K mg base CX0 2 A.Zm A.tK Q2 (aj3 A false):=by
 k_dat (T.F'27.ok,Ng) "a"
 ·obtain⟨p,dx,l,sp,t,w,q,rfl,_⟩:=h;rfl
 ·obtain⟨p,dx,l,sp,t,w,q,rfl,hb,t0,t1,k⟩:=h;refine⟨_,(aC (aQ (pv 0) (aD (aj2 T) tb_g% T.F'25 aL (aj (pf 0) (aj (pv 1) (aj (pv 2) aq)))) rfl)),?_⟩;refine⟨_,rfl,rdF hb.o T.jT T.oK (El _ _) ⟨_,rfl,_,rfl,l,t,w,q,rfl,hb.l,t0,t1,fun l' H1 nl' f1 s1=>?_⟩⟩;refine⟨_,rfl,p,_,dx,_,rfl,s1 _ _ hb.o,T.jT,T.oK,(by show 2<1000;decide),?_⟩;rw[rY];have npl:l'≠p:=aX (au hb.o nl');exact k l' _ ⟨ak,by rw[aB npl];exact f1⟩ (fun b o e m=>by rw[aB m];exact s1 _ _ e) nl'
theorem ok'28(T:Tx K mg A):bZ P w K mg base CX0 2 A.Zn A.qu Q2 (aj3 A true):=by
 k_dat (T.F'28.ok,Iv) "a"
 ·obtain⟨p,dx,l,sp,t,w,q,rfl,_⟩:=h;rfl
 ·obtain⟨p,dx,l,sp,t,w,q,rfl,hb,t0,t1,k⟩:=h;refine⟨_,(aC (aQ (pv 0) (aD (aj2 T) tb_g% T.F'25 aL (aj (pf 0) (aj (pv 1) (aj (Ho yG (pv 2)) aq)))) rfl)),?_⟩;refine⟨_,rfl,rdF hb.o T.jT T.oK (El _ _) ⟨_,rfl,_,rfl,_,rfl,l,t,-w,q,rfl,hb.l,t0,t1,fun l' H1 nl' f1 s1=>?_⟩⟩;refine⟨_,rfl,p,_,dx,_,rfl,s1 _ _ hb.o,T.jT,T.oK,(by show 2<1000;decide),?_⟩;rw[rY];have npl:l'≠p:=aX (au hb.o nl');exact k l' _ ⟨ak,by rw[aB npl];exact f1⟩ (fun b o e m=>by rw[aB m];exact s1 _ _ e) nl'
noncomputable def kf(aG aP bH cu cA gO cB bw cC aR:V):List (Str × V):=[("room",aG),("reach",aP),("span",bH),("came",cu),("went",cA),("up",gO),("down",cB),("window",bw),("seen",cC),("balance",aR)]
theorem En(aG aP bH cu cA gO cB bw cC aR:V):(kf aG aP bH cu cA gO cB bw cC aR).lookup ("room" : Str)=some aG:=by rfl
theorem zJ(aG aP bH cu cA gO cB bw cC aR:V):(kf aG aP bH cu cA gO cB bw cC aR).lookup ("reach" : Str)=some aP:=by rfl
theorem wj(aG aP bH cu cA gO cB bw cC aR:V):(kf aG aP bH cu cA gO cB bw cC aR).lookup ("span" : Str)=some bH:=by rfl
theorem Jo(aG aP bH cu cA gO cB bw cC aR:V):(kf aG aP bH cu cA gO cB bw cC aR).lookup ("came" : Str)=some cu:=by rfl
theorem Jp(aG aP bH cu cA gO cB bw cC aR:V):(kf aG aP bH cu cA gO cB bw cC aR).lookup ("went" : Str)=some cA:=by rfl
theorem abJ(aG aP bH cu cA gO cB bw cC aR:V):(kf aG aP bH cu cA gO cB bw cC aR).lookup ("up" : Str)=some gO:=by rfl
theorem Jq(aG aP bH cu cA gO cB bw cC aR:V):(kf aG aP bH cu cA gO cB bw cC aR).lookup ("down" : Str)=some cB:=by rfl
theorem uV(aG aP bH cu cA gO cB bw cC aR:V):(kf aG aP bH cu cA gO cB bw cC aR).lookup ("window" : Str)=some bw:=by rfl
theorem Jr(aG aP bH cu cA gO cB bw cC aR:V):(kf aG aP bH cu cA gO cB bw cC aR).lookup ("seen" : Str)=some cC:=by rfl
theorem m5(aG aP bH cu cA gO cB bw cC aR:V):(kf aG aP bH cu cA gO cB bw cC aR).lookup ("balance" : Str)=some aR:=by rfl
theorem apj(aG aP bH cu cA gO cB bw cC aR:V):cF "balance" aR (cF "seen" cC (cF "window" bw (cF "down" cB (cF "up" gO (cF "went" cA (cF "came" cu (cF "span" bH (cF "reach" aP (cF "room" aG [])))))))))=kf aG aP bH cu cA gO cB bw cC aR:=by
 unfold kf
 walk_at "rec"
theorem Wj(aG aP bH cu cA gO cB bw cC aR y:V):cF "came" y (kf aG aP bH cu cA gO cB bw cC aR)=kf aG aP bH y cA gO cB bw cC aR:=by
 unfold kf
 walk_at "rec"
theorem Wk(aG aP bH cu cA gO cB bw cC aR y:V):cF "went" y (kf aG aP bH cu cA gO cB bw cC aR)=kf aG aP bH cu y gO cB bw cC aR:=by
 unfold kf
 walk_at "rec"
theorem ad2(aG aP bH cu cA gO cB bw cC aR y:V):cF "up" y (kf aG aP bH cu cA gO cB bw cC aR)=kf aG aP bH cu cA y cB bw cC aR:=by
 unfold kf
 walk_at "rec"
theorem Wl(aG aP bH cu cA gO cB bw cC aR y:V):cF "down" y (kf aG aP bH cu cA gO cB bw cC aR)=kf aG aP bH cu cA gO y bw cC aR:=by
 unfold kf
 walk_at "rec"
theorem Oo(aG aP bH cu cA gO cB bw cC aR y:V):cF "window" y (kf aG aP bH cu cA gO cB bw cC aR)=kf aG aP bH cu cA gO cB y cC aR:=by
 unfold kf
 walk_at "rec"
theorem Wm(aG aP bH cu cA gO cB bw cC aR y:V):cF "seen" y (kf aG aP bH cu cA gO cB bw cC aR)=kf aG aP bH cu cA gO cB bw y aR:=by
 unfold kf
 walk_at "rec"
theorem Nr(aG aP bH cu cA gO cB bw cC aR y:V):cF "balance" y (kf aG aP bH cu cA gO cB bw cC aR)=kf aG aP bH cu cA gO cB bw cC y:=by
 unfold kf
 walk_at "rec"
theorem kfN{aG aP bH cu cA gO cB bw cC aR:V}(h:m∉[("room" : Str),("reach" : Str),("span" : Str),("came" : Str),("went" : Str),("up" : Str),("down" : Str),("window" : Str),("seen" : Str),("balance" : Str)]):(kf aG aP bH cu cA gO cB bw cC aR).lookup m=none:=by
 simp only[cO,iM,or_false,not_or]at h;obtain⟨Cj,TV,Np,apk,apl,h_up,apm,aj4,apn,ad3⟩:=h;unfold kf;rw[cW Cj,cW TV,cW Np,cW apk,cW apl,cW h_up,cW apm,cW aj4,cW apn,cW ad3];rfl
structure Fq where
 (p dx d:Addr) (t l:Int) (c:Tab)
structure Rs where
 (dx a:Addr) (bs:List Addr) (r tt ov un tn:Int) (mi ma:Option Int) (ls:RG.Ls)
noncomputable abbrev RnX(A:Ad)(H:Hp)(p:Addr)(x:Rs):Prop:=Rn A H p x.dx x.a x.bs x.r x.tt x.ov x.un x.tn x.mi x.ma x.ls
structure Ru where
 (p:Addr) (x:Rs)
structure Wi where
 (p dx l:Addr) (c:Int) (ps:List Bp)
structure Di where
 (p dx l:Addr) (n v:Int) (C:List Int)
structure Ba where
 (p dx l:Addr) (q:Q4)
structure KS where
 (k dk:Addr) (room:Nat) (reach span:Int) (cm wn:Fq) (up dn:Ru) (wi:Wi) (di:Di) (ba:Ba)
variable{x x' y z:KS}
structure pF(A:Ad)(H:Hp)(room:Nat)(f:Fq):Prop where
 o:H f.p=some (.ins A.gB f.dx (fl room f.t f.l f.d))
 d:H f.d=some (.dK (emb f.c))
theorem pF.same{f:Fq}(h:pF A H room f)(s:Same H H'):pF A H' room f:=⟨s _ _ h.o,s _ _ h.d⟩
theorem pF.but{f:Fq}{q C:Addr}{fs:List (Str × V)}(h:pF A H room f)(s:L2.But q H H')(hq:H q=some (.ins C e fs))(n:f.p≠q):pF A H' room f:=
 ⟨s _ _ h.o n,s _ _ h.d (iY h.d hq (by intro z;cases z))⟩
noncomputable def KS.all(x:KS):List Addr:=[x.k,x.cm.p,x.wn.p,x.up.p,x.dn.p,x.wi.p,x.di.p,x.ba.p]
structure Kp(A:Ad)(H:Hp)(x:KS):Prop where
 o:H x.k=some (.ins A.iH x.dk (kf (.int x.room) (.int x.reach) (.int x.span) (.ref x.cm.p) (.ref x.wn.p) (.ref x.up.p) (.ref x.dn.p) (.ref x.wi.p) (.ref x.di.p) (.ref x.ba.p)))
 cm:pF A H x.room x.cm
 wn:pF A H x.room x.wn
 up:RnX A H x.up.p x.up.x
 dn:RnX A H x.dn.p x.dn.x
 wi:Wn A H x.wi.p x.wi.dx x.wi.l x.room x.reach x.wi.c x.wi.ps
 di:Dn A H x.di.p x.di.dx x.di.l x.room x.di.n x.di.v (srt (My.up x.di.v x.di.C))
 ba:Bn A H x.ba.p x.ba.dx x.ba.l x.span x.ba.q
 nd:x.all.Nodup
theorem Kp.same(h:Kp A H x)(s:Same H H'):Kp A H' x:=⟨s _ _ h.o,h.cm.same s,h.wn.same s,h.up.same s,h.dn.same s,h.wi.same s,h.di.same s,h.ba.same s,h.nd⟩
structure Ap(x:KS):Prop where
 k1:x.k≠x.cm.p
 k2:x.k≠x.wn.p
 k3:x.k≠x.up.p
 k4:x.k≠x.dn.p
 k5:x.k≠x.wi.p
 k6:x.k≠x.di.p
 k7:x.k≠x.ba.p
 c2:x.cm.p≠x.wn.p
 c3:x.cm.p≠x.up.p
 c4:x.cm.p≠x.dn.p
 c5:x.cm.p≠x.wi.p
 c6:x.cm.p≠x.di.p
 c7:x.cm.p≠x.ba.p
 w3:x.wn.p≠x.up.p
 w4:x.wn.p≠x.dn.p
 w5:x.wn.p≠x.wi.p
 w6:x.wn.p≠x.di.p
 w7:x.wn.p≠x.ba.p
 u4:x.up.p≠x.dn.p
 u5:x.up.p≠x.wi.p
 u6:x.up.p≠x.di.p
 u7:x.up.p≠x.ba.p
 d5:x.dn.p≠x.wi.p
 d6:x.dn.p≠x.di.p
 d7:x.dn.p≠x.ba.p
 i6:x.wi.p≠x.di.p
 i7:x.wi.p≠x.ba.p
 s7:x.di.p≠x.ba.p
theorem Kp.ap(h:Kp A H x):Ap x:=by
 have n:=h.nd;unfold KS.all at n;simp only[jJ,cO,iM,or_false,not_or,wB,and_true,not_false_eq_true]at n;obtain⟨⟨k1,k2,k3,k4,k5,k6,k7⟩,⟨c2,c3,c4,c5,c6,c7⟩,⟨w3,w4,w5,w6,w7⟩,⟨u4,u5,u6,u7⟩,⟨d5,d6,d7⟩,⟨i6,i7⟩,s7⟩:=n;exact⟨k1,k2,k3,k4,k5,k6,k7,c2,c3,c4,c5,c6,c7,w3,w4,w5,w6,w7,u4,u5,u6,u7,d5,d6,d7,i6,i7,s7⟩
open MK
theorem Wo(r e:Int)(bs:List WN.Box):(lW r e bs).length<=bs.length:=by
 unfold lW;rw[Ay];have h1:=WN.Vz r (bs.filter fun b=>decide (e<b.l)).reverse;rw[Ay]at h1;exact eN h1 (Jv _ _)
theorem uW{r T ov un:Int}(g:RG.Good r T ov un ls)(h:T<=1000000000000*n)(hn:n<=200):ls.length<=60/\RG.val ls<2 ^ 400:=by
 have e:(2:Int) ^ 60=1152921504606846976:=by decide
 refine⟨g.len (by rw[e];lia),?_⟩;have:=g.vl;have e:(1152921504606846976:Nat)<2 ^ 400:=by decide
 lia
noncomputable def KS.pts(x:KS):List Addr:=[x.cm.p,x.wn.p,x.up.p,x.dn.p,x.wi.p,x.di.p,x.ba.p]
structure Pp(A:Ad)(H:Hp)(x:KS):Prop where
 cm:pF A H x.room x.cm
 wn:pF A H x.room x.wn
 up:RnX A H x.up.p x.up.x
 dn:RnX A H x.dn.p x.dn.x
 wi:Wn A H x.wi.p x.wi.dx x.wi.l x.room x.reach x.wi.c x.wi.ps
 di:Dn A H x.di.p x.di.dx x.di.l x.room x.di.n x.di.v (srt (My.up x.di.v x.di.C))
 ba:Bn A H x.ba.p x.ba.dx x.ba.l x.span x.ba.q
 nd:x.pts.Nodup
theorem Kp.pp(h:Kp A H x):Pp A H x:=⟨h.cm,h.wn,h.up,h.dn,h.wi,h.di,h.ba,(jJ.mp h.nd).2⟩
theorem Kp.nk(h:Kp A H x):x.k∉x.pts:=(jJ.mp h.nd).1
theorem Pp.kp(h:Pp A H x)(o:H x.k=some (.ins A.iH x.dk (kf (.int x.room) (.int x.reach) (.int x.span) (.ref x.cm.p) (.ref x.wn.p) (.ref x.up.p) (.ref x.dn.p) (.ref x.wi.p) (.ref x.di.p) (.ref x.ba.p))))(n:x.k∉x.pts):Kp A H x:=
 ⟨o,h.cm,h.wn,h.up,h.dn,h.wi,h.di,h.ba,jJ.mpr ⟨n,h.nd⟩⟩
theorem Pp.but{q C:Addr}{fs:List (Str × V)}(h:Pp A H x)(b:L2.But q H H')(hq:H q=some (.ins C e fs))(n:q∉x.pts):Pp A H' x:=by
 unfold KS.pts at n;simp only[cO,iM,or_false,not_or]at n;obtain⟨n1,n2,n3,n4,n5,n6,n7⟩:=n;exact⟨h.cm.but b hq (aX n1),h.wn.but b hq (aX n2),h.up.but b hq (aX n3),h.dn.but b hq (aX n4),h.wi.but b hq (aX n5),h.di.but b hq (aX n6),h.ba.but b hq (aX n7),h.nd⟩
structure Ap7(x:KS):Prop where
 c:x.cm.p≠x.wn.p/\x.cm.p≠x.up.p/\x.cm.p≠x.dn.p/\x.cm.p≠x.wi.p/\x.cm.p≠x.di.p/\x.cm.p≠x.ba.p
 w:x.wn.p≠x.up.p/\x.wn.p≠x.dn.p/\x.wn.p≠x.wi.p/\x.wn.p≠x.di.p/\x.wn.p≠x.ba.p
 u:x.up.p≠x.dn.p/\x.up.p≠x.wi.p/\x.up.p≠x.di.p/\x.up.p≠x.ba.p
 d:x.dn.p≠x.wi.p/\x.dn.p≠x.di.p/\x.dn.p≠x.ba.p
 i:x.wi.p≠x.di.p/\x.wi.p≠x.ba.p
 s:x.di.p≠x.ba.p
theorem Pp.ap(h:Pp A H x):Ap7 x:=by
 have n:=h.nd;unfold KS.pts at n;simp only[jJ,cO,iM,or_false,not_or,wB,and_true,not_false_eq_true]at n;obtain⟨c,w,u,d,i,s⟩:=n;exact⟨c,w,u,d,i,s⟩
theorem Pp.setC(h:Pp A H x){f:Fq}(e:f.p=x.cm.p)(b:L2.But x.cm.p H H')(hf:pF A H' x.room f):Pp A H' { x with cm:=f }:=by
 have a:=h.ap;have q:=h.cm.o;obtain ⟨a1,a2,a3,a4,a5,a6⟩:=a.c;exact ⟨hf,h.wn.but b q (aX a1),h.up.but b q (aX a2),h.dn.but b q (aX a3),h.wi.but b q (aX a4),h.di.but b q (aX a5),h.ba.but b q (aX a6),by
  show [f.p,x.wn.p,x.up.p,x.dn.p,x.wi.p,x.di.p,x.ba.p].Nodup;rw [e];exact h.nd⟩
theorem Pp.setW(h:Pp A H x){f:Fq}(e:f.p=x.wn.p)(b:L2.But x.wn.p H H')(hf:pF A H' x.room f):Pp A H' { x with wn:=f }:=by
 have a:=h.ap;have q:=h.wn.o;obtain ⟨a2,a3,a4,a5,a6⟩:=a.w;exact ⟨h.cm.but b q a.c.1,hf,h.up.but b q (aX a2),h.dn.but b q (aX a3),h.wi.but b q (aX a4),h.di.but b q (aX a5),h.ba.but b q (aX a6),by
  show [x.cm.p,f.p,x.up.p,x.dn.p,x.wi.p,x.di.p,x.ba.p].Nodup;rw [e];exact h.nd⟩
theorem Pp.setU(h:Pp A H x){f:Ru}(e:f.p=x.up.p)(b:L2.But x.up.p H H')(hf:RnX A H' f.p f.x):Pp A H' { x with up:=f }:=by
 have a:=h.ap;have q:=h.up.o;obtain ⟨a3,a4,a5,a6⟩:=a.u;exact ⟨h.cm.but b q a.c.2.1,h.wn.but b q a.w.1,hf,h.dn.but b q (aX a3),h.wi.but b q (aX a4),h.di.but b q (aX a5),h.ba.but b q (aX a6),by
  show [x.cm.p,x.wn.p,f.p,x.dn.p,x.wi.p,x.di.p,x.ba.p].Nodup;rw [e];exact h.nd⟩
theorem Pp.setD(h:Pp A H x){f:Ru}(e:f.p=x.dn.p)(b:L2.But x.dn.p H H')(hf:RnX A H' f.p f.x):Pp A H' { x with dn:=f }:=by
 have a:=h.ap;have q:=h.dn.o;obtain ⟨a4,a5,a6⟩:=a.d;exact ⟨h.cm.but b q a.c.2.2.1,h.wn.but b q a.w.2.1,h.up.but b q a.u.1,hf,h.wi.but b q (aX a4),h.di.but b q (aX a5),h.ba.but b q (aX a6),by
  show [x.cm.p,x.wn.p,x.up.p,f.p,x.wi.p,x.di.p,x.ba.p].Nodup;rw [e];exact h.nd⟩
theorem Pp.setI(h:Pp A H x){f:Wi}(e:f.p=x.wi.p)(b:L2.But x.wi.p H H')(hf:Wn A H' f.p f.dx f.l x.room x.reach f.c f.ps):Pp A H' { x with wi:=f }:=by
 have a:=h.ap;have q:=h.wi.o;exact ⟨h.cm.but b q a.c.2.2.2.1,h.wn.but b q a.w.2.2.1,h.up.but b q a.u.2.1,h.dn.but b q a.d.1,hf,h.di.but b q (aX a.i.1),h.ba.but b q (aX a.i.2),by
  show [x.cm.p,x.wn.p,x.up.p,x.dn.p,f.p,x.di.p,x.ba.p].Nodup;rw [e];exact h.nd⟩
theorem Pp.setS(h:Pp A H x){f:Di}(e:f.p=x.di.p)(b:L2.But x.di.p H H')(hf:Dn A H' f.p f.dx f.l x.room f.n f.v (srt (My.up f.v f.C))):Pp A H' { x with di:=f }:=by
 have a:=h.ap;have q:=h.di.o;exact ⟨h.cm.but b q a.c.2.2.2.2.1,h.wn.but b q a.w.2.2.2.1,h.up.but b q a.u.2.2.1,h.dn.but b q a.d.2.1,h.wi.but b q a.i.1,hf,h.ba.but b q (aX a.s),by
  show [x.cm.p,x.wn.p,x.up.p,x.dn.p,x.wi.p,f.p,x.ba.p].Nodup;rw [e];exact h.nd⟩
theorem Pp.setB(h:Pp A H x){f:Ba}(e:f.p=x.ba.p)(b:L2.But x.ba.p H H')(hf:Bn A H' f.p f.dx f.l x.span f.q):Pp A H' { x with ba:=f }:=by
 have a:=h.ap;have q:=h.ba.o;exact ⟨h.cm.but b q a.c.2.2.2.2.2,h.wn.but b q a.w.2.2.2.2,h.up.but b q a.u.2.2.2,h.dn.but b q a.d.2.2,h.wi.but b q a.i.2,h.di.but b q a.s,hf,by
  show [x.cm.p,x.wn.p,x.up.p,x.dn.p,x.wi.p,x.di.p,f.p].Nodup;rw [e];exact h.nd⟩
structure Far(A:Ad)(ps:List Addr)(H H':Hp):Prop where
 pb:∀b o,H b=some o->b∉ps->H' b=some o
 py:∀y:KS,Pp A H y->(∀b∈y.pts,b∉ps)->Pp A H' y
theorem Far.of{ps:List Addr}{C:Addr}{fs:List (Str × V)}(m:p∈ps)(hq:H p=some (.ins C e fs))(b:L2.But p H H'):Far A ps H H':=
 ⟨fun c o e n=>b c o e fun z=>n (by rw[z];exact m),fun y h d=>h.but b hq fun z=>d p z m⟩
theorem Far.trans{ps:List Addr}{H1:Hp}(a:Far A ps H H1)(b:Far A ps H1 H'):Far A ps H H':=⟨fun c o e n=>b.pb c o (a.pb c o e n) n,fun y h d=>b.py y (a.py y h d) d⟩
noncomputable def FS(room:Nat)(th w:Int)(f g:Fq):Prop:=∃cut,ou room (put f.c th (low f.c th+w)) g.c cut/\g.t=f.t+w/\g.l=f.l+cut
structure RS(th w:Int)(f g:Rs):Prop where
 r:g.r=f.r
 tt:g.tt=f.tt+w
 mi:g.mi=lo2 f.mi (some th)
 ma:g.ma=hi2 f.ma (some th)
 st:RG.Stl f.r 0 f.tn f.ov f.un (RG.iK th f.ls w.toNat) g.ls g.tn g.ov g.un
noncomputable def WS(room:Nat)(reach c:Int)(bs:List WN.Box)(g:Wi):Prop:=g.c=c/\bx g.ps=lW room (c-reach) bs
noncomputable def DS(room:Nat)(th:Int)(f g:Di):Prop:=g.n=f.n+1/\g.C=came f.C th/\Lvl room f.v g.v (came f.C th)
structure SB(x x':KS):Prop where
 room:x'.room=x.room
 reach:x'.reach=x.reach
 span:x'.span=x.span
 pts:x'.pts=x.pts
 k:x'.k=x.k
 dk:x'.dk=x.dk
structure SP(th w:Int)(x x':KS):Prop where
 sb:SB x x'
 cm:FS x.room th w x.cm x'.cm
 wn:x'.wn=x.wn
 up:RS th w x.up.x x'.up.x
 dn:x'.dn=x.dn
 wi:WS x.room x.reach (x.wi.c+1) (bx x.wi.ps++[⟨x.wi.c+1,x.wi.c+1,w⟩]) x'.wi
 di:DS x.room th x.di x'.di
 ba:x'.ba.q=if th<x.span then addQ x.ba.q (pwQ th w)else x.ba.q
structure ST(th w:Int)(x x':KS):Prop where
 sb:SB x x'
 cm:x'.cm=x.cm
 wn:FS x.room th w x.wn x'.wn
 up:x'.up=x.up
 dn:RS th w x.dn.x x'.dn.x
 wi:WS x.room x.reach (x.wi.c+1) (bx x.wi.ps) x'.wi
 di:x'.di=x.di
 ba:x'.ba.q=if th<x.span then addQ x.ba.q (pwQ th (-w))else x.ba.q
structure SI(w:Int)(x x':KS):Prop where
 sb:SB x x'
 cm:x'.cm=x.cm
 wn:x'.wn=x.wn
 up:x'.up=x.up
 dn:x'.dn=x.dn
 wi:WS x.room x.reach (x.wi.c+w) (bx x.wi.ps) x'.wi
 di:x'.di=x.di
 ba:x'.ba=x.ba
structure EF(f g:Fq):Prop where
 t:f.t=g.t
 l:f.l=g.l
 c:f.c=g.c
structure ER(f g:Rs):Prop where
 r:f.r=g.r
 tt:f.tt=g.tt
 ov:f.ov=g.ov
 un:f.un=g.un
 tn:f.tn=g.tn
 mi:f.mi=g.mi
 ma:f.ma=g.ma
 ls:f.ls=g.ls
structure EW(f g:Wi):Prop where
 c:f.c=g.c
 b:bx f.ps=bx g.ps
structure ED(f g:Di):Prop where
 n:f.n=g.n
 v:f.v=g.v
 C:f.C=g.C
structure Eqp(x y:KS):Prop where
 room:x.room=y.room
 reach:x.reach=y.reach
 span:x.span=y.span
 cm:EF x.cm y.cm
 wn:EF x.wn y.wn
 up:ER x.up.x y.up.x
 dn:ER x.dn.x y.dn.x
 wi:EW x.wi y.wi
 di:ED x.di y.di
 ba:x.ba.q=y.ba.q
theorem Eqp.idle{w:Int}{y':KS}(e:Eqp x y)(a:SI w x x')(b:SI w y y'):Eqp x' y':=
 ⟨by rw [a.sb.room,b.sb.room,e.room],by rw [a.sb.reach,b.sb.reach,e.reach],by rw [a.sb.span,b.sb.span,e.span],by rw [a.cm,b.cm];exact e.cm,by rw [a.wn,b.wn];exact e.wn,by rw [a.up,b.up];exact e.up,by rw [a.dn,b.dn];exact e.dn,
  ⟨by rw [a.wi.1,b.wi.1,e.wi.c],by rw [a.wi.2,b.wi.2,e.wi.c,e.wi.b,e.room,e.reach]⟩,by rw [a.di,b.di];exact e.di,by rw [a.ba,b.ba,e.ba]⟩
structure Gf(room:Nat)(f:Fq)(n:Nat):Prop where
 ok:∃W,Ok room f.c f.t f.l W
 t:f.t<=1000000000000*n
structure Gr(room:Nat)(f:Rs)(n:Nat):Prop where
 r:f.r=room
 g:RG.Good f.r f.tt f.ov f.un f.ls
 t:f.tt<=1000000000000*n
structure Kh(x:KS)(n:Nat):Prop where
 r2:2<=x.room
 r64:x.room<=64
 rr:x.room<=15
 cm:Gf x.room x.cm n
 wn:Gf x.room x.wn n
 up:Gr x.room x.up.x n
 dn:Gr x.room x.dn.x n
 wl:x.wi.ps.length<=n
 dl:zH x.room x.di.v x.di.C
 dc:x.di.C.length<=n
 few:n<=200
theorem Gf.add{f g:Fq}{w:Int}(h:Gf room f n)(s:FS room th w f g)(w1:1<=w)(w2:w<=1000000000000):Gf room g (n+1):=by
 obtain⟨cut,a,b,c⟩:=s;obtain⟨W,ok⟩:=h.ok;have:=h.t;exact⟨⟨_,by rw[b,c];exact(ok.add (k:=th) w1).fit a⟩,by rw[b];lia⟩
theorem Gf.next{f:Fq}(h:Gf room f n):Gf room f (n+1):=⟨h.ok,by have:=h.t;lia⟩
theorem Gr.add{f g:Rs}{w:Int}(h:Gr room f n)(s:RS th w f g)(w1:1<=w)(w2:w<=1000000000000):Gr room g (n+1):=by
 have:=h.t;obtain⟨g',_⟩:=h.g.add w1 s.st;exact⟨by rw[s.r,h.r],by rw[s.r,s.tt];exact g',by rw[s.tt];lia⟩
theorem Gr.next{f:Rs}(h:Gr room f n):Gr room f (n+1):=⟨h.r,h.g,by have:=h.t;lia⟩
theorem Gr.le62{f:Rs}(h:Gr room f n)(rr:room<=15):(∀l∈f.ls,l.length<=62)/\((∀l∈f.ls,l.length<=30)\/∀l∈f.ls,(l.length:Int)+1<=f.r):=by
 have e:=h.r;exact⟨fun l m=>by have:=h.g.sm l m;lia,.inl fun l m=>by have:=h.g.sm l m;lia⟩
theorem WS.len{c:Int}{bs:List WN.Box}{g:Wi}(h:WS room reach c bs g):g.ps.length<=bs.length:=by
 have h1:=Wo room (c-reach) bs;rw[<-h.2,lV]at h1;exact h1
theorem Kh.put{w:Int}(h:Kh x n)(hn:n<200)(s:SP th w x x')(w1:1<=w)(w2:w<=1000000000000):Kh x' (n+1):=by
 have r:=s.sb.room;refine⟨by rw[r];exact h.r2,by rw[r];exact h.r64,by rw[r];exact h.rr,by rw[r];exact h.cm.add s.cm w1 w2,by rw[r,s.wn];exact h.wn.next,by rw[r];exact h.up.add s.up w1 w2,by rw[r,s.dn];exact h.dn.next,?_,?_,?_,hn⟩
 ·have:=s.wi.len;rw[fj,lV]at this;have l1:=h.wl;exact eN this (by show x.wi.ps.length+1<=n+1;lia)
 ·rw[r,s.di.2.1];exact h.dl.lvl s.di.2.2 fun w=>alE
 ·rw[s.di.2.1];have:=(ajZ x.di.C th).2;have:=h.dc;lia
theorem Kh.take{w:Int}(h:Kh x n)(hn:n<200)(s:ST th w x x')(w1:1<=w)(w2:w<=1000000000000):Kh x' (n+1):=by
 have r:=s.sb.room;refine⟨by rw[r];exact h.r2,by rw[r];exact h.r64,by rw[r];exact h.rr,by rw[r,s.cm];exact h.cm.next,by rw[r];exact h.wn.add s.wn w1 w2,by rw[r,s.up];exact h.up.next,by rw[r];exact h.dn.add s.dn w1 w2,?_,by rw[r,s.di];exact h.dl,by rw[s.di];have:=h.dc;lia,hn⟩;have:=s.wi.len;rw[lV]at this;have l1:=h.wl;lia
theorem Kh.idle{w:Int}(h:Kh x n)(hn:n<200)(s:SI w x x'):Kh x' (n+1):=by
 have r:=s.sb.room;refine⟨by rw[r];exact h.r2,by rw[r];exact h.r64,by rw[r];exact h.rr,by rw[r,s.cm];exact h.cm.next,by rw[r,s.wn];exact h.wn.next,by rw[r,s.up];exact h.up.next,by rw[r,s.dn];exact h.dn.next,?_,by rw[r,s.di];exact h.dl,by rw[s.di];have:=h.dc;lia,hn⟩;have:=s.wi.len;rw[lV]at this;have l1:=h.wl;lia
noncomputable def R0(room:Nat):Rs:=⟨0,0,[],room,0,0,0,0,none,none,[]⟩
noncomputable def K0(room:Nat)(reach span:Int):KS:=⟨0,0,room,reach,span,⟨0,0,0,0,0,[]⟩,⟨0,0,0,0,0,[]⟩,⟨0,R0 room⟩,⟨0,R0 room⟩,⟨0,0,0,0,[]⟩,⟨0,0,0,0,0,[]⟩,⟨0,0,0,eY⟩⟩
theorem Kh.eq(h:Kh y n)(e:Eqp x y):Kh x n:=by
 have gf:∀{f g:Fq},EF f g->Gf y.room g n->Gf x.room f n:=fun {f g} e1 g1=>⟨by rw[e.room,e1.t,e1.l,e1.c];exact g1.ok,by rw[e1.t];exact g1.t⟩;have gr:∀{f g:Rs},ER f g->Gr y.room g n->Gr x.room f n:=fun {f g} e1 g1=>⟨by rw[e.room,e1.r];exact g1.r,by rw[e1.r,e1.tt,e1.ov,e1.un,e1.ls];exact g1.g,by rw[e1.tt];exact g1.t⟩;refine⟨by rw[e.room];exact h.r2,by rw[e.room];exact h.r64,by rw[e.room];exact h.rr,gf e.cm h.cm,gf e.wn h.wn,gr e.up h.up,gr e.dn h.dn,?_,by rw[e.room,e.di.v,e.di.C];exact h.dl,by rw[e.di.C];exact h.dc,h.few⟩;rw[<-lV,e.wi.b,lV];exact h.wl
theorem kh0(reach span:Int)(r2:2<=room)(r64:room<=64)(ev:room % 2=0)(rr:room<=15):Kh (K0 room reach span) 0:=by
 have ok0:Gf room ⟨0,0,0,0,0,[]⟩ 0:=⟨⟨_,Ok.empty room⟩,iW _⟩;have g0:RG.Good (room:Int) 0 0 0 []:=RG.Good.new tb_g% tb_g% tb_g%;exact⟨r2,r64,rr,ok0,ok0,⟨rfl,g0,iW _⟩,⟨rfl,g0,iW _⟩,bG _,⟨iW _,by show((0:Nat):Int)<=room;lia,fun w a b=>absurd a (by have b2:w<0:=b;lia)⟩,bG _,by decide⟩
open MK
noncomputable def KS.ems(x:KS):List Addr:=x.up.x.a::x.dn.x.a::x.wi.l::x.di.l::(x.up.x.bs++x.dn.x.bs)
noncomputable def Em(H:Hp)(x x':KS):Prop:=∀c∈x'.ems,c∈x.ems\/H c=none
theorem Pp.live(h:Pp A H x):∀b∈x.pts,H b≠none:=fun b m=>by
 unfold KS.pts at m;simp only[cO,iM,or_false]at m;rcases m with rfl|rfl|rfl|rfl|rfl|rfl|rfl
 ·rw[h.cm.o];intro z;cases z
 ·rw[h.wn.o];intro z;cases z
 ·rw[h.up.o];intro z;cases z
 ·rw[h.dn.o];intro z;cases z
 ·rw[h.wi.o];intro z;cases z
 ·rw[h.di.o];intro z;cases z
 ·rw[h.ba.o];intro z;cases z
theorem Far.none{H1:Hp}{ps:List Addr}(f:Far A ps H H1)(lv:∀b∈ps,H1 b≠Option.none){c:Addr}(n:H1 c=Option.none):H c=Option.none:=by
 cases e:H c with
 |none=>rfl
 |some o =>
  exfalso;by_cases m:c∈ps
  ·exact lv c m n
  ·rw[f.pb c o e m]at n;cases n
noncomputable def apo(A:Ad):Sp:=fun vs H Q _=>∃(x:KS)(n:Nat)(th w:Int),vs=[.ref x.k,.int th,.int w]/\Kp A H x/\Kh x n/\n<200/\0<=th/\th<1152921504606846976/\1<=w/\w<=1000000000000 /\
 ∀(x':KS)(H':Hp),Kp A H' x'->SP th w x x'->Far A x.pts H H'->Em H x x'->Q .non H'
theorem amw(T:Tx K mg A):bZ P w K mg base CX0 6 A.Zo A.qw Q2 (apo A):=by
 k_dat (T.F'29.ok,Iw) "a"
 ·obtain⟨x,n,th,w,rfl,_⟩:=h;rfl
 ·obtain⟨x,n,th,w,rfl,hK,hG,hn,th0,th1,w1,w2,q⟩:=h;have e64:(2:Int) ^ 64=18446744073709551616:=by decide
  have r2:=hG.r2;have r64:=hG.r64;have rr:=hG.rr;have lu:=uW hG.up.g hG.up.t hG.few;have su:=hG.up.g.small;have hrm:=hG.up.r;obtain ⟨W,okf⟩:=hG.cm.ok;refine ⟨_,(ao (aZ (eV (pf 0) T.fQ T.zu (amt T) tb_g% T.b'24 .nil aL (aj (pv 1) (aj (pv 2) aq))))
   (ao (aZ (eV (pf 0) T.bV T.HX (ok'8 T) tb_g% T.b'8 .nil aL (aj (pv 1) (aj (pv 2) aq))))
   (ao (aZ (eV (pf 0) T.dI T.Tq (ok'12 T) tb_g% T.b'12 .nil aL (aj (pv 2) aq)))
   (ao (aZ (eV (pf 0) T.dM T.MP (ok'19 T) tb_g% T.b'19 .nil aL (aj (pv 1) aq)))
   (aC (cU (aN pZ (pv 1) (pf 0) (aM _)) (aC (aZ (eV (pf 0) T.jT T.Od (ok'27 T) tb_g% T.b'27 .nil aL (aj (pv 1) (aj (pv 2) aq))))) bJ)))))),?_⟩
  refine⟨_,rfl,rdF hK.o T.bW T.za (Jo ..) ⟨x.cm.p,x.cm.dx,_,rfl,hK.cm.o,abI _ _ _ _ tb_g% tb_g% tb_g% tb_g%,_,rfl,_,rfl,x.cm.p,x.cm.dx,x.cm.d,x.room,x.cm.t,x.cm.l,th,w,x.cm.c,rfl,hK.cm.o,hK.cm.d,okf.nd,okf.pos,w1,by have:=okf.len;lia,fun d1 c1 cut H1 hd1 ft o1 e1 b1=>?_⟩⟩;have P1:=hK.pp.setC (f:=⟨x.cm.p,x.cm.dx,d1,x.cm.t+w,x.cm.l+cut,c1⟩) rfl b1 ⟨o1,e1⟩;have f1:Far A x.pts H H1:=Far.of (List.mem_of_getElem? (i:=0) rfl) hK.cm.o b1;refine⟨_,rfl,rdF (f1.pb _ _ hK.o hK.nk) T.bW T.zf (abJ ..) ⟨x.up.p,x.up.x.dx,_,rfl,P1.up.o,rgN tb_g%,_,rfl,_,rfl,x.up.p,x.up.x.dx,x.up.x.a,x.up.x.bs,x.up.x.r,x.up.x.tt,x.up.x.ov,x.up.x.un,x.up.x.tn,th,w,x.up.x.mi,x.up.x.ma,x.up.x.ls,rfl,P1.up,hG.up.g.r2,hG.up.g.r64,by lia,by rw[e64];lia,by lia,(hG.up.le62 hG.rr).1,(hG.up.le62 hG.rr).2,lu.2,fun a' bs' out tn' ov' un' H2 st rn b2 na2 nb2=>?_⟩⟩;have P2:=P1.setU (f:=⟨x.up.p,⟨x.up.x.dx,a',bs',x.up.x.r,x.up.x.tt+w,ov',un',tn',_,_,out⟩⟩) rfl b2 rn;have f2:=f1.trans (Far.of (A:=A) (ps:=x.pts) (List.mem_of_getElem? (i:=2) rfl) P1.up.o b2);refine⟨_,rfl,rdF (f2.pb _ _ hK.o hK.nk) T.bW T.vU (uV ..) ⟨x.wi.p,x.wi.dx,_,rfl,P2.wi.o,Wf _ _ _ _ tb_g% tb_g% tb_g% tb_g%,_,rfl,x.wi.p,x.wi.dx,x.wi.l,x.room,x.reach,x.wi.c,w,x.wi.ps,rfl,P2.wi,by have:=hG.wl;lia,by lia,by lia,fun l3 ps3 H3 eb3 wn3 b3 nl3=>?_⟩⟩;have P3:=P2.setI (f:=⟨x.wi.p,x.wi.dx,l3,x.wi.c+1,ps3⟩) rfl b3 wn3;have f3:=f2.trans (Far.of (A:=A) (ps:=x.pts) (List.mem_of_getElem? (i:=4) rfl) P2.wi.o b3);refine⟨_,rfl,rdF (f3.pb _ _ hK.o hK.nk) T.bW T.zm (Jr ..) ⟨x.di.p,x.di.dx,_,rfl,P3.di.o,ajW _ _ _ _ tb_g% tb_g% tb_g% tb_g%,_,rfl,x.di.p,x.di.dx,x.di.l,x.room,x.di.n,x.di.v,th,x.di.C,rfl,P3.di,hG.dl,by have:=hG.dc;lia,by lia,by lia,fun l4 v4 H4 lv4 dn4 b4 nl4=>?_⟩⟩;have P4:=P3.setS (f:=⟨x.di.p,x.di.dx,l4,x.di.n+1,v4,came x.di.C th⟩) rfl b4 dn4;have f4:=f3.trans (Far.of (A:=A) (ps:=x.pts) (List.mem_of_getElem? (i:=5) rfl) P3.di.o b4);have em:∀c∈a'::x.dn.x.a::l3::l4::(bs'++x.dn.x.bs),c∈x.ems\/H c=none:=fun c m=>by
   unfold KS.ems;simp only[cO,dY]at m ⊢;rcases m with rfl|rfl|rfl|rfl|m|m
   ·exact .inr (f1.none P1.live na2)
   ·exact .inl (.inr (.inl rfl))
   ·exact .inr (f2.none P2.live nl3)
   ·rcases nl4 with rfl|n
    ·exact .inl (.inr (.inr (.inr (.inl rfl))))
    ·exact .inr (f3.none P3.live n)
   ·rcases nb2 c m with m|n
    ·exact .inl (.inr (.inr (.inr (.inr (.inl m)))))
    ·exact .inr (f1.none P1.live n)
   ·exact .inl (.inr (.inr (.inr (.inr (.inr m)))))
  have o4:=f4.pb _ _ hK.o hK.nk;refine⟨_,rfl,_,rfl,rdF o4 T.bW T.tV (wj ..) ⟨_,_,rfl,rfl,_,rfl,fO (fun hs=>?_) (fun hs=>?_)⟩⟩
  ·have hs:th<x.span:=of_decide_eq_true hs;refine⟨_,rfl,rdF o4 T.bW T.tW (m5 ..) ⟨x.ba.p,x.ba.dx,_,rfl,P4.ba.o,amu _ _ tb_g% tb_g%,_,rfl,_,rfl,x.ba.p,x.ba.dx,x.ba.l,x.span,th,w,x.ba.q,rfl,P4.ba,th0,by rw[e64];lia,fun l5 H5 bn5 b5 nl5=>?_⟩⟩;have P5:=P4.setB (f:=⟨x.ba.p,x.ba.dx,l5,_⟩) rfl b5 bn5;have f5:=f4.trans (Far.of (A:=A) (ps:=x.pts) (List.mem_of_getElem? (i:=6) rfl) P4.ba.o b5);exact q _ H5 (P5.kp (f5.pb _ _ hK.o hK.nk) hK.nk) ⟨⟨rfl,rfl,rfl,rfl,rfl,rfl⟩,⟨cut,ft,rfl,rfl⟩,rfl,⟨rfl,rfl,rfl,rfl,st⟩,rfl,⟨rfl,eb3⟩,⟨rfl,rfl,lv4⟩,(if_pos hs).symm⟩ f5 em
  ·have hs:¬ th<x.span:=fun z=>hs (decide_eq_true z);exact q _ H4 (P4.kp o4 hK.nk) ⟨⟨rfl,rfl,rfl,rfl,rfl,rfl⟩,⟨cut,ft,rfl,rfl⟩,rfl,⟨rfl,rfl,rfl,rfl,st⟩,rfl,⟨rfl,eb3⟩,⟨rfl,rfl,lv4⟩,(if_neg hs).symm⟩ f4 em
noncomputable def alH(A:Ad):Sp:=fun vs H Q _=>∃(x:KS)(n:Nat)(th w:Int),vs=[.ref x.k,.int th,.int w]/\Kp A H x/\Kh x n/\n<200/\0<=th/\th<1152921504606846976/\1<=w/\w<=1000000000000 /\
 ∀(x':KS)(H':Hp),Kp A H' x'->ST th w x x'->Far A x.pts H H'->Em H x x'->Q .non H'
theorem amx(T:Tx K mg A):bZ P w K mg base CX0 7 A.Zq A.oG Q2 (alH A):=by
 k_dat (T.F'30.ok,GQ) "a"
 ·obtain⟨x,n,th,w,rfl,_⟩:=h;rfl
 ·obtain⟨x,n,th,w,rfl,hK,hG,hn,th0,th1,w1,w2,q⟩:=h;have e64:(2:Int) ^ 64=18446744073709551616:=by decide
  have r2:=hG.r2;have r64:=hG.r64;have rr:=hG.rr;have lu:=uW hG.dn.g hG.dn.t hG.few;have su:=hG.dn.g.small;have hrm:=hG.dn.r;obtain ⟨W,okf⟩:=hG.wn.ok;refine ⟨_,(ao (aZ (eV (pf 0) T.fQ T.zu (amt T) tb_g% T.b'24 .nil aL (aj (pv 1) (aj (pv 2) aq))))
   (ao (aZ (eV (pf 0) T.bV T.HX (ok'8 T) tb_g% T.b'8 .nil aL (aj (pv 1) (aj (pv 2) aq))))
   (ao (aZ (eV (pf 0) T.dI T.Oc (ok'13 T) tb_g% T.b'13 .nil aL (aj aA aq)))
   (aC (cU (aN pZ (pv 1) (pf 0) (aM _)) (aC (aZ (eV (pf 0) T.jT T.M5 (ok'28 T) tb_g% T.b'28 .nil aL (aj (pv 1) (aj (pv 2) aq))))) bJ))))),?_⟩
  refine⟨_,rfl,rdF hK.o T.bW T.zc (Jp ..) ⟨x.wn.p,x.wn.dx,_,rfl,hK.wn.o,abI _ _ _ _ tb_g% tb_g% tb_g% tb_g%,_,rfl,_,rfl,x.wn.p,x.wn.dx,x.wn.d,x.room,x.wn.t,x.wn.l,th,w,x.wn.c,rfl,hK.wn.o,hK.wn.d,okf.nd,okf.pos,w1,by have:=okf.len;lia,fun d1 c1 cut H1 hd1 ft o1 e1 b1=>?_⟩⟩;have P1:=hK.pp.setW (f:=⟨x.wn.p,x.wn.dx,d1,x.wn.t+w,x.wn.l+cut,c1⟩) rfl b1 ⟨o1,e1⟩;have f1:Far A x.pts H H1:=Far.of (List.mem_of_getElem? (i:=1) rfl) hK.wn.o b1;refine⟨_,rfl,rdF (f1.pb _ _ hK.o hK.nk) T.bW T.zj (Jq ..) ⟨x.dn.p,x.dn.x.dx,_,rfl,P1.dn.o,rgN tb_g%,_,rfl,_,rfl,x.dn.p,x.dn.x.dx,x.dn.x.a,x.dn.x.bs,x.dn.x.r,x.dn.x.tt,x.dn.x.ov,x.dn.x.un,x.dn.x.tn,th,w,x.dn.x.mi,x.dn.x.ma,x.dn.x.ls,rfl,P1.dn,hG.dn.g.r2,hG.dn.g.r64,by lia,by rw[e64];lia,by lia,(hG.dn.le62 hG.rr).1,(hG.dn.le62 hG.rr).2,lu.2,fun a' bs' out tn' ov' un' H2 st rn b2 na2 nb2=>?_⟩⟩;have P2:=P1.setD (f:=⟨x.dn.p,⟨x.dn.x.dx,a',bs',x.dn.x.r,x.dn.x.tt+w,ov',un',tn',_,_,out⟩⟩) rfl b2 rn;have f2:=f1.trans (Far.of (A:=A) (ps:=x.pts) (List.mem_of_getElem? (i:=3) rfl) P1.dn.o b2);refine⟨_,rfl,rdF (f2.pb _ _ hK.o hK.nk) T.bW T.vU (uV ..) ⟨x.wi.p,x.wi.dx,_,rfl,P2.wi.o,Wf _ _ _ _ tb_g% tb_g% tb_g% tb_g%,x.wi.p,x.wi.dx,x.wi.l,x.room,x.reach,x.wi.c,1,x.wi.ps,rfl,P2.wi,by have:=hG.wl;lia,by lia,by lia,fun l3 ps3 H3 eb3 wn3 b3 nl3=>?_⟩⟩;have P3:=P2.setI (f:=⟨x.wi.p,x.wi.dx,l3,x.wi.c+1,ps3⟩) rfl b3 wn3;have f3:=f2.trans (Far.of (A:=A) (ps:=x.pts) (List.mem_of_getElem? (i:=4) rfl) P2.wi.o b3);have em:∀c∈x.up.x.a::a'::l3::x.di.l::(x.up.x.bs++bs'),c∈x.ems\/H c=none:=fun c m=>by
   unfold KS.ems;simp only[cO,dY]at m ⊢;rcases m with rfl|rfl|rfl|rfl|m|m
   ·exact .inl (.inl rfl)
   ·exact .inr (f1.none P1.live na2)
   ·exact .inr (f2.none P2.live nl3)
   ·exact .inl (.inr (.inr (.inr (.inl rfl))))
   ·exact .inl (.inr (.inr (.inr (.inr (.inl m)))))
   ·rcases nb2 c m with m|n
    ·exact .inl (.inr (.inr (.inr (.inr (.inr m)))))
    ·exact .inr (f1.none P1.live n)
  have o3:=f3.pb _ _ hK.o hK.nk;refine⟨_,rfl,_,rfl,rdF o3 T.bW T.tV (wj ..) ⟨_,_,rfl,rfl,_,rfl,fO (fun hs=>?_) (fun hs=>?_)⟩⟩
  ·have hs:th<x.span:=of_decide_eq_true hs;refine⟨_,rfl,rdF o3 T.bW T.tW (m5 ..) ⟨x.ba.p,x.ba.dx,_,rfl,P3.ba.o,amu _ _ tb_g% tb_g%,_,rfl,_,rfl,x.ba.p,x.ba.dx,x.ba.l,x.span,th,w,x.ba.q,rfl,P3.ba,th0,by rw[e64];lia,fun l5 H5 bn5 b5 nl5=>?_⟩⟩;have P5:=P3.setB (f:=⟨x.ba.p,x.ba.dx,l5,_⟩) rfl b5 bn5;have f5:=f3.trans (Far.of (A:=A) (ps:=x.pts) (List.mem_of_getElem? (i:=6) rfl) P3.ba.o b5);exact q _ H5 (P5.kp (f5.pb _ _ hK.o hK.nk) hK.nk) ⟨⟨rfl,rfl,rfl,rfl,rfl,rfl⟩,rfl,⟨cut,ft,rfl,rfl⟩,rfl,⟨rfl,rfl,rfl,rfl,st⟩,⟨rfl,eb3⟩,rfl,(if_pos hs).symm⟩ f5 em
  ·have hs:¬ th<x.span:=fun z=>hs (decide_eq_true z);exact q _ H3 (P3.kp o3 hK.nk) ⟨⟨rfl,rfl,rfl,rfl,rfl,rfl⟩,rfl,⟨cut,ft,rfl,rfl⟩,rfl,⟨rfl,rfl,rfl,rfl,st⟩,⟨rfl,eb3⟩,rfl,(if_neg hs).symm⟩ f3 em
open MK
structure Cs(H G:Hp)(k C dk:Addr)(fs:List (Str × V))(ps:List Addr):Prop where
 o:G k=some (.ins C dk fs)
 b:But k H G
 fr:∀p∈ps,H p=none
 lv:∀p∈ps,G p≠none
 nd:(k::ps).Nodup
structure Sta(k:Addr)(P:Hp->Prop):Prop where
 s:∀{G I:Hp},P G->Same G I->P I
 b:∀{G I:Hp}{C e:Addr} {fs:List (Str × V)},P G->But k G I->G k=some (.ins C e fs)->P I
theorem Sta.and{k:Addr}{P R:Hp->Prop}(a:Sta k P)(b:Sta k R):Sta k fun G=>P G/\R G:=⟨fun h s=>⟨a.s h.1 s,b.s h.2 s⟩,fun h s o=>⟨a.b h.1 s o,b.b h.2 s o⟩⟩
section
variable{I:Hp}{k C dk X:Addr}{fs fs':List (Str × V)}{ps:List Addr}
theorem Cs.s(n:G p=none)(m:G dx=none)(bt:But p (upd (upd G dx (.own p)) p (.ins X dx [])) I):Same G I:=fun b o e=>bt b o (by rw[aB (au e n),aB (au e m)];exact e) (au e n)
theorem Cs.free(h:Cs H G k C dk fs ps)(y:(upd (upd G dx (.own p)) p (.ins X dx [])) d=none):H d=none:=by
 have np:d≠p:=fun z=>by rw[z,ak]at y;cases y
 rw[aB np]at y;have nq:d≠dx:=fun z=>by rw[z,ak]at y;cases y
 rw[aB nq]at y;exact gh h.b y (aX (au h.o y))
theorem Cs.next{R:α->Hp->Prop}{σ:α}(h:Cs H G k C dk fs ps)(n:G p=none)(m:G dx=none)(bt:But p (upd (upd G dx (.own p)) p (.ins X dx [])) I)(lv:I p≠none)
  (q:∀J,Cs H J k C dk fs' (ps++[p])->p≠k->(∀{P:Hp->Prop},Sta k P->P I->P J)->(∀{P:Hp->Prop},Sta k P->P G->P J)->R σ J):R σ (upd I k (.ins C dk fs')):=by
 have s:=Cs.s n m bt;have o:=s _ _ h.o;have nk:p≠k:=aX (au h.o n);have u:But k I (upd I k (.ins C dk fs')):=But.upd;have np:p∉ps:=fun z=>h.lv p z n;have nd:=jJ.mp h.nd;refine q _ ⟨ak,(h.b.trans (s.but k)).trans u,fun b mb=>?_,fun b mb=>?_,jJ.mpr ⟨fun z=>?_,Ql.mpr ⟨nd.2,jJ.mpr ⟨iM,wB⟩,fun a ma b mb=>?_⟩⟩⟩ nk (fun S z=>S.b z u o) (fun S z=>S.b (S.s z s) u o)
 ·rcases dY.mp mb with z|z
  ·exact h.fr b z
  ·rw[cZ.mp z];exact gh h.b n nk
 ·rcases dY.mp mb with z|z
  ·rw[aB fun y=>nd.1 (by rw[<-y];exact z)];intro y;exact h.lv b z (s.free y)
  ·rw[cZ.mp z,aB nk];exact lv
 ·rcases dY.mp z with z|z
  ·exact nd.1 z
  ·exact nk (cZ.mp z).symm
 ·rw[cZ.mp mb];exact fun z=>np (by rw[<-z];exact ma)
end
noncomputable def alI(A:Ad):Sp:=fun vs H Q _=>∃(k dk:Addr)(room:Nat)(reach span:Int),vs=[.ref k,.int room,.int reach,.int span]/\H k=some (.ins A.iH dk [])/\2<=room/\room<=64/\room % 2=0 /\
 ∀(x:KS)(H':Hp),Kp A H' x->Eqp x (K0 room reach span)->x.k=k->(∀b∈x.pts,H b=none)->(∀b∈x.ems,H b=none)->But k H H'->Q .non H'
theorem pF.sta{f:Fq}{k:Addr}(n:f.p≠k):Sta k fun G=>pF A G room f:=⟨fun h s=>h.same s,fun h b o=>h.but b o n⟩
theorem RnX.sta{x:Rs}{k:Addr}(n:p≠k):Sta k fun G=>RnX A G p x:=⟨fun h s=>h.same s,fun h b o=>h.but b o n⟩
theorem abK(T:Tx K mg A):bZ P w K mg base CX0 3 A.Ur A.oH Q25 (alI A):=by
 k_dat (T.F'31.ok,GR) "a"
 ·obtain⟨k,dk,room,reach,span,rfl,_⟩:=h;rfl
 ·obtain ⟨k,dk,room,reach,span,rfl,hk,r2,r64,ev,q⟩:=h;refine ⟨_,(ao (aQ (pv 0) (pv 1) rfl)
   (ao (aQ (pv 0) (pv 2) rfl)
   (ao (aQ (pv 0) (pv 3) rfl)
   (ao (aQ (pv 0) (iz T.ajI (aj0 T) tb_g% rfl T.Ce T.b'20 .nil aL (aj (pv 1) aq)) rfl)
   (ao (aQ (pv 0) (iz T.ajI (aj0 T) tb_g% rfl T.Ce T.b'20 .nil aL (aj (pv 1) aq)) rfl)
   (ao (aQ (pv 0) (iz T.ajH (ok'7 T) tb_g% rfl T.Tn T.b'7 .nil aL (aj (pv 1) aq)) rfl)
   (ao (aQ (pv 0) (iz T.ajH (ok'7 T) tb_g% rfl T.Tn T.b'7 .nil aL (aj (pv 1) aq)) rfl)
   (ao (aQ (pv 0) (iz T.amf (amn T) tb_g% rfl T.V8 T.b'10 .nil aL (aj (pv 1) (aj (pv 2) aq))) rfl)
   (ao (aQ (pv 0) (iz T.amg (amo T) tb_g% rfl T.MN T.b'16 .nil aL (aj (pv 1) aq)) rfl)
   (aC (aQ (pv 0) (iz T.amh (amv T) tb_g% rfl T.PJ T.b'26 .nil aL (aj (pv 3) aq)) rfl))))))))))),?_⟩
  refine sq fun R hR=>⟨_,rfl,_,rfl,k,_,dk,[],rfl,hk,T.bW,T.yX,(by show 0<1000;decide),hR _ _ ?_⟩;refine sq fun R hR=>⟨_,rfl,_,rfl,k,_,dk,_,rfl,ak,T.bW,T.yZ,(by show 1<1000;decide),hR _ _ ?_⟩;refine sq fun R hR=>⟨_,rfl,_,rfl,k,_,dk,_,rfl,ak,T.bW,T.tV,(by show 2<1000;decide),?_⟩;rw[cQ,cQ];have C0:Cs H (upd H k (.ins A.iH dk (cF "span" (.int span) (cF "reach" (.int reach) (cF "room" (.int room) []))))) k A.iH dk _ []:=⟨ak,But.upd,(fun b m=>nomatch m),(fun b m=>nomatch m),jJ.mpr ⟨iM,wB⟩⟩;generalize upd H k (.ins A.iH dk (cF "span" (.int span) (cF "reach" (.int reach) (cF "room" (.int room) []))))=G at C0 ⊢;refine hR _ _ (sq fun R hR=>⟨_,rfl,fun p1 dx1 n m _=>⟨p1,dx1,(room:Int),rfl,ak,fun d1 I _ e g bt=>⟨rfl,_,rfl,k,_,dk,_,rfl,(Cs.s n m bt) _ _ C0.o,T.bW,T.za,(by show 3<1000;decide),C0.next n m bt (fun z=>by rw[e]at z;cases z) fun G1 C1 nk kI kG=>hR _ _ ?_⟩⟩⟩);have S:=pF.sta (A:=A) (room:=room) (f:=⟨p1,dx1,d1,0,0,[]⟩) nk;have F:=kI S ⟨e,g⟩;refine sq fun R hR=>⟨_,rfl,fun p2 dx2 n m _=>⟨p2,dx2,(room:Int),rfl,ak,fun d2 I _ e g bt=>⟨rfl,_,rfl,k,_,dk,_,rfl,(Cs.s n m bt) _ _ C1.o,T.bW,T.zc,(by show 4<1000;decide),C1.next n m bt (fun z=>by rw[e]at z;cases z) fun G2 C2 nk kI kG=>hR _ _ ?_⟩⟩⟩;have S':=pF.sta (A:=A) (room:=room) (f:=⟨p2,dx2,d2,0,0,[]⟩) nk;replace F:=And.intro (kG S F) (kI S' ⟨e,g⟩);replace S:=S.and S';refine sq fun R hR=>⟨_,rfl,fun p3 dx3 n m _=>⟨p3,dx3,(room:Int),rfl,ak,fun d3 I hd e g bt=>⟨rfl,_,rfl,k,_,dk,_,rfl,(Cs.s n m bt) _ _ C2.o,T.bW,T.zf,(by show 5<1000;decide),C2.next n m bt (fun z=>by rw[e]at z;cases z) fun G3 C3 nk kI kG=>hR _ _ ?_⟩⟩⟩;have v3:=C2.free hd;have S':=RnX.sta (A:=A) (x:=⟨dx3,d3,[],room,0,0,0,0,none,none,[]⟩) nk;replace F:=And.intro (kG S F) (kI S' (Rn.new e g));replace S:=S.and S';refine sq fun R hR=>⟨_,rfl,fun p4 dx4 n m _=>⟨p4,dx4,(room:Int),rfl,ak,fun d4 I hd e g bt=>⟨rfl,_,rfl,k,_,dk,_,rfl,(Cs.s n m bt) _ _ C3.o,T.bW,T.zj,(by show 6<1000;decide),C3.next n m bt (fun z=>by rw[e]at z;cases z) fun G4 C4 nk kI kG=>hR _ _ ?_⟩⟩⟩;have v4:=C3.free hd;have S':=RnX.sta (A:=A) (x:=⟨dx4,d4,[],room,0,0,0,0,none,none,[]⟩) nk;replace F:=And.intro (kG S F) (kI S' (Rn.new e g));replace S:=S.and S';refine sq fun R hR=>⟨_,rfl,_,rfl,fun p5 dx5 n m _=>⟨p5,dx5,(room:Int),reach,rfl,ak,fun d5 I hd e g bt=>⟨rfl,_,rfl,k,_,dk,_,rfl,(Cs.s n m bt) _ _ C4.o,T.bW,T.vU,(by show 7<1000;decide),C4.next n m bt (fun z=>by rw[e]at z;cases z) fun G5 C5 nk kI kG=>hR _ _ ?_⟩⟩⟩;have v5:=C4.free hd;have S':=(⟨fun h s=>h.same s,fun h b o=>h.but b o nk⟩:Sta k fun G=>Wn A G p5 dx5 d5 room reach 0 []);replace F:=And.intro (kG S F) (kI S' ⟨e,⟨g,fun _ h=>(nomatch h)⟩⟩);replace S:=S.and S';refine sq fun R hR=>⟨_,rfl,fun p6 dx6 n m _=>⟨p6,dx6,(room:Int),rfl,ak,fun d6 I hd e g bt=>⟨rfl,_,rfl,k,_,dk,_,rfl,(Cs.s n m bt) _ _ C5.o,T.bW,T.zm,(by show 8<1000;decide),C5.next n m bt (fun z=>by rw[e]at z;cases z) fun G6 C6 nk kI kG=>hR _ _ ?_⟩⟩⟩;have v6:=C5.free hd;have S':=(⟨fun h s=>h.same s,fun h b o=>h.but b o nk⟩:Sta k fun G=>Dn A G p6 dx6 d6 room 0 0 (srt (My.up 0 [])));replace F:=And.intro (kG S F) (kI S' ⟨e,by rw[show srt (My.up 0 [])=[]from z8.mp (gP _)];exact g⟩);replace S:=S.and S';refine⟨_,rfl,fun p7 dx7 n m _=>⟨p7,dx7,span,rfl,ak,fun d7 I _ e bt=>⟨rfl,_,rfl,k,_,dk,_,rfl,(Cs.s n m bt) _ _ C6.o,T.bW,T.tW,(by show 9<1000;decide),C6.next n m bt (fun z=>by rw[e.o]at z;cases z) fun G7 C7 nk kI kG=>?_⟩⟩⟩;have S':=(⟨fun h s=>h.same s,fun h b o=>h.but b o nk⟩:Sta k fun G=>Bn A G p7 dx7 d7 span eY);replace F:=And.intro (kG S F) (kI S' e);obtain⟨⟨⟨⟨⟨⟨F1,F2⟩,F3⟩,F4⟩,F5⟩,F6⟩,F7⟩:=F;have o7:=C7.o;rw[apj]at o7;refine q ⟨k,dk,room,reach,span,⟨p1,dx1,d1,0,0,[]⟩,⟨p2,dx2,d2,0,0,[]⟩,⟨p3,⟨dx3,d3,[],room,0,0,0,0,none,none,[]⟩⟩,⟨p4,⟨dx4,d4,[],room,0,0,0,0,none,none,[]⟩⟩,⟨p5,dx5,d5,0,[]⟩,⟨p6,dx6,d6,0,0,[]⟩,⟨p7,dx7,d7,eY⟩⟩ G7 ⟨o7,F1,F2,F3,F4,F5,F6,F7,C7.nd⟩
   ⟨rfl,rfl,rfl,⟨rfl,rfl,rfl⟩,⟨rfl,rfl,rfl⟩,⟨rfl,rfl,rfl,rfl,rfl,rfl,rfl,rfl⟩,⟨rfl,rfl,rfl,rfl,rfl,rfl,rfl,rfl⟩,⟨rfl,rfl⟩,⟨rfl,rfl,rfl⟩,rfl⟩ rfl C7.fr (fun b m=>?_) C7.b
  unfold KS.ems at m;simp only[cO,dY,iM,or_false]at m;rcases m with rfl|rfl|rfl|rfl;all_goals assumption
open MK
structure R3 where
 (kd th w:Int)
variable{rs ts ss:List R3}{r:R3}
structure R3.ok(r:R3):Prop where
 k0:0<=r.kd
 k2:r.kd<=2
 t0:0<=r.th
 t1:r.th<1152921504606846976
 w1:1<=r.w
 w2:r.w<=1000000000000
noncomputable def r3V(r:R3):HO:=.tup [.int r.kd,.int r.th,.int r.w]
noncomputable def SR(r:R3)(x x':KS):Prop:=if r.kd=0 then SP r.th r.w x x' else if r.kd=1 then ST r.th r.w x x' else SI r.w x x'
theorem SR.sb(h:SR r x x'):SB x x':=by
 unfold SR at h;split at h
 ·exact h.sb
 ·split at h
  ·exact h.sb
  ·exact h.sb
theorem Kh.row(h:Kh x n)(hn:n<200)(ok:r.ok)(s:SR r x x'):Kh x' (n+1):=by
 unfold SR at s;split at s
 ·exact h.put hn s ok.w1 ok.w2
 ·split at s
  ·exact h.take hn s ok.w1 ok.w2
  ·exact h.idle hn s
open MK
noncomputable def aj5(A:Ad):Sp:=fun vs H Q _=>∃(p dx d p' dx' d':Addr)(room:Nat)(t l t' l':Int)(c c':Tab),vs=[.ref p,.ref p']/\H p=some (.ins A.gB dx (fl room t l d))/\H d=some (.dK (emb c)) /\
 H p'=some (.ins A.gB dx' (fl room t' l' d'))/\H d'=some (.dK (emb c'))/\(keys c).Nodup/\(∀p∈c,1<=p.2)/\(∀p∈c',1<=p.2)/\(p8 c c').length<64/\c.length+c'.length<=900 /\
 ∀(x dxx e:Addr)(b:Tab)(cut:Int)(H':Hp),H x=none->H e=none->ou room (p8 c c') b cut->H' x=some (.ins A.gB dxx (fl room (t+t') (l+l'+cut) e))->H' e=some (.dK (emb b))->Same H H'->Q (.ref x) H'
theorem ad4{d:Tab}{p:Int × Int}(h:d[i]? = some p):p8 c (d.take (i+1))=put (p8 c (d.take i)) p.1 (low (p8 c (d.take i)) p.1+p.2):=by
 rw[take_snoc h,ado]
noncomputable def ad5(A:Ad):Sp:=fun vs H Q E=>aj5 A vs H Q E\/∃(p dx p' dx' d d':Addr)(r r' t l t' l':Int),vs=[.ref p,.ref p']/\H p=some (.ins A.gB dx (fl r t l d))/\H p'=some (.ins A.gB dx' (fl r' t' l' d'))/\r≠r'/\E (.ref A.Gj) none H
theorem amy(T:Tx K mg A):bZ P w K mg base (CXE P w) 3 A.ab6 A.rH Q1 (ad5 A):=by
 k_dat (T.F'32.okE,gK) "a"
 ·rcases h with⟨p,dx,d,p',dx',d',room,t,l,t',l',c,c',rfl,_⟩|⟨p,dx,p',dx',d,d',r,r',t,l,t',l',rfl,_⟩ <;> rfl
 ·skip
  refine ⟨_,(ao (cU (PT.nox (aN pY (pf 0) (pf 1) (aM _))) (aC (qg Kr T.jy rfl T.uL (aj dN aq))) bJ)
   (ao (PS.nox (psS 2 gK.nd (iz T.ajI (aj0 T) tb_g% rfl T.Ce T.b'20 .nil aL (aj (pf 0) aq))))
   (ao (PS.nox (aQ (pv 2) (aH bM (pf 0) (pf 1)) rfl))
   (ao (PS.nox (aQ (pv 2) (aH bM (pf 0) (pf 1)) rfl))
   (ao (PS.nox (psS 3 gK.nd (lg K7 (by rfl) T.aaz agc (aj (pf 0) aq))))
   (ao (PS.nox (abd jK rfl (pf 1) ⟨rfl,rfl⟩ (yC rfl (fK (pgN 4 gK.nd) (fK (pgN 5 gK.nd) rB))) (aC (yE (aH bM (K6 (aY hr) (pv 3) (pv 4) aA ⟨rfl,rfl,rfl,rfl⟩) (pv 5)) (yD (pv 3) (pv 4) (setG (aY hr)))))))
   (ao (PS.nox (aZ (eV (pv 2) T.fQ T.zq (ams T) tb_g% T.b'23 .nil aL (aj (pv 3) aq))))
   (aC (PS.nox (aW (pv 2))))))))))),?_⟩
  rcases h with⟨p,dx,d,p',dx',d',room,t,l,t',l',c,c',rfl,hp,hd,hp',hd',hn,pos,pos',h64,h900,q⟩|⟨p,dx,p',dx',d,d',r,r',t,l,t',l',rfl,hp,hp',hne,q⟩;rotate_left
  ·refine⟨_,rfl,rdF hp T.fQ T.qF (rW _ _ _ _) ⟨_,rfl,rdF hp' T.fQ T.qF (rW _ _ _ _) ⟨rfl,_,rfl,?_⟩⟩⟩;have e:(!decide (V.int r=V.int r'))=true:=by rw[decide_eq_false (fun z=>hne (V.int.inj z))];rfl
   rw[e];exact nO ⟨by show 1<=sizeLine;decide,q⟩
  refine⟨_,rfl,rdF hp T.fQ T.qF (rW _ _ _ _) ⟨_,rfl,rdF hp' T.fQ T.qF (rW _ _ _ _) ⟨rfl,_,rfl,yH rfl ?_⟩⟩⟩;refine⟨_,rfl,rdF hp T.fQ T.qF (rW _ _ _ _) fun x dxx nx ndx nex=>?_⟩;refine⟨x,dxx,_,rfl,ak,fun e0 H1 he0 e1 e2 bt=>⟨rfl,?_⟩⟩;have s0:Same H (upd (upd H dxx (.own x)) x (.ins A.gB dxx [])):=fun b o e=>by
   rw[aB (au e nx),aB (au e ndx)];exact e
  have s1:Same H H1:=fun b o e=>bt b o (s0 b o e) (au e nx);have nx1:∀b o,H b=some o->b≠x:=fun b o e=>au e nx;refine⟨_,rfl,rdF (s1 _ _ hp) T.fQ T.tQ (Ek _ _ _ _) ⟨_,rfl,rdF (s1 _ _ hp') T.fQ T.tQ (Ek _ _ _ _) ⟨_,_,rfl,rfl,_,rfl,x,_,dxx,_,rfl,e1,T.fQ,T.tQ,(by show 4<1000;decide),?_⟩⟩⟩;rw[T7];have k2:∀b o,H b=some o->∀u,(upd H1 x u) b=some o:=fun b o e u=>by rw[aB (nx1 b o e)];exact s1 _ _ e
  refine⟨_,rfl,rdF (k2 _ _ hp _) T.fQ T.tR (Jl _ _ _ _) ⟨_,rfl,rdF (k2 _ _ hp' _) T.fQ T.tR (Jl _ _ _ _) ⟨_,_,rfl,rfl,_,rfl,x,_,dxx,_,rfl,ak,T.fQ,T.tR,(by show 4<1000;decide),?_⟩⟩⟩;rw[T8,cQ];refine⟨_,rfl,rdF (k2 _ _ hp _) T.fQ T.yW (Hf _ _ _ _) ⟨d,emb c,rfl,.inl (k2 _ _ hd _),fun g hg=>?_⟩⟩;have ngx:x≠g:=fun z=>by rw[<-z,ak]at hg;cases hg
  have ng:∀b o,H b=some o->b≠g:=fun b o e z=>by rw[<-z,k2 _ _ e]at hg;cases hg
  have k3:∀b o,H b=some o->(upd (upd H1 x (.ins A.gB dxx (fl room (t+t') (l+l') e0))) g (.dK (emb c))) b=some o:=fun b o e=>by rw[aB (ng b o e)];exact k2 b o e _
  refine ⟨_,rfl,rdF (k3 _ _ hp') T.fQ T.yW (Hf _ _ _ _) ⟨d',emb c',rfl,k3 _ _ hd',fun o wm=>O6 (fun i σ H2=>∃ (y z:Option V),σ=[some (.ref p),some (.ref p'),some (.ref x),some (.ref g),y,z]/\H2 d'=some (.frz o (.dK (emb c')))/\H2 g=some (.dK (emb (p8 c (c'.take i))))/\H2 x=some (.ins A.gB dxx (fl room (t+t') (l+l') e0))/\(∀ b u,H b=some u->b≠d'->H2 b=some u))
   ⟨none,none,rfl,ak,?_,?_,fun b u e hb=>by rw [aB hb];exact k3 b u e⟩ (fun i σ H2 ⟨_,_,_,h,_⟩=>h) ?_ ?_⟩⟩
  ·rw[aB (aX (ng _ _ hd')),ak];rfl
  ·rw[aB (aX (nx1 _ _ hd')),aB ngx,ak]
  ·rintro i pp t2 σ H2 hi ⟨y,z,rfl,f1,f2,f3,f4⟩ ht;obtain⟨pr,hpr,rfl⟩:=aiI hi;have m1:∀b u,H2 b=some u->(upd H2 t2 (.tup [.int pr.1,.int pr.2])) b=some u:=fun b u e=>by rw[aB (au e ht)];exact e
   refine⟨t2,_,rfl,.inl (.inl ak),rfl,_,_,rfl,_,_,rfl,rfl,?_⟩;refine⟨_,rfl,g,rfl,.inl ⟨_,.inl (m1 _ _ f2)⟩,_,rfl,_,al7 (.inl (m1 _ _ f2)),?_⟩;rw[S8];have hz:(emb (p8 c (c'.take i))).length<sizeLine:=by
    rw[rD];have:=Dh (c'.take i) c;rw[iw]at this;exact bI tb_g%
   refine⟨_,rfl,_,_,rfl,rfl,_,rfl,_,rfl,Z0 (m1 _ _ f2) hz ?_⟩;rw[Dj,<-ad4 hpr];have ngd:d'≠g:=ng _ _ hd';exact⟨_,_,rfl,by rw[aB ngd];exact m1 _ _ f1,ak,by rw[aB ngx];exact m1 _ _ f3,fun b u e hb=>by rw[aB (ng b u e)];exact m1 _ _ (f4 b u e hb)⟩
  ·rintro σ H2 ⟨y,z,rfl,f1,f2,f3,f4⟩;rw[rD,m9]at f2;refine⟨d',emb c',o,wm,f1,?_⟩;have ngd:g≠d':=aX (ng _ _ hd');have nxd:x≠d':=aX (nx1 _ _ hd');have f2':(upd H2 d' (.dK (emb c'))) g=some (.dK (emb (p8 c c'))):=by rw[aB ngd];exact f2
   have f3':(upd H2 d' (.dK (emb c'))) x=some (.ins A.gB dxx (fl room (t+t') (l+l') e0)):=by rw[aB nxd];exact f3
   have f4':Same H (upd H2 d' (.dK (emb c'))):=fun b u e=>by
    by_cases hb:b=d'
    ·subst hb;rw[ak,<-e,hd']
    ·rw[aB hb];exact f4 b u e hb
   refine⟨_,rfl,x,dxx,_,rfl,f3',abI _ _ _ _ tb_g% tb_g% tb_g% tb_g%,_,rfl,x,dxx,g,e0,room,t+t',l+l',p8 c c',rfl,f3',f2',S7 _ hn,Lg _ pos pos',h64,fun e' b' cut H3 n3 fit g3 g4 bt3=>?_⟩;exact⟨_,rfl,q x dxx e' b' cut H3 nx (f4'.free n3) fit g3 g4 fun b u e=>bt3 b u (f4' b u e) (nx1 b u e)⟩
noncomputable def aj6:Sp:=fun vs H Q _=>∃(a:Addr)(bs:List Addr)(ls:RG.Ls)(i:Nat),vs=[.ref a,.int (i:Int)]/\LL H a bs ls/\∀(c:Addr)(H':Hp),H' c=some (.lst ((ls.getD i []).map V.int))->Same H H'->Q (.ref c) H'
theorem amz(T:Tx K mg A):bZ P w K mg base CX0 1 A.ab7 A.Py Q26 aj6:=by
 k_dat (T.F'33.ok,aaC) "a"
 ·obtain⟨a,bs,ls,i,rfl,_⟩:=h;rfl
 ·obtain⟨a,bs,ls,i,rfl,hL,q⟩:=h;refine⟨_,(aC (aW (CT (aN pZ (pv 1) (aO bA (by rfl) T.eF dZ (aj (pv 0) aq)) (aM _)) (bC (ixG (aY hr)) (pv 0) (pv 1) (fun _ _=>rfl)) (dG aq)))),?_⟩;refine⟨_,rfl,_,rfl,cX (.inl (.inl hL.o)) ⟨_,_,rfl,rfl,_,rfl,fO (fun h=>?_) (fun h=>?_)⟩⟩
  ·have hi:i<ls.length:=by
    have:=of_decide_eq_true h;rw[aV,hL.n]at this;lia
   obtain⟨b,l,eb,el,hb⟩:=hL.at hi;refine⟨_,rfl,_,rfl,cD (.inl (.inl hL.o)) (v:=.ref b) (LL.ix eb) (q b H ?_ (Same.refl _))⟩;rw[lZ,el];exact hb
  ·have hi:ls.length<=i:=by
    have:¬ (i:Int)<((bs.map V.ref).length:Int):=fun z=>h (decide_eq_true z);rw[aV,hL.n]at this;lia
   refine⟨by show 0<=sizeLine;decide,fun c hc=>q c _ ?_ (Same.new hc)⟩;rw[lZ,wX hi];exact ak
noncomputable def alJ(A:Ad):Sp:=fun vs H Q _=>∃(p dx a p' dx' a':Addr)(bs bs':List Addr)(r tt ov un tn tt' ov' un' tn':Int)(mi ma mi' ma':Option Int)(ls ls':RG.Ls),vs=[.ref p,.ref p']/\Rn A H p dx a bs r tt ov un tn mi ma ls/\Rn A H p' dx' a' bs' r tt' ov' un' tn' mi' ma' ls'/\2<=r/\r<=64/\ls.length<=400/\ls'.length<=400/\(∀k∈RG.join ls ls',k.length<=63)/\((∀k∈RG.join ls ls',k.length<=31)\/∀k∈RG.join ls ls',(k.length:Int)<=r)/\RG.val ls<2 ^ 400/\RG.val ls'<2 ^ 400 /\
 ∀(z dz g:Addr)(cs:List Addr)(out:RG.Ls)(tn2 ov2 un2:Int)(H':Hp),RG.Stl r 0 (tn+tn') (ov+ov') (un+un') (RG.join ls ls') out tn2 ov2 un2->Rn A H' z dz g cs r (tt+tt') ov2 un2 tn2 (lo2 mi mi') (hi2 ma ma') out->H z=none->H g=none->(∀c∈cs,H c=none)->Same H H'->Q (.ref z) H'
noncomputable def aj7(A:Ad):Sp:=fun vs H Q E=>alJ A vs H Q E\/∃(p dx a p' dx' a':Addr)(bs bs':List Addr)(r tt ov un tn r' tt' ov' un' tn':Int)(mi ma mi' ma':Option Int)(ls ls':RG.Ls),vs=[.ref p,.ref p']/\Rn A H p dx a bs r tt ov un tn mi ma ls/\Rn A H p' dx' a' bs' r' tt' ov' un' tn' mi' ma' ls'/\r≠r'/\E (.ref A.Gj) none H
theorem amA(T:Tx K mg A):bZ P w K mg base (CXE P w) 5 A.ab8 A.yQ Q1 (aj7 A):=by
 k_dat (T.F'34.okE,jW) "a"
 ·rcases h with⟨p,dx,a,p',dx',a',bs,bs',r,tt,ov,un,tn,tt',ov',un',tn',mi,ma,mi',ma',ls,ls',rfl,_⟩|⟨p,dx,a,p',dx',a',bs,bs',r,tt,ov,un,tn,r',tt',ov',un',tn',mi,ma,mi',ma',ls,ls',rfl,_⟩ <;> rfl
 ·skip
  refine ⟨_,(ao (cU (PT.nox (aN pY (pf 0) (pf 1) (aM _))) (aC (qg Kr T.jy rfl T.uL (aj dN aq))) bJ)
   (ao (PS.nox (psS 2 jW.nd (iz T.ajH (ok'7 T) tb_g% rfl T.Tn T.b'7 .nil aL (aj (pf 0) aq))))
   (ao (PS.nox (aQ (pv 2) (aH bM (pf 0) (pf 1)) rfl))
   (ao (PS.nox (aQ (pv 2) (aH bM (pf 0) (pf 1)) rfl))
   (ao (PS.nox (aQ (pv 2) (aH bM (pf 0) (pf 1)) rfl))
   (ao (PS.nox (aQ (pv 2) (aH bM (pf 0) (pf 1)) rfl))
   (ao (PS.nox (aQ (pv 2) (aD (ok'6 T) tb_g% T.F'6 aL (aj (pf 0) (aj (pf 1) aq))) rfl))
   (ao (PS.nox (aQ (pv 2) (aD (ok'5 T) tb_g% T.F'5 aL (aj (pf 0) (aj (pf 1) aq))) rfl))
   (ao (PS.nox (psS 3 jW.nd (dG aq)))
   (ao (PS.nox (j9 jK rfl (mO rfl T.vV (aj (aO (Ox rfl) (by rfl) T.abB agd (aj (aO bA (by rfl) T.eF dZ (aj (pf 0) aq)) (aj (aO bA (by rfl) T.eF dZ (aj (pf 1) aq)) aq))) aq)) (pgN 4 jW.nd) (aC (aZ (lG qT yd yg gF (pv 3) (aj (aO (o8 rfl) (by rfl) T.lQ Ku (aj (aH vG (aD (amz T) tb_g% T.F'33 aL (aj (pf 0) (aj (pv 4) aq))) (aD (amz T) tb_g% T.F'33 aL (aj (pf 1) (aj (pv 4) aq)))) aq)) aq))))))
   (ao (PS.nox (aZ (eV (pv 2) T.bV T.zp (ok'4 T) tb_g% T.b'4 .nil aL (aj (pv 3) aq))))
   (aC (PS.nox (aW (pv 2))))))))))))))),?_⟩
  rcases h with⟨p,dx,a,p',dx',a',bs,bs',r,tt,ov,un,tn,tt',ov',un',tn',mi,ma,mi',ma',ls,ls',rfl,hR,hS,r2,r64,l4,l4',jb,j6,v1,v2,q⟩|⟨p,dx,a,p',dx',a',bs,bs',r,tt,ov,un,tn,r',tt',ov',un',tn',mi,ma,mi',ma',ls,ls',rfl,hR,hS,hne,q⟩;rotate_left
  ·refine⟨_,rfl,rdF hR.o T.bV T.DK (zU ..) ⟨_,rfl,rdF hS.o T.bV T.DK (zU ..) ⟨rfl,_,rfl,?_⟩⟩⟩;have e:(!decide (V.int r=V.int r'))=true:=by rw[decide_eq_false (fun z=>hne (V.int.inj z))];rfl
   rw[e];exact nO ⟨by show 1<=sizeLine;decide,q⟩
  refine⟨_,rfl,rdF hR.o T.bV T.DK (zU ..) ⟨_,rfl,rdF hS.o T.bV T.DK (zU ..) ⟨rfl,_,rfl,yH rfl ?_⟩⟩⟩;refine⟨_,rfl,rdF hR.o T.bV T.DK (zU ..) fun z dz nz ndz nez=>?_⟩;refine⟨z,dz,_,rfl,ak,fun e0 H1 he0 o1 f1 bt=>⟨rfl,?_⟩⟩;have s1:Same H H1:=fun b o e=>bt b o (by rw[aB (au e nz),aB (au e ndz)];exact e) (au e nz);have k1:∀u:HO,Same H (upd H1 z u):=fun u b o e=>by rw[aB (au e nz)];exact s1 _ _ e
  have R1:=hR.same s1;have R2:=hS.same s1;refine⟨_,rfl,rdF R1.o T.bV T.wM (uP ..) ⟨_,rfl,rdF R2.o T.bV T.wM (uP ..) ⟨_,_,rfl,rfl,_,rfl,z,_,dz,_,rfl,o1,T.bV,T.wM,(by show 8<1000;decide),?_⟩⟩⟩;rw[vY];have R1:=hR.same (k1 (.ins A.cV dz (rg (.int r) (.int (tt+tt')) (.int 0) (.int 0) (.int 0) .non .non (.ref e0))));have R2:=hS.same (k1 (.ins A.cV dz (rg (.int r) (.int (tt+tt')) (.int 0) (.int 0) (.int 0) .non .non (.ref e0))));refine⟨_,rfl,rdF R1.o T.bV T.Aw (Jk ..) ⟨_,rfl,rdF R2.o T.bV T.Aw (Jk ..) ⟨_,_,rfl,rfl,_,rfl,z,_,dz,_,rfl,ak,T.bV,T.Aw,(by show 8<1000;decide),?_⟩⟩⟩;rw[zG];rw[cQ];have R1:=hR.same (k1 (.ins A.cV dz (rg (.int r) (.int (tt+tt')) (.int (ov+ov')) (.int 0) (.int 0) .non .non (.ref e0))));have R2:=hS.same (k1 (.ins A.cV dz (rg (.int r) (.int (tt+tt')) (.int (ov+ov')) (.int 0) (.int 0) .non .non (.ref e0))));refine⟨_,rfl,rdF R1.o T.bV T.Ax (Ed ..) ⟨_,rfl,rdF R2.o T.bV T.Ax (Ed ..) ⟨_,_,rfl,rfl,_,rfl,z,_,dz,_,rfl,ak,T.bV,T.Ax,(by show 8<1000;decide),?_⟩⟩⟩;rw[vZ];rw[cQ];have R1:=hR.same (k1 (.ins A.cV dz (rg (.int r) (.int (tt+tt')) (.int (ov+ov')) (.int (un+un')) (.int 0) .non .non (.ref e0))));have R2:=hS.same (k1 (.ins A.cV dz (rg (.int r) (.int (tt+tt')) (.int (ov+ov')) (.int (un+un')) (.int 0) .non .non (.ref e0))));refine⟨_,rfl,rdF R1.o T.bV T.qC (nR ..) ⟨_,rfl,rdF R2.o T.bV T.qC (nR ..) ⟨_,_,rfl,rfl,_,rfl,z,_,dz,_,rfl,ak,T.bV,T.qC,(by show 8<1000;decide),?_⟩⟩⟩;rw[pC];rw[cQ];have s2:=k1 (.ins A.cV dz (rg (.int r) (.int (tt+tt')) (.int (ov+ov')) (.int (un+un')) (.int (tn+tn')) .non .non (.ref e0)));have o2:(upd H1 z (.ins A.cV dz (rg (.int r) (.int (tt+tt')) (.int (ov+ov')) (.int (un+un')) (.int (tn+tn')) .non .non (.ref e0)))) z=_:=ak;have R1:=hR.same s2;have R2:=hS.same s2;generalize upd H1 z (.ins A.cV dz (rg (.int r) (.int (tt+tt')) (.int (ov+ov')) (.int (un+un')) (.int (tn+tn')) .non .non (.ref e0)))=H2 at s2 o2 R1 R2 ⊢;refine⟨_,rfl,rdF R1.o T.bV T.HS (Nj ..) ⟨_,rfl,rdF R2.o T.bV T.HS (Nj ..) ⟨mi,mi',rfl,fun H3 s3=>⟨_,rfl,z,_,dz,_,rfl,s3 _ _ o2,T.bV,T.HS,(by show 8<1000;decide),?_⟩⟩⟩⟩;rw[Ef];have s4:Same H (upd H3 z (.ins A.cV dz (rg (.int r) (.int (tt+tt')) (.int (ov+ov')) (.int (un+un')) (.int (tn+tn')) (oV (lo2 mi mi')) .non (.ref e0)))):=fun b o e=>by rw[aB (au e nz)];exact s3 _ _ (s2 b o e)
  have o4:(upd H3 z (.ins A.cV dz (rg (.int r) (.int (tt+tt')) (.int (ov+ov')) (.int (un+un')) (.int (tn+tn')) (oV (lo2 mi mi')) .non (.ref e0)))) z=_:=ak;have R1:=hR.same s4;have R2:=hS.same s4;generalize upd H3 z (.ins A.cV dz (rg (.int r) (.int (tt+tt')) (.int (ov+ov')) (.int (un+un')) (.int (tn+tn')) (oV (lo2 mi mi')) .non (.ref e0)))=H4 at s4 o4 R1 R2 ⊢;refine⟨_,rfl,rdF R1.o T.bV T.HW (TQ ..) ⟨_,rfl,rdF R2.o T.bV T.HW (TQ ..) ⟨ma,ma',rfl,fun H5 s5=>⟨_,rfl,z,_,dz,_,rfl,s5 _ _ o4,T.bV,T.HW,(by show 8<1000;decide),?_⟩⟩⟩⟩;rw[Ia];have s6:Same H (upd H5 z (.ins A.cV dz (rg (.int r) (.int (tt+tt')) (.int (ov+ov')) (.int (un+un')) (.int (tn+tn')) (oV (lo2 mi mi')) (oV (hi2 ma ma')) (.ref e0)))):=fun b o e=>by rw[aB (au e nz)];exact s5 _ _ (s4 b o e)
  have o6:(upd H5 z (.ins A.cV dz (rg (.int r) (.int (tt+tt')) (.int (ov+ov')) (.int (un+un')) (.int (tn+tn')) (oV (lo2 mi mi')) (oV (hi2 ma ma')) (.ref e0)))) z=_:=ak;generalize upd H5 z (.ins A.cV dz (rg (.int r) (.int (tt+tt')) (.int (ov+ov')) (.int (un+un')) (.int (tn+tn')) (oV (lo2 mi mi')) (oV (hi2 ma ma')) (.ref e0)))=H6 at s6 o6 ⊢;refine⟨by show 0<=sizeLine;decide,fun g hg=>?_⟩;have s7:Same H6 (upd H6 g (.lst [])):=Same.new hg;have f7:(upd H6 g (.lst [])) g=some (.lst []):=ak;have n7:H g=none:=s6.free hg;have zg:z≠g:=au o6 hg;generalize upd H6 g (.lst [])=H7 at s7 f7 ⊢;have s07:=s6.trans s7;have R1:=hR.same s07;have R2:=hS.same s07;have na:((bs.map V.ref).length:Int)=(ls.length:Int):=by rw[aV,hR.l.n]
  have nb:((bs'.map V.ref).length:Int)=(ls'.length:Int):=by rw[aV,hS.l.n]
  refine⟨_,rfl,rdF R1.o T.bV T.yV (uQ ..) (cX (.inl (.inl R1.l.o)) ⟨_,rfl,rdF R2.o T.bV T.yV (uQ ..) (cX (.inl (.inl R2.l.o)) ⟨_,_,rfl,?_⟩)⟩)⟩;rw[na,nb];have em:(if(ls'.length:Int)>(ls.length:Int)then(ls'.length:Int)else(ls.length:Int))=((max ls.length ls'.length:Nat):Int):=by split <;> lia
  rw[em];refine⟨_,rfl,by lia,by lia,?_⟩;refine pG (fun i σ G=>∃(cs:List Addr)(y:Option V),σ=[some (.ref p),some (.ref p'),some (.ref z),some (.ref g),y]/\LL G g cs (RG.wG i ls ls')/\Same H G/\G z=H6 z/\∀c∈cs,H c=none)
   ⟨[],none,rfl,⟨f7,rfl,fun i b l e=>by (cases i <;> cases e),fun z=>nomatch z⟩,s07,(s7 _ _ o6).trans o6.symm,fun _ h=>nomatch h⟩ ?_ ?_
  ·rintro i σ G hi ⟨cs,y,rfl,L,sG,gz,fr⟩;have hi':i<max ls.length ls'.length:=by lia
   have R1:=hR.same sG;have R2:=hS.same sG;have jl:(RG.jn ls ls' i).length<=63:=jb _ (by unfold RG.join RG.wG;exact jq.mpr ⟨i,xg.mpr hi',rfl⟩);rw[RG.Lr]at jl;refine⟨_,rfl,.inl ⟨rfl,_,.inl (.inl L.o)⟩,_,rfl,rdF R1.o T.bV T.yV (uQ ..) ⟨_,rfl,a,bs,ls,i,by rw[pO];rfl,R1.l,fun c1 G1 f1 t1=>?_⟩⟩;refine⟨_,rfl,rdF (R2.same t1).o T.bV T.yV (uQ ..) ⟨_,rfl,a',bs',ls',i,by rw[pO];rfl,(R2.same t1).l,fun c2 G2 f2 t2=>?_⟩⟩;refine⟨c1,c2,_,_,rfl,rfl,t2 _ _ f1,f2,qP (bI (by rw[aV,aV];lia)),fun c3 hc3=>?_⟩;rw[<-cM];have t3:Same G2 (upd G2 c3 (.lst ((ls.getD i []++ls'.getD i []).map V.int))):=Same.new hc3;have f3:(upd G2 c3 (.lst ((ls.getD i []++ls'.getD i []).map V.int))) c3=some (.lst ((ls.getD i []++ls'.getD i []).map V.int)):=ak;generalize upd G2 c3 (.lst ((ls.getD i []++ls'.getD i []).map V.int))=G3 at t3 f3 ⊢;refine .inr ⟨c3,_,rfl,.inl (.inl f3),by rw[fj];lia,fun c4 ns hc4 pm so=>?_⟩;obtain rfl:=RG.vL pm so;have t4:Same G3 (upd G3 c4 (.lst ((RG.srt (ls.getD i []++ls'.getD i [])).map V.int))):=Same.new hc4;have f4:(upd G3 c4 (.lst ((RG.srt (ls.getD i []++ls'.getD i [])).map V.int))) c4=some (.lst ((RG.srt (ls.getD i []++ls'.getD i [])).map V.int)):=ak;have t03:=t1.trans (t2.trans t3);have n4:c4≠g:=aX (au (t03 _ _ L.o) hc4);have N4:H c4=none:=(sG.trans t03).free hc4;have t04:=t03.trans t4;have L4:=L.same t04;have z4:=t04 _ _ (gz.trans o6);have s4:=sG.trans t04;generalize upd G3 c4 (.lst ((RG.srt (ls.getD i []++ls'.getD i [])).map V.int))=G4 at f4 L4 z4 s4 ⊢;refine⟨g,_,_,rfl,rfl,L4.o,bI (by rw[aV,L4.n,RG.zR];lia),?_⟩;have L5:=L4.app (m:=RG.jn ls ls' i) f4 n4;rw[<-RG.BR]at L5;refine⟨_,_,rfl,L5,fun b o e=>by rw[aB (au e n7)];exact s4 b o e,by rw[aB zg,o6];exact z4,fun c hc=>?_⟩;rcases dY.mp hc with y|y
   ·exact fr c y
   ·rw[cZ.mp y];exact N4
  ·rintro σ G ⟨cs,y,rfl,L,sG,gz,fr⟩;rw[Int.toNat_natCast]at L;rw[o6]at gz;have jv:RG.val (RG.join ls ls')<2 ^ 500:=by
    rw[RG.Vw];have:(2:Nat) ^ 400+2 ^ 400<2 ^ 500:=by decide
    lia
   refine ⟨_,rfl,z,dz,_,rfl,gz,rgN tb_g%,_,rfl,z,dz,g,cs,RG.join ls ls',r,tt+tt',ov+ov',un+un',tn+tn',lo2 mi mi',hi2 ma ma',.ref e0,rfl,gz,L,r2,r64,j6,by rw [RG.Lw];lia,jv,fun g2 bs2 out tn2 ov2 un2 G7 st ng2 L7 o7 b7 _ fr7=>?_⟩;have nz2:∀ c,G c=none->H c=none:=fun c n=>sG.free n;exact ⟨_,rfl,q z dz g2 bs2 out tn2 ov2 un2 G7 st ⟨o7,L7⟩ nz (nz2 _ ng2) (fun c hc=>by
    rcases fr7 c hc with y|y
    ·exact fr c y
    ·exact nz2 c y) fun b o e=>b7 b o (sG b o e) (au e nz)⟩
open MK
noncomputable def shift(c:Int)(b:WN.Box):WN.Box:=⟨b.f+c,b.l+c,b.s⟩
noncomputable def aaH(A:Ad):Sp:=fun vs H Q _=>∃(p dx l p' dx' l':Addr)(r k c c':Int)(ps ps':List Bp),vs=[.ref p,.ref p']/\Wn A H p dx l r k c ps/\Wn A H p' dx' l' r k c' ps'/\ps.length+ps'.length<=400/\0<=r/\r<=64 /\
 ∀(x dxx l2:Addr)(ps2:List Bp)(H':Hp),H x=none->H l2=none->bx ps2=lW r (c+c'-k) (bx ps++(bx ps').map (shift c))->Wn A H' x dxx l2 r k (c+c') ps2->Same H H'->Q (.ref x) H'
theorem aaI{c:Int}{p:Bp}(h:ps[i]? = some p):(bx (ps.take (i+1))).map (shift c)=(bx (ps.take i)).map (shift c)++[shift c p.2]:=by
 unfold bx;rw[qM,h,cM,cM];rfl
noncomputable def Wq(A:Ad):Sp:=fun vs H Q E=>aaH A vs H Q E\/∃(p dx l p' dx' l':Addr)(r k c r' k' c':Int)(ps ps':List Bp),vs=[.ref p,.ref p']/\Wn A H p dx l r k c ps/\Wn A H p' dx' l' r' k' c' ps'/\(r≠r'\/k≠k')/\E (.ref A.Gj) none H
theorem ok'35(T:Tx K mg A):bZ P w K mg base (CXE P w) 5 A.ab9 A.Mw Q1 (Wq A):=by
 k_dat (T.F'35.okE,zA) "a"
 ·rcases h with⟨p,dx,l,p',dx',l',r,k,c,c',ps,ps',rfl,_⟩|⟨p,dx,l,p',dx',l',r,k,c,r',k',c',ps,ps',rfl,_⟩ <;> rfl
 ·skip
  refine ⟨_,(ao (cU (PT.nox (PW.pt (pw_or (aN pY (pf 0) (pf 1) (aM _)) (pw_or1 (aN pY (pf 0) (pf 1) (aM _)))))) (aC (qg Kr T.jy rfl T.uL (aj dN aq))) bJ)
   (ao (PS.nox (psS 2 zA.nd (iz T.amf (amn T) tb_g% rfl T.V8 T.b'10 .nil aL (aj (pf 0) (aj (pf 0) aq)))))
   (ao (PS.nox (aQ (pv 2) (aH bM (pf 0) (pf 1)) rfl))
   (ao (PS.nox (mU (i:=3) (cl:=[("one",s.heap.objs.size+1)]) (N:=["box","one"]) (caps:=[0]) (tt:=_) (te:=(ail (CW (tOp _ (tOp (Dd K) _ _) (ZF K _ "clock")) (CW (tOp _ (tOp (Dd K) _ _) (ZF K _ "clock")) (CW (tOp (Dd K) _ _) ZL))))) zA.nd rfl (Or.inl rfl) rfl (by with_unfolding_all rfl) tb_g% rfl tb_g% ⟨rfl,trivial⟩ (iJ (by with_unfolding_all rfl)) tb_g% rfl rfl rfl (cG.at (k:=1) (show cG _ _ _ _ 1 [0] from ⟨⟨"one",_,rfl,rfl,.inl rfl,.inl rfl,rfl⟩,trivial⟩)) (gj (pf 1)) (fun _ _ _ _=>iC) (fun _ _ _ _=>(jL (aj (aH bM (bC (ixG (by exact aY hr)) (pv 0) aA (fun _ _=>rfl)) (pf 1)) (aj (aH bM (bC (ixG (by exact aY hr)) (pv 0) aA (fun _ _=>rfl)) (pf 1)) (aj (bC (ixG (by exact aY hr)) (pv 0) aA (fun _ _=>rfl)) aq)))))))
   (ao (PS.nox (aZ (eV (pv 2) T.dI T.oM (ajR T) tb_g% T.b'11 .nil aL (aj (aH vG (pf 0) (pv 3)) aq))))
   (aC (PS.nox (aW (pv 2))))))))),?_⟩
  rcases h with⟨p,dx,l,p',dx',l',r,k,c,c',ps,ps',rfl,hw,hw',h400,r0,r64,q⟩|⟨p,dx,l,p',dx',l',r,k,c,r',k',c',ps,ps',rfl,hw,hw',hd,q⟩;rotate_left
  ·refine⟨_,rfl,rdF hw.o T.dI T.DN (zW _ _ _ _) ⟨_,rfl,rdF hw'.o T.dI T.DN (zW _ _ _ _) ⟨rfl,_,rfl,fO (fun h=>?_) (fun h=>?_)⟩⟩⟩
   ·exact nO ⟨by show 1<=sizeLine;decide,q⟩
   ·have e:r=r':=by
     by_cases z:r=r'
     ·exact z
     ·exfalso;apply h;rw[decide_eq_false (fun y=>z (V.int.inj y))];rfl
    refine⟨_,rfl,rdF hw.o T.dI T.DQ (uR _ _ _ _) ⟨_,rfl,rdF hw'.o T.dI T.DQ (uR _ _ _ _) ⟨rfl,_,rfl,?_⟩⟩⟩;have hk:k≠k':=by rcases hd with z|z;exact absurd e z;exact z
    rw[decide_eq_false (fun y=>hk (V.int.inj y))];exact nO ⟨by show 1<=sizeLine;decide,q⟩
  refine⟨_,rfl,rdF hw.o T.dI T.DN (zW _ _ _ _) ⟨_,rfl,rdF hw'.o T.dI T.DN (zW _ _ _ _) ⟨rfl,_,rfl,yH rfl ?_⟩⟩⟩;refine⟨_,rfl,rdF hw.o T.dI T.DQ (uR _ _ _ _) ⟨_,rfl,rdF hw'.o T.dI T.DQ (uR _ _ _ _) ⟨rfl,_,rfl,yH rfl ?_⟩⟩⟩;refine⟨_,rfl,rdF hw.o T.dI T.DN (zW _ _ _ _) ⟨_,rfl,rdF hw.o T.dI T.DQ (uR _ _ _ _) fun x dxx nx ndx nex=>?_⟩⟩;refine⟨x,dxx,r,k,rfl,ak,fun d H1 hd e1 e2 bt1=>⟨rfl,?_⟩⟩;have s1:Same H H1:=fun b o e=>bt1 b o (by rw[aB (au e nx),aB (au e ndx)];exact e) (au e nx);refine⟨_,rfl,rdF (s1 _ _ hw.o) T.dI T.jM (lU _ _ _ _) ⟨_,rfl,rdF (s1 _ _ hw'.o) T.dI T.jM (lU _ _ _ _) ⟨_,_,rfl,rfl,_,rfl,x,_,dxx,_,rfl,e1,T.dI,T.jM,(by show 4<1000;decide),?_⟩⟩⟩;rw[pD];have s2:Same H (upd H1 x (.ins A.gY dxx (wf (.int r) (.int k) (.int (c+c')) (.ref d)))):=fun b o e=>by rw[aB (au e nx)];exact s1 b o e
  have o2:(upd H1 x (.ins A.gY dxx (wf (.int r) (.int k) (.int (c+c')) (.ref d)))) x=some (.ins A.gY dxx (wf (.int r) (.int k) (.int (c+c')) (.ref d))):=ak;generalize upd H1 x (.ins A.gY dxx (wf (.int r) (.int k) (.int (c+c')) (.ref d)))=H2 at s2 o2 ⊢;have w2:=hw.same s2;have w2':=hw'.same s2;refine⟨_,rfl,rdF w2'.o T.dI T.qD (uU _ _ _ _) ⟨l',rfl,⟨_,.inl (.inl w2'.b.l)⟩,fun D hD=>?_⟩⟩;refine jd (K:=K) (a:=l') (xs:=ps'.map fun p=>V.ref p.1) (fun i ys H3=>∃qs:List Bp,ys=qs.map (fun p=>V.ref p.1)/\bx qs=(bx (ps'.take i)).map (shift c)/\(∀p∈qs,H3 p.1=some (bt p.2))/\H3 D=some (.lst ys)/\Same H2 H3) ⟨[],rfl,rfl,(fun p m=>nomatch m),ak,Same.new hD⟩ ?_ ?_ ?_ ?_
  ·rintro i ys H3 hi ⟨qs,rfl,eq,tq,fD,s3⟩;refine⟨.inl (.inl (s3 _ _ w2'.b.l)),fD,bI ?_⟩;have:qs.length=(ps'.take i).length:=by rw[<-lV,eq,aV,lV]
   rw[aV,this,iw];lia
  ·rintro i ys H3 y hy ⟨qs,rfl,eq,tq,fD,s3⟩;obtain⟨z,hz,rfl⟩:=TY hy;have hzt:=s3 _ _ (w2'.b.t z (List.mem_of_getElem? hz));have w3:=w2.same s3;refine⟨_,rfl,jA (.inl (.inl hzt)) (v:=.int z.2.f) rfl ⟨_,rfl,rdF w3.o T.dI T.jM (lU _ _ _ _) ⟨_,_,rfl,rfl,?_⟩⟩⟩;refine⟨_,rfl,jA (.inl (.inl hzt)) (v:=.int z.2.l) rfl ⟨_,rfl,rdF w3.o T.dI T.jM (lU _ _ _ _) ⟨_,_,rfl,rfl,?_⟩⟩⟩;refine⟨_,rfl,jA (.inl (.inl hzt)) (v:=.int z.2.s) rfl ⟨(by show 3<=sizeLine;decide),fun t ht=>?_⟩⟩;have s4:Same H3 (upd H3 t (bt (shift c z.2))):=Same.new ht;have f4:(upd H3 t (bt (shift c z.2))) t=some (bt (shift c z.2)):=ak;show(upd H3 t (bt (shift c z.2))) D=_/\∃qs':List Bp,_;have nD:∀a b,H3 a=some (bt b)->a≠D:=fun a b e=>iY e fD (by intro z;cases z);refine⟨s4 _ _ fD,qs++[(t,shift c z.2)],by rw[cM];rfl,?_,fun p m=>?_,ak,fun b o e=>?_⟩
   ·rw[aaI hz,<-eq];unfold bx;rw[cM];rfl
   ·rcases dY.mp m with m|m
    ·have:=tq p m;rw[aB (nD _ _ this)];exact s4 _ _ this
    ·rw[cZ.mp m];have:t≠D:=aX (au fD ht);rw[aB this];exact f4
   ·rw[aB (au e hD)];exact s4 _ _ (s3 _ _ e)
  ·rintro ys H3 ⟨qs,rfl,eq,tq,fD,s3⟩;rw[aV,m9]at eq;have s03:=s2.trans s3;have lq:qs.length=ps'.length:=by rw[<-lV,eq,aV,lV]
   refine⟨_,rfl,x,dxx,_,rfl,s3 _ _ o2,Wf _ _ _ _ tb_g% tb_g% tb_g% tb_g%,?_⟩;refine⟨_,rfl,rdF (s03 _ _ hw.o) T.dI T.qD (uU _ _ _ _) ⟨_,rfl,l,D,_,_,rfl,rfl,s03 _ _ hw.b.l,fD,qP (bI (by rw[aV,aV];lia)),fun l4 hl4=>?_⟩⟩;have s4:Same H3 (upd H3 l4 (.lst ((ps.map fun p=>V.ref p.1)++(qs.map fun p=>V.ref p.1)))):=Same.new hl4;have b4:Bxs (upd H3 l4 (.lst ((ps.map fun p=>V.ref p.1)++(qs.map fun p=>V.ref p.1)))) l4 (ps++qs):=by
    refine⟨by rw[ak,cM],fun z m=>?_⟩;rcases dY.mp m with m|m
    ·exact s4 _ _ (s03 _ _ (hw.b.t z m))
    ·exact s4 _ _ (tq z m)
   generalize upd H3 l4 (.lst ((ps.map fun p=>V.ref p.1)++(qs.map fun p=>V.ref p.1)))=H4 at s4 b4 ⊢;refine⟨x,dxx,l4,d,r,k,c+c',_,rfl,s4 _ _ (s3 _ _ o2),b4,by rw[fj];lia,r0,r64,fun l5 ps5 H5 e5 w5 b5 n5=>?_⟩;have s04:=s03.trans s4;refine⟨_,rfl,q x dxx l5 ps5 H5 nx (s04.free n5) ?_ w5 fun b o e=>b5 b o (s04 _ _ e) (au e nx)⟩;rw[e5];congr 1;unfold bx at eq ⊢;rw[cM,eq]
  ·exact LR (jf (jG (pq (bL 0) (vM _)) (yM (bL 1))) (jf (jG (pq (bL 0) (vM _)) (yM (bL 1))) (jf (pq (bL 0) (vM _)) uG)))
noncomputable def ad6(A:Ad):Sp:=fun vs H Q _=>∃(p dx l p' dx' l':Addr)(s:Int)(q q':Q4),vs=[.ref p,.ref p']/\Bn A H p dx l s q/\Bn A H p' dx' l' s q'/\∀(x dxx l2:Addr)(H':Hp),H x=none->Bn A H' x dxx l2 s (addQ q q')->Same H H'->Q (.ref x) H'
noncomputable def aaJ(A:Ad):Sp:=fun vs H Q E=>ad6 A vs H Q E\/∃(p dx l p' dx' l':Addr)(s s':Int)(q q':Q4),vs=[.ref p,.ref p']/\Bn A H p dx l s q/\Bn A H p' dx' l' s' q'/\s≠s'/\E (.ref A.Gj) none H
theorem ok'36(T:Tx K mg A):bZ P w K mg base (CXE P w) 3 A.acd A.uI Q1 (aaJ A):=by
 k_dat (T.F'36.okE,rN) "a"
 ·rcases h with⟨p,dx,l,p',dx',l',s,q,q',rfl,_⟩|⟨p,dx,l,p',dx',l',s,s',q,q',rfl,_⟩ <;> rfl
 ·skip
  refine ⟨_,(ao (cU (PT.nox (aN pY (pf 0) (pf 1) (aM _))) (aC (qg Kr T.jy rfl T.uL (aj dN aq))) bJ)
   (ao (PS.nox (psS 2 rN.nd (iz T.amh (amv T) tb_g% rfl T.PJ T.b'26 .nil aL (aj (pf 0) aq))))
   (ao (PS.nox (aQ (pv 2) (VD (g:=(ac5 K 2 (yx (nM 0) (yx (nM 1) ac4)))) (k:=2) (cl:=[]) (N:=["first","second"]) (caps:=[]) (tt:=_) (te:=_) rfl (by with_unfolding_all rfl) tb_g% rfl tb_g% trivial (iJ (by with_unfolding_all rfl)) (fun _ _ _ _=>yC rfl (fK (rA (i:=0) (show (["first","second"]:List Str).Nodup by decide +kernel) rfl (Or.inl rfl)) (fK (rA (i:=1) (show (["first","second"]:List Str).Nodup by decide +kernel) rfl (Or.inl rfl)) rB))) rfl (cG.at (k:=2) (show cG _ _ _ _ 2 [] from trivial)) (aaq rfl T.V9 (aj (pf 0) (aj (pf 1) aq))) (fun _ _ _ _=>iC) (fun _ _ _ _=>(aH bM (pv 0) (pv 1)))) rfl))
   (aC (PS.nox (aW (pv 2))))))),?_⟩
  rcases h with⟨p,dx,l,p',dx',l',sp,q,q',rfl,hb,hb',k⟩|⟨p,dx,l,p',dx',l',sp,sp',q,q',rfl,hb,hb',hne,k⟩;rotate_left
  ·refine⟨_,rfl,rdF hb.o T.jT T.tU (wg _ _) ⟨_,rfl,rdF hb'.o T.jT T.tU (wg _ _) ⟨rfl,_,rfl,?_⟩⟩⟩;rw[decide_eq_false (fun z=>hne (V.int.inj z))];exact nO ⟨by show 1<=sizeLine;decide,k⟩
  refine⟨_,rfl,rdF hb.o T.jT T.tU (wg _ _) ⟨_,rfl,rdF hb'.o T.jT T.tU (wg _ _) ⟨rfl,_,rfl,yH rfl ?_⟩⟩⟩;refine⟨_,rfl,rdF hb.o T.jT T.tU (wg _ _) fun x dxx nx ndx nex=>?_⟩;refine⟨x,dxx,sp,rfl,ak,fun d H1 hd b1 bt1=>⟨rfl,?_⟩⟩;have s1:Same H H1:=fun b o e=>bt1 b o (by rw[aB (au e nx),aB (au e ndx)];exact e) (au e nx);refine⟨_,rfl,rdF (s1 _ _ hb.o) T.jT T.oK (El _ _) ⟨_,rfl,rdF (s1 _ _ hb'.o) T.jT T.oK (El _ _) ⟨l,l',_,_,rfl,s1 _ _ hb.l,s1 _ _ hb'.l,fun D hD=>?_⟩⟩⟩;refine Gy (xs:=(L4 q).map V.int) (ys:=(L4 q').map V.int) (fun i zs H2=>zs=((L4 (addQ q q')).take i).map V.int/\H2 D=some (.lst zs)/\Same H1 H2) ⟨rfl,ak,Same.new hD⟩ ?_ ?_ ?_ (BZ 0 1) ?_
  ·rintro i zs H2 ⟨rfl,f,s2⟩;exact⟨s2 _ _ (s1 _ _ hb.l),s2 _ _ (s1 _ _ hb'.l),f,bI (by rw[aV,iw];show min i 4<=1000;lia)⟩
  ·rintro i zs H2 u v t ws hu hv ⟨rfl,f,s2⟩ ht hw;obtain⟨w0,w1,rfl⟩:∃w0 w1,ws=[w0,w1]:=⟨_,_,aeg ws hw⟩;have s3:Same H2 (upd H2 t (.tup [u,v])):=Same.new ht;have keep:∀L b o,H1 b=some o->(upd (upd H2 t (.tup [u,v])) D L) b=some o:=fun L b o e=>by rw[aB (au e hD)];exact s3 _ _ (s2 _ _ e)
   refine⟨t,_,rfl,.inl (.inl ak),rfl,_,_,rfl,_,_,rfl,rfl,⟨[some u,some v],rfl,rfl⟩,?_⟩;rcases fM hu with⟨rfl,rfl⟩|⟨rfl,rfl⟩|⟨rfl,rfl⟩|⟨rfl,rfl⟩
   ·rcases fM hv with⟨_,rfl⟩|⟨h,_⟩|⟨h,_⟩|⟨h,_⟩
    ·exact⟨_,rfl,_,rfl,_,_,rfl,rfl,s3 _ _ f,rfl,ak,keep _⟩
    all_goals lia
   ·rcases fM hv with⟨h,_⟩|⟨_,rfl⟩|⟨h,_⟩|⟨h,_⟩
    ·lia
    ·exact⟨_,rfl,_,rfl,_,_,rfl,rfl,s3 _ _ f,rfl,ak,keep _⟩
    all_goals lia
   ·rcases fM hv with⟨h,_⟩|⟨h,_⟩|⟨_,rfl⟩|⟨h,_⟩
    ·lia
    ·lia
    ·exact⟨_,rfl,_,rfl,_,_,rfl,rfl,s3 _ _ f,rfl,ak,keep _⟩
    ·lia
   ·rcases fM hv with⟨h,_⟩|⟨h,_⟩|⟨h,_⟩|⟨_,rfl⟩
    ·lia
    ·lia
    ·lia
    ·exact⟨_,rfl,_,rfl,_,_,rfl,rfl,s3 _ _ f,rfl,ak,keep _⟩
  ·rintro zs H2 ⟨rfl,f,s2⟩;refine⟨_,rfl,x,_,dxx,_,rfl,s2 _ _ b1.o,T.jT,T.oK,(by show 2<1000;decide),?_⟩;rw[rY];have npl:D≠x:=aX (au b1.o hD);refine⟨_,rfl,k x dxx D _ nx ⟨ak,by rw[aB npl];exact f⟩ fun b o e=>?_⟩;rw[aB (au e nx)];exact s2 _ _ (s1 _ _ e)
  ·exact jG (bL 0) (bL 1)
open MK
noncomputable def un(C D:List Int):List Int:=Sx.dd (C++D)
theorem aaK{z:Int}:z∈un C D↔z∈C\/z∈D:=by unfold un;rw[Sx.aiP,dY]
theorem amB(C D:List Int):(un C D).Nodup:=Sx.Vp _
theorem apq(C D:List Int):(un C D).length<=C.length+D.length:=by have:=Sx.Td (C++D);rw[fj]at this;exact this
theorem aj8(h:C.Nodup):(up v C).Nodup:=h.filter _
theorem aj9(nd:C.Nodup)(h:∀z∈C,z∈D):(up v C).length<=(up v D).length:=
 (aj8 nd).length_le_of_subset fun z m=>qI.mpr ⟨h z (qI.mp m).1,(qI.mp m).2⟩
theorem alK{k:Int}(h:C.Nodup):(came C k).Nodup:=Sx.O9 h
noncomputable def alL(A:Ad):Sp:=fun vs H Q _=>∃(p dx l p' dx' l':Addr)(r n v n' v':Int)(C D:List Int),vs=[.ref p,.ref p']/\Dn A H p dx l r n v (srt (up v C))/\Dn A H p' dx' l' r n' v' (srt (up v' D))/\zH r v C/\zH r v' D/\C.Nodup/\D.Nodup/\0<=r/\r<=15 /\
 ∀(x dxx l2:Addr)(w:Int)(H':Hp),H x=none->H l2=none->zH r w (un C D)->Dn A H' x dxx l2 r (n+n') w (srt (up w (un C D)))->Same H H'->Q (.ref x) H'
noncomputable def akb(A:Ad):Sp:=fun vs H Q E=>alL A vs H Q E\/∃(p dx l p' dx' l':Addr)(r n v r' n' v':Int)(ks ms:List Int),vs=[.ref p,.ref p']/\Dn A H p dx l r n v ks/\Dn A H p' dx' l' r' n' v' ms/\r≠r'/\E (.ref A.Gj) none H
theorem ok'37(T:Tx K mg A):bZ P w K mg base (CXE P w) 5 A.ace A.rJ Q1 (akb A):=by
 k_dat (T.F'37.okE,qG) "a"
 ·rcases h with⟨p,dx,l,p',dx',l',r,n,v,n',v',C,D,rfl,_⟩|⟨p,dx,l,p',dx',l',r,n,v,r',n',v',ks,ms,rfl,_⟩ <;> rfl
 ·skip
  refine ⟨_,(ao (cU (PT.nox (aN pY (pf 0) (pf 1) (aM _))) (aC (qg Kr T.jy rfl T.uL (aj dN aq))) bJ)
   (ao (PS.nox (psS 2 qG.nd (iz T.amg (amo T) tb_g% rfl T.MN T.b'16 .nil aL (aj (pf 0) aq))))
   (ao (PS.nox (aQ (pv 2) (aH bM (pf 0) (pf 1)) rfl))
   (ao (PS.nox (aQ (pv 2) (aO (Ox rfl) (by rfl) T.abB agd (aj (pf 0) (aj (pf 1) aq))) rfl))
   (ao (PS.nox (aZ (eV (pv 2) T.dM T.rM (amr T) tb_g% T.b'18 .nil aL (aj (aD (amq T) tb_g% T.F'17 aL (aj (aO (aah rfl) (by rfl) T.lQ Ku (aj (lg (adA rfl) (by rfl) T.n_set amV (aj (aH vG (pf 0) (pf 1)) aq)) aq)) (aj (pf 2) aq))) aq))))
   (aC (PS.nox (aW (pv 2))))))))),?_⟩
  rcases h with⟨p,dx,l,p',dx',l',r,n,v,n',v',C,D,rfl,h1,h2,L1,L2',nC,nD,r0,r4,q⟩|⟨p,dx,l,p',dx',l',r,n,v,r',n',v',ks,ms,rfl,h1,h2,hd,q⟩;rotate_left
  ·refine⟨_,rfl,rdF h1.o T.dM T.tM (v8 ..) ⟨_,rfl,rdF h2.o T.dM T.tM (v8 ..) ⟨rfl,_,rfl,?_⟩⟩⟩;rw[decide_eq_false (fun y=>hd (V.int.inj y))];exact nO ⟨by show 1<=sizeLine;decide,q⟩
  refine⟨_,rfl,rdF h1.o T.dM T.tM (v8 ..) ⟨_,rfl,rdF h2.o T.dM T.tM (v8 ..) ⟨rfl,_,rfl,yH rfl ?_⟩⟩⟩;refine⟨_,rfl,rdF h1.o T.dM T.tM (v8 ..) fun x dxx nx ndx nex=>?_⟩;refine⟨x,dxx,r,rfl,L2.ak,fun d H1 hd e1 e2 bt1=>⟨rfl,?_⟩⟩;have s1:Same H H1:=fun b o e=>bt1 b o (by rw[aB (au e nx),aB (au e ndx)];exact e) (au e nx);have v0:=L1.1;have v0':=L2'.1;have v61:=L1.le r0;have v61':=L2'.le r0;refine⟨_,rfl,rdF (s1 _ _ h1.o) T.dM T.tO (rQ ..) ⟨_,rfl,rdF (s1 _ _ h2.o) T.dM T.tO (rQ ..) ⟨_,_,rfl,rfl,_,rfl,x,_,dxx,_,rfl,e1,T.dM,T.tO,(by show 4<1000;decide),?_⟩⟩⟩;rw[oN];have s2:Same H (upd H1 x (.ins A.gR dxx (df (.int r) (.int (n+n')) (.int 0) (.ref d)))):=fun b o e=>by rw[aB (au e nx)];exact s1 b o e
  have o2:(upd H1 x (.ins A.gR dxx (df (.int r) (.int (n+n')) (.int 0) (.ref d)))) x=some (.ins A.gR dxx (df (.int r) (.int (n+n')) (.int 0) (.ref d))):=L2.ak;generalize upd H1 x (.ins A.gR dxx (df (.int r) (.int (n+n')) (.int 0) (.ref d)))=H2 at s2 o2 ⊢;refine⟨_,rfl,rdF (s2 _ _ h1.o) T.dM T.lO (lX ..) ⟨_,rfl,rdF (s2 _ _ h2.o) T.dM T.lO (lX ..) ⟨_,_,rfl,_,rfl,x,_,dxx,_,rfl,o2,T.dM,T.lO,(by show 4<1000;decide),?_⟩⟩⟩;rw[v9];have hm:v<=(if v'>v then v' else v)/\v'<=(if v'>v then v' else v)/\(if v'>v then v' else v)<=61/\((if v'>v then v' else v)=v\/(if v'>v then v' else v)=v'):=by split <;> lia
  generalize (if v'>v then v' else v)=m at hm ⊢;obtain⟨m1,m2,m61,me⟩:=hm;have s3:Same H (upd H2 x (.ins A.gR dxx (df (.int r) (.int (n+n')) (.int m) (.ref d)))):=fun b o e=>by rw[aB (au e nx)];exact s2 b o e
  have o3:(upd H2 x (.ins A.gR dxx (df (.int r) (.int (n+n')) (.int m) (.ref d)))) x=some (.ins A.gR dxx (df (.int r) (.int (n+n')) (.int m) (.ref d))):=L2.ak;generalize upd H2 x (.ins A.gR dxx (df (.int r) (.int (n+n')) (.int m) (.ref d)))=H3 at s3 o3 ⊢;have k1:(srt (up v C)).length<=15:=by have:=L1.2.1;rw[gP];lia
  have k2:(srt (up v' D)).length<=15:=by have:=L2'.2.1;rw[gP];lia
  have k3:=Sx.Td (srt (up v C)++srt (up v' D));rw[fj]at k3;refine⟨_,rfl,x,dxx,_,rfl,o3,ajW _ _ _ _ tb_g% tb_g% tb_g% tb_g%,?_⟩;refine⟨_,rfl,rdF (s3 _ _ h1.o) T.dM T.mW (rR ..) ⟨_,rfl,rdF (s3 _ _ h2.o) T.dM T.mW (rR ..) ⟨l,l',_,_,rfl,rfl,s3 _ _ h1.l,s3 _ _ h2.l,qP (bI (by rw[aV,aV];lia)),fun l4 hl4=>?_⟩⟩⟩;rw[<-cM];have s4:=s3.trans (Same.new (o:=.lst ((srt (up v C)++srt (up v' D)).map V.int)) hl4);have o4:=(Same.new (o:=.lst ((srt (up v C)++srt (up v' D)).map V.int)) hl4) _ _ o3;have f4:(upd H3 l4 (.lst ((srt (up v C)++srt (up v' D)).map V.int))) l4=some (.lst ((srt (up v C)++srt (up v' D)).map V.int)):=L2.ak;generalize upd H3 l4 (.lst ((srt (up v C)++srt (up v' D)).map V.int))=H4 at s4 o4 f4 ⊢;refine⟨l4,_,rfl,.inl (.inl f4),by rw[fj];lia,fun sa hsa=>⟨sa,_,rfl,L2.ak,by lia,fun l5 ns hl5 pm so=>?_⟩⟩;obtain rfl:ns=srt (Sx.dd (srt (up v C)++srt (up v' D))):=vL pm so;have t5:=(Same.new hsa).trans (Same.new (o:=.lst ((srt (Sx.dd (srt (up v C)++srt (up v' D)))).map V.int)) hl5);generalize hH5:upd (upd H4 sa _) l5 (.lst ((srt (Sx.dd (srt (up v C)++srt (up v' D)))).map V.int))=H5 at t5 ⊢;have f5:H5 l5=some (.lst ((srt (Sx.dd (srt (up v C)++srt (up v' D)))).map V.int)):=by rw[<-hH5];exact L2.ak
  have s5:=s4.trans t5;have o5:=t5 _ _ o4;have ln:(srt (Sx.dd (srt (up v C)++srt (up v' D)))).length<=63:=by
   rw[gP];have:=Sx.Td (srt (up v C)++srt (up v' D));rw[fj]at this;lia
  refine⟨_,rfl,rdF o5 T.dM T.lO (lX ..) ⟨l5,m,_,rfl,f5,by lia,fun l6 H6 nl6 g6 s6=>?_⟩⟩;have o6:=s6 _ _ o5;have nS:(srt (Sx.dd (srt (up v C)++srt (up v' D)))).Nodup:=(iZ _).nodup_iff.mpr (Sx.Vp _);have ks:∀w,m<=w->(up w (up m (srt (Sx.dd (srt (up v C)++srt (up v' D)))))).Perm (up w (un C D)):=fun w hw=>by
   rw[abE hw];refine(List.perm_ext_iff_of_nodup (aj8 nS) (aj8 (amB C D))).mpr fun z=>?_;rw[qI,qI,rE,Sx.aiP,dY,rE,rE,qI,qI,aaK];constructor
   ·rintro⟨a|a,b⟩
    ·exact⟨.inl a.1,b⟩
    ·exact⟨.inr a.1,b⟩
   ·rintro⟨a|a,b⟩
    ·exact⟨.inl ⟨a,by lia⟩,b⟩
    ·exact⟨.inr ⟨a,by lia⟩,b⟩
  have lu:(up m (srt (Sx.dd (srt (up v C)++srt (up v' D))))).length<=63:=eN (Jv _ _) ln;refine⟨x,dxx,l6,d,r,n+n',m,_,rfl,o6,g6,by lia,r0,by lia,m61,fun z hz=>(qI.mp hz).2,fun l7 w H7 lv dn bt nl7=>⟨_,rfl,?_⟩⟩;have s06:=s5.trans s6;have lw:=lv.1;refine q x dxx l7 w H7 nx (s06.free nl7) ⟨by lia,?_,fun u u0 uw=>?_⟩ ?_ fun b o e=>bt b o (s06 _ _ e) (au e nx)
  ·rw[<-(ks w lw).length_eq];exact lv.2.1
  ·rcases(show u<m\/m<=u by lia)with z|z
   ·rcases me with e|e
    ·have:=L1.2.2 u u0 tb_g%;have:=aj9 (v:=u) nC (D:=un C D) fun z m=>aaK.mpr (.inl m);lia
    ·have:=L2'.2.2 u u0 tb_g%;have:=aj9 (v:=u) nD (D:=un C D) fun z m=>aaK.mpr (.inr m);lia
   ·rw[<-(ks u z).length_eq];exact lv.2.2 u z uw
  ·rw[aaF,Qc (ks w lw)]at dn;exact dn
open MK
noncomputable def FP(room:Nat)(f g h:Fq):Prop:=∃cut,ou room (p8 f.c g.c) h.c cut/\h.t=f.t+g.t/\h.l=f.l+g.l+cut
structure RP(f g h:Rs):Prop where
 r:h.r=f.r
 tt:h.tt=f.tt+g.tt
 mi:h.mi=lo2 f.mi g.mi
 ma:h.ma=hi2 f.ma g.ma
 st:RG.Stl f.r 0 (f.tn+g.tn) (f.ov+g.ov) (f.un+g.un) (RG.join f.ls g.ls) h.ls h.tn h.ov h.un
noncomputable def WP(room:Nat)(reach:Int)(f g h:Wi):Prop:=h.c=f.c+g.c/\bx h.ps=lW room (f.c+g.c-reach) (bx f.ps++(bx g.ps).map (shift f.c))
noncomputable def DP(room:Nat)(f g h:Di):Prop:=h.n=f.n+g.n/\h.C=un f.C g.C/\zH room h.v (un f.C g.C)
structure KP(x y z:KS):Prop where
 room:z.room=x.room
 reach:z.reach=x.reach
 span:z.span=x.span
 cm:FP x.room x.cm y.cm z.cm
 wn:FP x.room x.wn y.wn z.wn
 up:RP x.up.x y.up.x z.up.x
 dn:RP x.dn.x y.dn.x z.dn.x
 wi:WP x.room x.reach x.wi y.wi z.wi
 di:DP x.room x.di y.di z.di
 ba:z.ba.q=addQ x.ba.q y.ba.q
structure Alk(x y:KS)(n m:Nat):Prop where
 room:y.room=x.room
 reach:y.reach=x.reach
 span:y.span=x.span
 kx:Kh x n
 ky:Kh y m
 few:n+m<=200
 nx:x.di.C.Nodup
 ny:y.di.C.Nodup
theorem KP.kh{m:Nat}(h:KP x y z)(a:Alk x y n m):Kh z (n+m):=by
 have gf:∀{f g k:Fq},FP x.room f g k->Gf x.room f n->Gf y.room g m->Gf z.room k (n+m):=fun {f g k} ⟨cut,ft,e1,e2⟩ ⟨⟨W,o1⟩,t1⟩ ⟨⟨V,o2⟩,t2⟩=>by
  rw[a.room]at o2;rw[h.room];exact⟨⟨_,by rw[e1,e2];exact(o1.aiG o2).fit ft⟩,by rw[e1];lia⟩
 have gr:∀{f g k:Rs},RP f g k->Gr x.room f n->Gr y.room g m->Gr z.room k (n+m):=fun {f g k} p g1 g2=>by
  have e:g.r=f.r:=by rw[g1.r,g2.r,a.room]
  have h2:=g2.g;rw[e]at h2;refine⟨by rw[p.r,g1.r,h.room],by rw[p.r,p.tt];exact g1.g.aiG h2 p.st,?_⟩;have:=g1.t;have:=g2.t;rw[p.tt];lia
 have l1:=a.kx.wl;have l2:=a.ky.wl;have l3:=a.kx.dc;have l4:=a.ky.dc;refine⟨by rw[h.room];exact a.kx.r2,by rw[h.room];exact a.kx.r64,by rw[h.room];exact a.kx.rr,gf h.cm a.kx.cm a.ky.cm,gf h.wn a.kx.wn a.ky.wn,gr h.up a.kx.up a.ky.up,gr h.dn a.kx.dn a.ky.dn,?_,by rw[h.room,h.di.2.1];exact h.di.2.2,?_,a.few⟩
 ·have:=Wo x.room (x.wi.c+y.wi.c-x.reach) (bx x.wi.ps++(bx y.wi.ps).map (shift x.wi.c));rw[<-h.wi.2,lV,fj,aV,lV,lV]at this;lia
 ·have:=apq x.di.C y.di.C;rw[h.di.2.1];lia
theorem Alk.jb{m:Nat}(a:Alk x y n m){f g:Rs}(g1:Gr x.room f n)(g2:Gr y.room g m):(∀k∈RG.join f.ls g.ls,k.length<=63)/\((∀k∈RG.join f.ls g.ls,k.length<=31)\/∀k∈RG.join f.ls g.ls,(k.length:Int)<=f.r):=by
 have e1:=g1.r;have e2:=g2.r;have e3:=a.room;have z:=a.kx.rr;have jl:=RG.Vy (P:=fun k=>k.length<=30) (l:=f.ls) (m:=g.ls) fun i=>by
  rw[RG.Lr];have e1:=RG.Vx (P:=fun k=>k.length<=15) (fun k hk=>by have:=g1.g.sm k hk;lia) (eO _) i;have e2:=RG.Vx (P:=fun k=>k.length<=15) (fun k hk=>by have:=g2.g.sm k hk;lia) (eO _) i;lia
 exact⟨fun k hk=>by have:=jl k hk;lia,.inl fun k hk=>by have:=jl k hk;lia⟩
theorem apr{L:List Addr}{y:Addr}:∀{i:Nat},L.Nodup->y∉L->(L.set i y).Nodup:=by
 induction L with
 |nil=>intro i h _;exact h
 |cons a r ih =>
  intro i h n;obtain⟨h1,h2⟩:=jJ.mp h;have n1:y≠a:=fun z=>n (by rw[z];exact dO);have n2:y∉r:=fun z=>n (fX _ z);cases i with
  |zero=>exact jJ.mpr ⟨n2,h2⟩
  |succ i =>
   refine jJ.mpr ⟨fun m=>?_,ih h2 n2⟩;rcases wz m with z|z
   ·exact h1 z
   ·exact n1 z.symm
theorem Kp.fresh(h:Kp A G x)(n:G p=none):p∉x.all:=by
 intro m;unfold KS.all at m;simp only[cO,iM,or_false]at m;rcases m with rfl|rfl|rfl|rfl|rfl|rfl|rfl|rfl
 ·rw[h.o]at n;cases n
 ·rw[h.cm.o]at n;cases n
 ·rw[h.wn.o]at n;cases n
 ·rw[h.up.o]at n;cases n
 ·rw[h.dn.o]at n;cases n
 ·rw[h.wi.o]at n;cases n
 ·rw[h.di.o]at n;cases n
 ·rw[h.ba.o]at n;cases n
structure Frm(A:Ad)(G J:Hp)(x:KS)(p:Addr):Prop where
 b:But x.k G J
 o:∃C e fs,G x.k=some (.ins C e fs)
 nk:p≠x.k
 nd:∀i,(x.all.set i p).Nodup
 cm:pF A J x.room x.cm
 wn:pF A J x.room x.wn
 up:RnX A J x.up.p x.up.x
 dn:RnX A J x.dn.p x.dn.x
 wi:Wn A J x.wi.p x.wi.dx x.wi.l x.room x.reach x.wi.c x.wi.ps
 di:Dn A J x.di.p x.di.dx x.di.l x.room x.di.n x.di.v (srt (My.up x.di.v x.di.C))
 ba:Bn A J x.ba.p x.ba.dx x.ba.l x.span x.ba.q
noncomputable abbrev kz(k dk:Addr)(x:KS)(f1 f2:Fq)(f3 f4:Ru)(f5:Wi)(f6:Di)(f7:Ba):KS:=⟨k,dk,x.room,x.reach,x.span,f1,f2,f3,f4,f5,f6,f7⟩
theorem Kp.step{G1:Hp}{z':KS}{fs:List (Str × V)}{R:St->Hp->Prop}(h:Kp A G z)(sG:Same H G)(vk:H z.k=none)(s:Same G G1)(n:G p=none)
  (hz:∀J,Frm A G1 J z p->J z.k=some (.ins A.iH z.dk fs)->Kp A J z') (q:∀J,Kp A J z'->Same H J->H p=none->R σ J):R σ (upd G1 z.k (.ins A.iH z.dk fs)):=by
 have a:=h.ap;have o:=s _ _ h.o;have b:L2.But z.k G1 (L2.upd G1 z.k (.ins A.iH z.dk fs)):=But.upd;exact q _ (hz _ ⟨b,⟨_,_,_,o⟩,aX (au h.o n),fun i=>apr h.nd (h.fresh n),(h.cm.same s).but b o (aX a.k1),(h.wn.same s).but b o (aX a.k2),(h.up.same s).but b o (aX a.k3),(h.dn.same s).but b o (aX a.k4),(h.wi.same s).but b o (aX a.k5),(h.di.same s).but b o (aX a.k6),(h.ba.same s).but b o (aX a.k7)⟩ ak) (fun b o e=>by rw[aB (au e vk)];exact(sG.trans s) b o e) (sG.free n)
open MK
noncomputable def alM(A:Ad):Sp:=fun vs H Q _=>∃x:KS,vs=[.ref x.k]/\Kp A H x/\2<=x.room/\x.room<=64/\x.room % 2=0/\∀(y:KS)(H':Hp),Kp A H' y->Eqp y (K0 x.room x.reach x.span)->(∀b∈y.all,H b=none)->Same H H'->Q (.ref y.k) H'
theorem ok'38(T:Tx K mg A):bZ P w K mg base CX0 5 A.acf A.Dv ["keepsake"] (alM A):=by
 k_dat (T.F'38.ok,Oj) "a"
 ·obtain⟨x,rfl,_⟩:=h;rfl
 ·obtain⟨x,rfl,hK,r2,r64,ev,q⟩:=h;refine⟨_,(aC (aW (iz T.abz (abK T) tb_g% rfl T.vR T.b'31 .nil aL (aj (pf 0) (aj (pf 0) (aj (pf 0) aq)))))),?_⟩;refine⟨_,rfl,rdF hK.o T.bW T.yX (En ..) ⟨_,rfl,rdF hK.o T.bW T.yZ (zJ ..) ⟨_,rfl,rdF hK.o T.bW T.tV (wj ..) ?_⟩⟩⟩;refine fun k dk n1 n2 n3=>⟨k,dk,x.room,x.reach,x.span,rfl,ak,r2,r64,ev,fun y H2 kp eqy ek T9 _ bt=>⟨rfl,?_⟩⟩;have up2:Same H (upd (upd H dk (.own k)) k (.ins A.iH dk [])):=fun b o e=>by rw[aB (au e n1),aB (au e n2)];exact e
  rw [<- ek];exact q y H2 kp eqy (fun b m=>by
   rcases cO.mp (show b∈y.k::y.pts from m)with z|z
   ·rw[z,ek];exact n1
   ·exact up2.free (T9 b z)) fun b o e=>bt b o (up2 b o e) (au e n1)
noncomputable def alN(A:Ad):Sp:=fun vs H Q _=>∃(x y:KS)(n m:Nat),vs=[.ref x.k,.ref y.k]/\Kp A H x/\Kp A H y/\Alk x y n m/\∀(z:KS)(H':Hp),Kp A H' z->KP x y z->(∀b∈z.all,H b=none)->(∀b∈z.ems,H b=none)->Same H H'->Q (.ref z.k) H'
noncomputable def Ko(A:Ad)(H:Hp)(x:KS):Prop:=H x.k=some (.ins A.iH x.dk (kf (.int x.room) (.int x.reach) (.int x.span) (.ref x.cm.p) (.ref x.wn.p) (.ref x.up.p) (.ref x.dn.p) (.ref x.wi.p) (.ref x.di.p) (.ref x.ba.p)))
noncomputable def akc(A:Ad):Sp:=fun vs H Q E=>alN A vs H Q E\/∃x y:KS,vs=[.ref x.k,.ref y.k]/\Ko A H x/\Ko A H y/\(x.room≠y.room\/x.reach≠y.reach\/x.span≠y.span)/\E (.ref A.Gj) none H
theorem amC(T:Tx K mg A):bZ P w K mg base (CXE P w) 6 A.acg A.V5 Q1 (akc A):=by
 k_dat (T.F'39.okE,Qa) "a"
 ·rcases h with⟨x,y,n,m,rfl,_⟩|⟨x,y,rfl,_⟩ <;> rfl
 ·skip
  refine ⟨_,(ao (cU (PT.nox (PW.pt (pw_or (aN pY (pf 0) (pf 1) (aM _)) (pw_or (aN pY (pf 0) (pf 1) (aM _)) (pw_or1 (aN pY (pf 0) (pf 1) (aM _))))))) (aC (qg Kr T.jy rfl T.uL (aj dN aq))) bJ)
   (ao (PS.nox (psS 2 Qa.nd (aD (ok'38 T) tb_g% T.F'38 aL (aj (pv 0) aq))))
   (ao (PS.nox (aQ (pv 2) (aD (amy T) tb_g% T.F'32 tD (aj (pf 0) (aj (pf 1) aq))) rfl))
   (ao (PS.nox (aQ (pv 2) (aD (amy T) tb_g% T.F'32 tD (aj (pf 0) (aj (pf 1) aq))) rfl))
   (ao (PS.nox (aQ (pv 2) (aD (amA T) tb_g% T.F'34 tD (aj (pf 0) (aj (pf 1) aq))) rfl))
   (ao (PS.nox (aQ (pv 2) (aD (amA T) tb_g% T.F'34 tD (aj (pf 0) (aj (pf 1) aq))) rfl))
   (ao (PS.nox (aQ (pv 2) (aD (ok'35 T) tb_g% T.F'35 tD (aj (pf 0) (aj (pf 1) aq))) rfl))
   (ao (PS.nox (aQ (pv 2) (aD (ok'37 T) tb_g% T.F'37 tD (aj (pf 0) (aj (pf 1) aq))) rfl))
   (ao (PS.nox (aQ (pv 2) (aD (ok'36 T) tb_g% T.F'36 tD (aj (pf 0) (aj (pf 1) aq))) rfl))
   (aC (PS.nox (aW (pv 2))))))))))))),?_⟩
  rcases h with⟨x,y,n,m,rfl,hX,hY,al,q⟩|⟨x,y,rfl,hX,hY,hd,q⟩;rotate_left
  ·skip
   refine⟨_,rfl,rdF hX T.bW T.yX (En ..) ⟨_,rfl,rdF hY T.bW T.yX (En ..) ⟨rfl,_,rfl,fO (fun h=>nO ⟨by show 1<=sizeLine;decide,q⟩) (fun h1=>?_)⟩⟩⟩;refine⟨_,rfl,rdF hX T.bW T.yZ (zJ ..) ⟨_,rfl,rdF hY T.bW T.yZ (zJ ..) ⟨rfl,_,rfl,fO (fun h=>nO ⟨by show 1<=sizeLine;decide,q⟩) (fun h2=>?_)⟩⟩⟩;refine⟨_,rfl,rdF hX T.bW T.tV (wj ..) ⟨_,rfl,rdF hY T.bW T.tV (wj ..) ⟨rfl,_,rfl,?_⟩⟩⟩;have no:∀{a b:Int},¬ (!decide (V.int a=V.int b))=true->a=b:=fun {a b} h=>by
    by_cases z:a=b
    ·exact z
    ·exfalso;apply h;rw[decide_eq_false (fun y=>z (V.int.inj y))];rfl
   have e1:=no h1;have e2:=no h2;have hs:x.span≠y.span:=by
    rcases hd with z|z|z
    ·exact absurd (aog e1) z
    ·exact absurd e2 z
    ·exact z
   rw[decide_eq_false (fun y=>hs (V.int.inj y))];exact nO ⟨by show 1<=sizeLine;decide,q⟩
  refine⟨_,rfl,rdF hX.o T.bW T.yX (En ..) ⟨_,rfl,rdF hY.o T.bW T.yX (En ..) ⟨rfl,_,rfl,yH (by rw[al.room]) ?_⟩⟩⟩;refine⟨_,rfl,rdF hX.o T.bW T.yZ (zJ ..) ⟨_,rfl,rdF hY.o T.bW T.yZ (zJ ..) ⟨rfl,_,rfl,yH (by rw[al.reach]) ?_⟩⟩⟩;refine⟨_,rfl,rdF hX.o T.bW T.tV (wj ..) ⟨_,rfl,rdF hY.o T.bW T.tV (wj ..) ⟨rfl,_,rfl,yH (by rw[al.span]) ?_⟩⟩⟩;have r2:=al.kx.r2;have r64:=al.kx.r64;have rr:=al.kx.rr;have ev:x.room % 2=0:=by have:=al.kx.up.g.ev;have:=al.kx.up.r;lia
  dsimp only[alY];refine sq fun R hR=>?_;refine⟨_,rfl,x,rfl,hX,r2,r64,ev,fun z0 H1 kp0 eq0 fr0 s0=>?_⟩;obtain⟨k,dk,r0,rc,sp,c1,c2,u1,u2,w5,d6,b7⟩:=z0;obtain rfl:r0=x.room:=eq0.room;obtain rfl:rc=x.reach:=eq0.reach;obtain rfl:sp=x.span:=eq0.span;have vk:H k=none:=fr0 k (dO ..);have kG:=kp0;have sG:=s0;have X:=hX.same sG;have Y:=hY.same sG;clear kp0 s0 eq0 fr0;obtain⟨W1,ok1⟩:=al.kx.cm.ok;obtain⟨W2,ok2⟩:=al.ky.cm.ok;obtain⟨W3,ok3⟩:=al.kx.wn.ok;obtain⟨W4,ok4⟩:=al.ky.wn.ok;have yr:=al.room;have er1:y.up.x.r=x.up.x.r:=by rw[al.kx.up.r,al.ky.up.r,al.room]
  have er2:y.dn.x.r=x.dn.x.r:=by rw[al.kx.dn.r,al.ky.dn.r,al.room]
  refine hR _ _ (sq fun R hR=>?_);refine⟨_,rfl,rdF X.o T.bW T.za (Jo ..) ⟨_,rfl,rdF Y.o T.bW T.za (Jo ..) (.inl ⟨x.cm.p,x.cm.dx,x.cm.d,y.cm.p,y.cm.dx,y.cm.d,x.room,x.cm.t,x.cm.l,y.cm.t,y.cm.l,x.cm.c,y.cm.c,rfl,X.cm.o,X.cm.d,(by rw[<-al.room];exact Y.cm.o),Y.cm.d,ok1.nd,ok1.pos,ok2.pos,by have:=Dh y.cm.c x.cm.c;have:=ok1.len;have:=ok2.len;lia,by have:=ok1.len;have:=ok2.len;lia,fun p dx d b cut G1 np ne ft o1 o2 s1=>?_⟩)⟩⟩;obtain⟨f1,rfl,F1,D1⟩:∃f:Fq,f.p=p/\pF A G1 x.room f/\FP x.room x.cm y.cm f:=⟨⟨p,dx,d,_,_,b⟩,rfl,⟨o1,o2⟩,cut,ft,rfl,rfl⟩;refine⟨_,rfl,k,_,dk,_,rfl,s1 _ _ kG.o,T.bW,T.za,(by show 10<1000;decide),kG.step (z':=kz k dk x f1 c2 u1 u2 w5 d6 b7) sG vk s1 np (fun J F o=>⟨by rw[Wj]at o;exact o,(let ⟨_,_,_,g⟩:=F.o;F1.but F.b g F.nk),F.wn,F.up,F.dn,F.wi,F.di,F.ba,F.nd 1⟩) fun J1 K2 sG2 v1=>hR _ _ ?_⟩;clear kG sG s1 np;have kG:=K2;have sG:=sG2;have X:=hX.same sG;have Y:=hY.same sG;clear K2 sG2;refine(sq fun R hR=>?_);refine⟨_,rfl,rdF X.o T.bW T.zc (Jp ..) ⟨_,rfl,rdF Y.o T.bW T.zc (Jp ..) (.inl ⟨x.wn.p,x.wn.dx,x.wn.d,y.wn.p,y.wn.dx,y.wn.d,x.room,x.wn.t,x.wn.l,y.wn.t,y.wn.l,x.wn.c,y.wn.c,rfl,X.wn.o,X.wn.d,(by rw[<-al.room];exact Y.wn.o),Y.wn.d,ok3.nd,ok3.pos,ok4.pos,by have:=Dh y.wn.c x.wn.c;have:=ok3.len;have:=ok4.len;lia,by have:=ok3.len;have:=ok4.len;lia,fun p dx d b cut G1 np ne ft o1 o2 s1=>?_⟩)⟩⟩;obtain⟨f2,rfl,F2,D2⟩:∃f:Fq,f.p=p/\pF A G1 x.room f/\FP x.room x.wn y.wn f:=⟨⟨p,dx,d,_,_,b⟩,rfl,⟨o1,o2⟩,cut,ft,rfl,rfl⟩;refine⟨_,rfl,k,_,dk,_,rfl,s1 _ _ kG.o,T.bW,T.zc,(by show 10<1000;decide),kG.step (z':=kz k dk x f1 f2 u1 u2 w5 d6 b7) sG vk s1 np (fun J F o=>⟨by rw[Wk]at o;exact o,F.cm,(let ⟨_,_,_,g⟩:=F.o;F2.but F.b g F.nk),F.up,F.dn,F.wi,F.di,F.ba,F.nd 2⟩) fun J2 K2 sG2 v2=>hR _ _ ?_⟩;clear kG sG s1 np;have kG:=K2;have sG:=sG2;have X:=hX.same sG;have Y:=hY.same sG;clear K2 sG2;have L1:=uW al.kx.up.g al.kx.up.t al.kx.few;have L2':=uW al.ky.up.g al.ky.up.t al.ky.few;refine sq fun R hR=>?_;refine⟨_,rfl,rdF X.o T.bW T.zf (abJ ..) ⟨_,rfl,rdF Y.o T.bW T.zf (abJ ..) (.inl ⟨x.up.p,x.up.x.dx,x.up.x.a,y.up.p,y.up.x.dx,y.up.x.a,x.up.x.bs,y.up.x.bs,x.up.x.r,x.up.x.tt,x.up.x.ov,x.up.x.un,x.up.x.tn,y.up.x.tt,y.up.x.ov,y.up.x.un,y.up.x.tn,x.up.x.mi,x.up.x.ma,y.up.x.mi,y.up.x.ma,x.up.x.ls,y.up.x.ls,rfl,X.up,(by rw[<-er1];exact Y.up),al.kx.up.g.r2,al.kx.up.g.r64,by have:=L1.1;lia,by have:=L2'.1;lia,(al.jb al.kx.up al.ky.up).1,(al.jb al.kx.up al.ky.up).2,L1.2,L2'.2,fun p dx d bs2 out tn2 ov2 un2 G1 st rn np nd2 nc2 s1=>?_⟩)⟩⟩;obtain⟨f3,rfl,F3,D3,g3⟩:∃f:Ru,f.p=p/\RnX A G1 f.p f.x/\RP x.up.x y.up.x f.x/\H f.x.a=none/\∀c∈f.x.bs,H c=none:=⟨⟨p,⟨dx,d,bs2,_,_,ov2,un2,tn2,_,_,out⟩⟩,rfl,rn,⟨rfl,rfl,rfl,rfl,st⟩,sG.free nd2,fun c m=>sG.free (nc2 c m)⟩;refine⟨_,rfl,k,_,dk,_,rfl,s1 _ _ kG.o,T.bW,T.zf,(by show 10<1000;decide),kG.step (z':=kz k dk x f1 f2 f3 u2 w5 d6 b7) sG vk s1 np (fun J F o=>⟨by rw[ad2]at o;exact o,F.cm,F.wn,(let ⟨_,_,_,g⟩:=F.o;F3.but F.b g F.nk),F.dn,F.wi,F.di,F.ba,F.nd 3⟩) fun J3 K2 sG2 v3=>hR _ _ ?_⟩;clear kG sG s1 np;have kG:=K2;have sG:=sG2;have X:=hX.same sG;have Y:=hY.same sG;clear K2 sG2;have L1:=uW al.kx.dn.g al.kx.dn.t al.kx.few;have L2':=uW al.ky.dn.g al.ky.dn.t al.ky.few;refine sq fun R hR=>?_;refine⟨_,rfl,rdF X.o T.bW T.zj (Jq ..) ⟨_,rfl,rdF Y.o T.bW T.zj (Jq ..) (.inl ⟨x.dn.p,x.dn.x.dx,x.dn.x.a,y.dn.p,y.dn.x.dx,y.dn.x.a,x.dn.x.bs,y.dn.x.bs,x.dn.x.r,x.dn.x.tt,x.dn.x.ov,x.dn.x.un,x.dn.x.tn,y.dn.x.tt,y.dn.x.ov,y.dn.x.un,y.dn.x.tn,x.dn.x.mi,x.dn.x.ma,y.dn.x.mi,y.dn.x.ma,x.dn.x.ls,y.dn.x.ls,rfl,X.dn,(by rw[<-er2];exact Y.dn),al.kx.dn.g.r2,al.kx.dn.g.r64,by have:=L1.1;lia,by have:=L2'.1;lia,(al.jb al.kx.dn al.ky.dn).1,(al.jb al.kx.dn al.ky.dn).2,L1.2,L2'.2,fun p dx d bs2 out tn2 ov2 un2 G1 st rn np nd2 nc2 s1=>?_⟩)⟩⟩;obtain⟨f4,rfl,F4,D4,g4⟩:∃f:Ru,f.p=p/\RnX A G1 f.p f.x/\RP x.dn.x y.dn.x f.x/\H f.x.a=none/\∀c∈f.x.bs,H c=none:=⟨⟨p,⟨dx,d,bs2,_,_,ov2,un2,tn2,_,_,out⟩⟩,rfl,rn,⟨rfl,rfl,rfl,rfl,st⟩,sG.free nd2,fun c m=>sG.free (nc2 c m)⟩;refine⟨_,rfl,k,_,dk,_,rfl,s1 _ _ kG.o,T.bW,T.zj,(by show 10<1000;decide),kG.step (z':=kz k dk x f1 f2 f3 f4 w5 d6 b7) sG vk s1 np (fun J F o=>⟨by rw[Wl]at o;exact o,F.cm,F.wn,F.up,(let ⟨_,_,_,g⟩:=F.o;F4.but F.b g F.nk),F.wi,F.di,F.ba,F.nd 4⟩) fun J4 K2 sG2 v4=>hR _ _ ?_⟩;clear kG sG s1 np;have kG:=K2;have sG:=sG2;have X:=hX.same sG;have Y:=hY.same sG;clear K2 sG2;refine sq fun R hR=>?_;refine⟨_,rfl,rdF X.o T.bW T.vU (uV ..) ⟨_,rfl,rdF Y.o T.bW T.vU (uV ..) (.inl ⟨x.wi.p,x.wi.dx,x.wi.l,y.wi.p,y.wi.dx,y.wi.l,x.room,x.reach,x.wi.c,y.wi.c,x.wi.ps,y.wi.ps,rfl,X.wi,(by rw[<-al.room,<-al.reach];exact Y.wi),by have:=al.kx.wl;have:=al.ky.wl;have:=al.few;lia,by lia,by lia,fun p5 dx5 d5 ps5 G1 np nd5 eb5 wn5 s1=>?_⟩)⟩⟩;have vd5:=sG.free nd5;refine⟨_,rfl,k,_,dk,_,rfl,s1 _ _ kG.o,T.bW,T.vU,(by show 10<1000;decide),kG.step (z':=kz k dk x f1 f2 f3 f4 ⟨p5,dx5,d5,x.wi.c+y.wi.c,ps5⟩ d6 b7) sG vk s1 np (fun J F o=>⟨by rw[Oo]at o;exact o,F.cm,F.wn,F.up,F.dn,(let ⟨_,_,_,g⟩:=F.o;wn5.but F.b g F.nk),F.di,F.ba,F.nd 5⟩) fun J5 K2 sG2 v5=>hR _ _ ?_⟩;clear kG sG s1 np;have kG:=K2;have sG:=sG2;have X:=hX.same sG;have Y:=hY.same sG;clear K2 sG2;refine sq fun R hR=>?_;refine⟨_,rfl,rdF X.o T.bW T.zm (Jr ..) ⟨_,rfl,rdF Y.o T.bW T.zm (Jr ..) (.inl ⟨x.di.p,x.di.dx,x.di.l,y.di.p,y.di.dx,y.di.l,x.room,x.di.n,x.di.v,y.di.n,y.di.v,x.di.C,y.di.C,rfl,X.di,(by rw[<-al.room];exact Y.di),al.kx.dl,(by rw[<-al.room];exact al.ky.dl),al.nx,al.ny,by lia,by lia,fun p6 dx6 l6 v6' G1 np nd6 ls6 dn6 s1=>?_⟩)⟩⟩;have vl6:=sG.free nd6;refine⟨_,rfl,k,_,dk,_,rfl,s1 _ _ kG.o,T.bW,T.zm,(by show 10<1000;decide),kG.step (z':=kz k dk x f1 f2 f3 f4 ⟨p5,dx5,d5,x.wi.c+y.wi.c,ps5⟩ ⟨p6,dx6,l6,x.di.n+y.di.n,v6',un x.di.C y.di.C⟩ b7) sG vk s1 np (fun J F o=>⟨by rw[Wm]at o;exact o,F.cm,F.wn,F.up,F.dn,F.wi,(let ⟨_,_,_,g⟩:=F.o;dn6.but F.b g F.nk),F.ba,F.nd 6⟩) fun J6 K2 sG2 v6=>hR _ _ ?_⟩;clear kG sG s1 np;have kG:=K2;have sG:=sG2;have X:=hX.same sG;have Y:=hY.same sG;clear K2 sG2;refine sq fun R hR=>?_;refine⟨_,rfl,rdF X.o T.bW T.tW (m5 ..) ⟨_,rfl,rdF Y.o T.bW T.tW (m5 ..) (.inl ⟨x.ba.p,x.ba.dx,x.ba.l,y.ba.p,y.ba.dx,y.ba.l,x.span,x.ba.q,y.ba.q,rfl,X.ba,(by rw[<-al.span];exact Y.ba),fun p7 dx7 l7 G1 np bn7 s1=>?_⟩)⟩⟩;refine⟨_,rfl,k,_,dk,_,rfl,s1 _ _ kG.o,T.bW,T.tW,(by show 10<1000;decide),kG.step (z':=kz k dk x f1 f2 f3 f4 ⟨p5,dx5,d5,x.wi.c+y.wi.c,ps5⟩ ⟨p6,dx6,l6,x.di.n+y.di.n,v6',un x.di.C y.di.C⟩ ⟨p7,dx7,l7,addQ x.ba.q y.ba.q⟩) sG vk s1 np (fun J F o=>⟨by rw[Nr]at o;exact o,F.cm,F.wn,F.up,F.dn,F.wi,F.di,(let ⟨_,_,_,g⟩:=F.o;bn7.but F.b g F.nk),F.nd 7⟩) fun J7 K2 sG2 v7=>hR _ _ ?_⟩;clear kG sG s1 np;have kG:=K2;have sG:=sG2;have X:=hX.same sG;have Y:=hY.same sG;clear K2 sG2;refine⟨_,rfl,q (kz k dk x f1 f2 f3 f4 ⟨p5,dx5,d5,x.wi.c+y.wi.c,ps5⟩ ⟨p6,dx6,l6,x.di.n+y.di.n,v6',un x.di.C y.di.C⟩ ⟨p7,dx7,l7,addQ x.ba.q y.ba.q⟩) J7 kG ⟨rfl,rfl,rfl,D1,D2,D3,D4,⟨rfl,eb5⟩,⟨rfl,rfl,ls6⟩,rfl⟩ (fun b m=>?_) (fun b m=>?_) sG⟩
  ·unfold KS.all at m;simp only[cO,iM,or_false]at m;rcases m with rfl|rfl|rfl|rfl|rfl|rfl|rfl|rfl;all_goals assumption
  ·unfold KS.ems at m;simp only[cO,dY]at m;rcases m with rfl|rfl|rfl|rfl|m|m
   ·exact g3.1
   ·exact g4.1
   ·exact vd5
   ·exact vl6
   ·exact g3.2 b m
   ·exact g4.2 b m
theorem ad7{n g:Int}(hg:0<g)(hn:0<=n):n<((g+n / g) / 2+1)*((g+n / g) / 2+1):=by
 have h1:n<(n / g+1)*g:=Int.lt_ediv_add_one_mul_self n hg;have h0:0<=n / g:=agv hn tb_g%;generalize n / g=q at *;generalize hb:(g+q) / 2=b;have h2:g+q+1<=2*(b+1):=by lia
 have h3:(g+q+1)*(g+q+1)<=(2*(b+1))*(2*(b+1)):=pP h2 h2 tb_g% tb_g%;have h4:0<=(g-(q+1))*(g-(q+1)):=by
  rcases Int.le_total 0 (g-(q+1))with h|h
  ·exact YJ h h
  ·exact Int.mul_nonneg_of_nonpos_of_nonpos h h
 have e1:(g+q+1)*(g+q+1)=(g-(q+1))*(g-(q+1))+4*((q+1)*g):=by grind
 have e2:(2*(b+1))*(2*(b+1))=4*((b+1)*(b+1)):=by grind
 lia
theorem ad8{n g:Int}(hg:0<g)(h:¬ (g+n / g) / 2<g):g*g<=n:=by
 have h1:g<=n / g:=by lia
 have h2:n / g*g<=n:=Int.ediv_mul_le n tb_g%;have h3:g*g<=n / g*g:=Ot h1 tb_g%;lia
theorem akd{n g:Int}(hg:0<g)(hn:0<n):0<(g+n / g) / 2:=by
 have h0:0<=n / g:=agv tb_g% tb_g%;by_cases h:g=1
 ·subst h;rw[Int.ediv_one];lia
 ·lia
theorem due1(n:Int):(n+1)*(n+1-1) / 2=n*(n-1) / 2+n:=by
 have:(n+1)*(n+1-1)=n*(n-1)+n*2:=by grind
 rw[this,ags _ _ (by decide)]
theorem due2(n:Int):(n+1)*(n+1-1)*(2*(n+1)-1) / 6=n*(n-1)*(2*n-1) / 6+n*n:=by
 have:(n+1)*(n+1-1)*(2*(n+1)-1)=n*(n-1)*(2*n-1)+n*n*6:=by grind
 rw[this,ags _ _ (by decide)]
theorem ake(n:Int):2*(n*(n-1) / 2)=n*(n-1):=by
 have:n*(n-1) % 2=0:=by
  rcases Int.emod_two_eq n with h|h
  ·rw[agy,h,Bw];rfl
  ·rw[agy,show(n-1) % 2=0 by lia,YM];rfl
 lia
theorem due3(n:Int):(n+1)*(n+1-1) / 2*((n+1)*(n+1-1) / 2)=n*(n-1) / 2*(n*(n-1) / 2)+n*n*n:=by
 rw[due1];have e:=ake n;generalize n*(n-1) / 2=k at *;have:(k+n)*(k+n)=k*k+(2*k)*n+n*n:=by grind
 rw[this,e]
 grind
noncomputable def aaL(n:Int):List Int:=[n,n*(n-1) / 2,n*(n-1)*(2*n-1) / 6,n*(n-1) / 2*(n*(n-1) / 2)]
noncomputable def spDue:Sp:=fun vs H Q _=>∃n:Int,vs=[.int n]/\1<=n/\n<=2000000000/\∀p,H p=none->Q (.ref p) (upd H p (.lst ((aaL n).map V.int)))
theorem amD(T:Tx K mg A):bZ P w K mg base CX0 1 A.ach A.Mx ["span"] spDue:=by
 k_dat (T.F'40.ok,zB) "a"
 ·obtain⟨n,rfl,_⟩:=h;rfl
 ·obtain ⟨n,rfl,h1,h2,q⟩:=h;refine ⟨_,(ao (psS 1 zB.nd (aH gZ (aH gU (pv 0) (aH gk (pv 0) aA)) aA))
   (ao (psS 2 zB.nd (aH gZ (aH gU (aH gU (pv 0) (aH gk (pv 0) aA)) (aH gk (aH gU aA (pv 0)) aA)) aA))
   (aC (aW (dG (aj (pv 0) (aj (pv 1) (aj (pv 2) (aj (aH gU (pv 1) (pv 1)) aq))))))))),?_⟩
  have b0:0<=n*(n-1):=YJ tb_g% tb_g%;have b1:n*(n-1)<=2000000000*2000000000:=pP h2 tb_g% tb_g% tb_g%;refine⟨_,rfl,_,rfl,_,_,rfl,rfl,_,_,rfl,rfl,yJ tb_g% tb_g%,_,_,rfl,rfl,⟨by decide,by decide⟩,?_⟩;refine⟨_,rfl,_,rfl,_,_,rfl,rfl,_,_,rfl,rfl,yJ tb_g% tb_g%,_,rfl,_,_,rfl,rfl,yJ (by decide) (by decide),_,_,rfl,rfl,_,_,rfl,rfl,iR tb_g% tb_g%,_,_,rfl,rfl,⟨by decide,by decide⟩,?_⟩;refine⟨_,rfl,_,rfl,_,rfl,_,rfl,_,rfl,_,_,rfl,rfl,yJ tb_g% tb_g%,(by show 4<=sizeLine;decide),fun p hp=>q p hp⟩
noncomputable def apt:Sp:=fun vs H Q _=>∃n:Int,vs=[.int n]/\0<=n/\n<2 ^ 2000/\∀r:Int,0<=r->r*r<=n->n<(r+1)*(r+1)->Q (.int r) H
noncomputable def alO(σ:St)(_:Hp):Nat:=match σ with
 |[_,some (.int x),_,_]=>x.toNat
 |_=>0
theorem ad9(n:Int):(((uf n:Nat):Int)+1) / 2=(((uf n+1) / 2:Nat):Int):=by lia
theorem ok'41(T:Tx K mg A):bZ P w K mg base CX0 1 A.aci A.ajE ["number"] apt:=by
 k_dat (T.F'41.ok,vX) "a"
 ·obtain⟨n,rfl,_⟩:=h;rfl
 ·obtain ⟨n,rfl,h0,h1,q⟩:=h;refine ⟨_,(ao (cU (aN iI (pv 0) aA (aM _)) (aC (aW aA)) bJ)
   (ao (psS 1 vX.nd aA)
   (ao (j9 jK rfl (mO rfl T.vV (aj (aH gZ (aH bM (aou PySem.F.plainAttrs_int afU PySem.F.type_int_bit_length ak3 (pv 0)) aA) aA) aq)) (pgN 2 vX.nd) (aC (psS 1 vX.nd (aH gU (pv 1) aA))))
   (ao (psS 3 vX.nd (aH gZ (aH bM (pv 1) (aH Mf (pv 0) (pv 1))) aA))
   (ao (uo jK (aN pZ (pv 3) (pv 1) (aM _)) (ao (psS 1 vX.nd (pv 3))
   (aC (psS 3 vX.nd (aH gZ (aH bM (pv 1) (aH Mf (pv 0) (pv 1))) aA)))))
   (aC (aW (pv 1)))))))),?_⟩
  refine⟨_,rfl,rfl,_,rfl,fO (fun h=>?_) (fun h=>?_)⟩
  ·have e:n=0:=V.int.inj (of_decide_eq_true h);exact q 0 tb_g% tb_g% tb_g%
  ·have ne:n≠0:=fun z=>h (decide_eq_true (congrArg V.int z));have hb:=bits_le (Pq h0 h1);have hb2:=ak5 h0;generalize hbb:uf n=b at *;refine⟨_,rfl,rfl,n,rfl,rfl,_,_,rfl,rfl,_,_,rfl,rfl,⟨by decide,by decide⟩,?_⟩;refine⟨(((b+1) / 2:Nat):Int),by show[V.int ((((uf n:Nat):Int)+1) / 2)]=_;rw[ad9,hbb],by lia,by lia,pG (n:=(b+1) / 2) (fun i σ H2=>∃x,σ=[some (.int n),some (.int (2 ^ i)),x,none]/\H2=H) ⟨none,rfl,rfl⟩ ?_ ?_⟩
   ·rintro i σ H2 hi ⟨x,rfl,rfl⟩;refine⟨_,rfl,_,_,rfl,rfl,iR (by decide) (by decide),some (.int (0+(i:Int))),?_,rfl⟩;rw[vA];rfl
   ·rintro σ H2 ⟨x,rfl,rfl⟩;have g0:(0:Int)<2 ^ ((b+1) / 2):=RL (by decide);have g1:(2:Int) ^ ((b+1) / 2)<2 ^ 1100:=by
     have:(2:Nat) ^ ((b+1) / 2)<2 ^ 1100:=Nat.pow_lt_pow_right (by decide) tb_g%
     exact_mod_cast this
    have g2:n<(2 ^ ((b+1) / 2)+1)*(2 ^ ((b+1) / 2)+1):=by
     have e:(2:Int) ^ b<=2 ^ ((b+1) / 2)*2 ^ ((b+1) / 2):=by
      rw[<-RM];have:(2:Nat) ^ b<=2 ^ ((b+1) / 2+(b+1) / 2):=Kd (by decide) tb_g%
      exact_mod_cast this
     have:=pP (show(2:Int) ^ ((b+1) / 2)<=2 ^ ((b+1) / 2)+1 by lia) (show(2:Int) ^ ((b+1) / 2)<=2 ^ ((b+1) / 2)+1 by lia) tb_g% tb_g%;lia
    generalize (2:Int) ^ ((b+1) / 2)=g at g0 g1 g2;refine⟨_,rfl,_,rfl,_,rfl,_,_,rfl,rfl,⟨g0,1100,by decide,g1⟩,_,_,rfl,rfl,_,_,rfl,rfl,⟨by decide,by decide⟩,?_⟩;refine ux (fun σ H'=>∃g:Int,σ=[some (.int n),some (.int g),x,some (.int ((g+n / g) / 2))]/\0<g/\g<2 ^ 1100/\n<(g+1)*(g+1)/\H'=H2) alO ⟨g,rfl,g0,g1,g2,rfl⟩ ?_
     (by rintro σ H Q Q' hq ⟨v,e,v',e',i,j,e1,e2,k,e3,q⟩;exact⟨v,e,v',e',i,j,e1,e2,k,e3,hq _ _ q⟩)
    rintro σ H' ⟨g,rfl,g0,g1,g2,rfl⟩;refine⟨_,rfl,_,rfl,_,_,rfl,rfl,_,rfl,fO (fun h=>?_) (fun h=>?_)⟩
    ·have hlt:(g+n / g) / 2<g:=of_decide_eq_true h;have p0:=akd g0 (show 0<n by lia);have p1:=ad7 g0 h0;generalize (g+n / g) / 2=g' at hlt p0 p1;refine⟨_,rfl,_,rfl,_,rfl,_,rfl,_,_,rfl,rfl,⟨p0,1100,by decide,by lia⟩,_,_,rfl,rfl,_,_,rfl,rfl,⟨by decide,by decide⟩,⟨g',rfl,p0,by lia,p1,rfl⟩,?_⟩;show g'.toNat<g.toNat;lia
    ·have hlt:¬ (g+n / g) / 2<g:=fun z=>h (decide_eq_true z);exact⟨_,rfl,q g tb_g% (ad8 g0 hlt) g2⟩
noncomputable def iy(n:Int):Q4:=⟨n,n*(n-1) / 2,n*(n-1)*(2*n-1) / 6,n*(n-1) / 2*(n*(n-1) / 2)⟩
noncomputable def Sm(q:Q4):Prop:=q.a.natAbs<2 ^ 200/\q.b.natAbs<2 ^ 200/\q.c.natAbs<2 ^ 200/\q.d.natAbs<2 ^ 200
noncomputable abbrev Po:=Addr × (Int × Int)
structure Pos(H:Hp)(l:Addr)(ps:List Po):Prop where
 l:H l=some (.lst (ps.map fun p=>V.ref p.1))
 t:∀p∈ps,H p.1=some (.tup [.int p.2.1,.int p.2.2])
noncomputable def po(ps:List Po):List (Int × Int):=ps.map (·.2)
theorem Pos.same{ps:List Po}(h:Pos H l ps)(s:Same H H'):Pos H' l ps:=⟨s _ _ h.l,fun p m=>s _ _ (h.t p m)⟩
theorem Wr{b:Int}(hb:b≠0):(a.fdiv b).natAbs<=a.natAbs:=by
 rcases Int.lt_or_lt_of_ne hb with h|h
 ·rw[<-Int.neg_fdiv_neg,Rz _ tb_g%];have:=Kw (-a) (-b);rw[Int.natAbs_neg]at this;exact this
 ·rw[Rz _ tb_g%];exact Kw a b
theorem jE{b:Int}{m:Nat}(ha:a.natAbs<2 ^ n)(hb:b.natAbs<2 ^ m):(a*b).natAbs<2 ^ (n+m):=by
 rw[YK,Nat.pow_add];exact Nat.mul_lt_mul'' ha hb
theorem qJ{b:Int}(ha:a.natAbs<2 ^ n)(hb:b.natAbs<2 ^ n):(a-b).natAbs<2 ^ (n+1):=by
 have:=Int.natAbs_sub_le a b;rw[sO];lia
theorem Nt{m:Nat}(h:a.natAbs<2 ^ n)(hm:n<=m):a.natAbs<2 ^ m:=fJ h (Kd (by decide) hm)
noncomputable def bend(q:Q4):Int:=q.b*q.b-q.a*q.c
noncomputable def mH(q:Q4):Int:=(q.b*q.c-q.a*q.d).fdiv (bend q)
noncomputable def Ua(q:Q4):Int:=(q.c*q.c-q.b*q.d).fdiv (bend q)
noncomputable def g8(q:Q4):Int:=mH q*mH q-4*Ua q
inductive Tof (q:Q4):Option (List (Int × Int))->Prop
 |zero (h:q=eY):Tof q (some [])
 |abL (h:q≠eY) (hb:bend q=0) (ha:q.a=0):Tof q none
 |one (h:q≠eY) (hb:bend q=0) (ha:q.a≠0):Tof q (some [(q.b.fdiv q.a,q.a)])
 |abM (h:q≠eY) (hb:bend q≠0) (hs:g8 q<1):Tof q none
 |two (h:q≠eY) (hb:bend q≠0) (hs:1<=g8 q) (d:Int) (d1:1<=d) (e1:d*d<=g8 q) (e2:g8 q<(d+1)*(d+1)):
   Tof q (some [((mH q-d) / 2,q.a-(q.b-(mH q-d) / 2*q.a) / d),((mH q-d) / 2+d,(q.b-(mH q-d) / 2*q.a) / d)])
theorem abN{q p:Q4}:L4 q=L4 p↔q=p:=by
 refine⟨fun h=>?_,fun h=>by rw[h]⟩;obtain⟨a,b,c,d⟩:=q;obtain⟨a',b',c',d'⟩:=p;unfold L4 at h;simp only[anr]at h;obtain⟨h1,h2,h3,h4,_⟩:=h;subst h1 h2 h3 h4;rfl
noncomputable def spOne:Sp:=fun vs H Q _=>∃(l:Addr)(q:Q4),vs=[.ref l]/\H l=some (.lst ((L4 q).map V.int))/\Sm q/\(q.a=0->Q .non H)/\(q.a≠0->∀(x:Addr)(ps:List Po)(H':Hp),po ps=[(q.b.fdiv q.a,q.a)]->Pos H' x ps->Same H H'->H x=none->Q (.ref x) H')
theorem ok'42(T:Tx K mg A):bZ P w K mg base CX0 1 A.acj A.Mz ["rest"] spOne:=by
 k_dat (T.F'42.ok,Wd) "a"
 ·obtain⟨l,q,rfl,_⟩:=h;rfl
 ·obtain ⟨l,q,rfl,hl,sm,k0,k1⟩:=h;refine ⟨_,(ao (cU (aN iI (bC (ixG (aY hr)) (pv 0) aA (fun _ _=>rfl)) aA (aM _)) (aC (aW mL)) bJ)
   (aC (aW (dG (aj (jL (aj (aH GC (bC (ixG (aY hr)) (pv 0) aA (fun _ _=>rfl)) (bC (ixG (aY hr)) (pv 0) aA (fun _ _=>rfl))) (aj (bC (ixG (aY hr)) (pv 0) aA (fun _ _=>rfl)) aq))) aq))))),?_⟩
  refine⟨_,rfl,cD (.inl (.inl hl)) (v:=.int q.a) rfl ⟨rfl,_,rfl,fO (fun h=>?_) (fun h=>?_)⟩⟩
  ·exact k0 (V.int.inj (of_decide_eq_true h))
  ·have ha:q.a≠0:=fun z=>h (decide_eq_true (congrArg V.int z));refine⟨_,rfl,cD (.inl (.inl hl)) (v:=.int q.b) rfl ⟨_,rfl,cD (.inl (.inl hl)) (v:=.int q.a) rfl ⟨_,_,rfl,rfl,⟨ha,200,by decide,sm.1⟩,_,rfl,cD (.inl (.inl hl)) (v:=.int q.a) rfl ⟨(by show 2<=sizeLine;decide),fun t ht=>⟨(by show 1<=sizeLine;decide),fun x hx=>?_⟩⟩⟩⟩⟩;have s1:Same H (upd H t (.tup [.int (q.b.fdiv q.a),.int q.a])):=Same.new ht;refine k1 ha x [(t,(q.b.fdiv q.a,q.a))] _ rfl ⟨ak,fun p m=>?_⟩ (s1.trans (Same.new hx)) (s1.free hx);rw[cZ.mp m];exact(Same.new hx) _ _ ak
noncomputable def spTwo:Sp:=fun vs H Q _=>∃(l:Addr)(q:Q4),vs=[.ref l,.int (bend q)]/\H l=some (.lst ((L4 q).map V.int))/\Sm q/\bend q≠0/\(g8 q<1->Q .non H)/\(1<=g8 q->∀d:Int,1<=d->d*d<=g8 q->g8 q<(d+1)*(d+1)->∀(x:Addr)(ps:List Po)(H':Hp),po ps=[((mH q-d) / 2,q.a-(q.b-(mH q-d) / 2*q.a) / d),((mH q-d) / 2+d,(q.b-(mH q-d) / 2*q.a) / d)]->Pos H' x ps->Same H H'->H x=none->Q (.ref x) H')
theorem ok'43(T:Tx K mg A):bZ P w K mg base CX0 2 A.acn A.Hx Q27 spTwo:=by
 k_dat (T.F'43.ok,iU) "a"
 ·obtain⟨l,q,rfl,_⟩:=h;rfl
 ·obtain ⟨l,q,rfl,hl,sm,hb,k0,k1⟩:=h;refine ⟨_,(ao (psS 2 iU.nd (aH GC (aH gk (aH rG (bC (ixG (aY hr)) (pv 0) aA (fun _ _=>rfl)) (bC (ixG (aY hr)) (pv 0) aA (fun _ _=>rfl))) (aH rG (bC (ixG (aY hr)) (pv 0) aA (fun _ _=>rfl)) (bC (ixG (aY hr)) (pv 0) aA (fun _ _=>rfl)))) (pv 1)))
   (ao (psS 3 iU.nd (aH GC (aH gk (aH rG (bC (ixG (aY hr)) (pv 0) aA (fun _ _=>rfl)) (bC (ixG (aY hr)) (pv 0) aA (fun _ _=>rfl))) (aH rG (bC (ixG (aY hr)) (pv 0) aA (fun _ _=>rfl)) (bC (ixG (aY hr)) (pv 0) aA (fun _ _=>rfl)))) (pv 1)))
   (ao (psS 4 iU.nd (aH gk (aH rG (pv 2) (pv 2)) (aH gU aA (pv 3))))
   (ao (cU (aN pZ (pv 4) aA (aM _)) (aC (aW mL)) bJ)
   (ao (psS 5 iU.nd (aD (ok'41 T) tb_g% T.F'41 aL (aj (pv 4) aq)))
   (ao (psS 6 iU.nd (aH gZ (aH gk (pv 2) (pv 5)) aA))
   (ao (psS 7 iU.nd (aH Mf (aH gk (bC (ixG (aY hr)) (pv 0) aA (fun _ _=>rfl)) (aH rG (pv 6) (bC (ixG (aY hr)) (pv 0) aA (fun _ _=>rfl)))) (pv 5)))
   (aC (aW (dG (aj (jL (aj (pv 6) (aj (aH gk (bC (ixG (aY hr)) (pv 0) aA (fun _ _=>rfl)) (pv 7)) aq))) (aj (jL (aj (aH bM (pv 6) (pv 5)) (aj (pv 7) aq))) aq)))))))))))),?_⟩
  obtain⟨sa,sb,sc,sd⟩:=sm;have bb:(bend q).natAbs<2 ^ 401:=qJ (jE sb sb) (jE sa sc);have cb:(mH q).natAbs<2 ^ 401:=mD (Wr hb) (qJ (jE sb sc) (jE sa sd));have ct:(Ua q).natAbs<2 ^ 401:=mD (Wr hb) (qJ (jE sc sc) (jE sb sd));have cs:(g8 q).natAbs<2 ^ 803:=by
   have h1:=jE cb cb;have h2:(4*Ua q).natAbs<2 ^ 802:=Nt (jE (a:=4) (n:=3) (by decide) ct) (by decide);exact qJ h1 h2
  refine⟨_,rfl,cD (.inl (.inl hl)) (v:=.int q.b) rfl ⟨_,rfl,cD (.inl (.inl hl)) (v:=.int q.c) rfl ⟨_,_,rfl,rfl,⟨200,200,sb,sc,by decide⟩,_,rfl,cD (.inl (.inl hl)) (v:=.int q.a) rfl ⟨_,rfl,cD (.inl (.inl hl)) (v:=.int q.d) rfl ⟨_,_,rfl,rfl,⟨200,200,sa,sd,by decide⟩,_,_,rfl,rfl,_,rfl,_,_,rfl,rfl,⟨hb,401,by decide,bb⟩,?_⟩⟩⟩⟩⟩;refine⟨_,rfl,cD (.inl (.inl hl)) (v:=.int q.c) rfl ⟨_,rfl,cD (.inl (.inl hl)) (v:=.int q.c) rfl ⟨_,_,rfl,rfl,⟨200,200,sc,sc,by decide⟩,_,rfl,cD (.inl (.inl hl)) (v:=.int q.b) rfl ⟨_,rfl,cD (.inl (.inl hl)) (v:=.int q.d) rfl ⟨_,_,rfl,rfl,⟨200,200,sb,sd,by decide⟩,_,_,rfl,rfl,_,rfl,_,_,rfl,rfl,⟨hb,401,by decide,bb⟩,?_⟩⟩⟩⟩⟩;refine⟨_,rfl,_,rfl,_,_,rfl,rfl,⟨401,401,cb,cb,by decide⟩,_,rfl,_,_,rfl,rfl,yJ (by decide) (by decide),_,_,rfl,rfl,?_⟩;refine⟨_,rfl,_,_,rfl,rfl,_,rfl,fO (fun h=>?_) (fun h=>?_)⟩
  ·exact k0 (of_decide_eq_true h)
  ·have h1:¬ g8 q<1:=fun z=>h (decide_eq_true z);have hsq:g8 q<2 ^ 2000:=by
    have:((g8 q).natAbs:Int)<((2 ^ 803:Nat):Int):=RD.mpr cs;have e:(((2:Nat) ^ 803:Nat):Int)<=2 ^ 2000:=by decide
    lia
   refine⟨_,rfl,_,rfl,by show 0<=g8 q;lia,hsq,fun d d0 e1 e2=>?_⟩;have e1:d*d<=g8 q:=e1;have e2:g8 q<(d+1)*(d+1):=e2;have d1:1<=d:=by
    rcases(show d=0\/1<=d by lia)with z|z
    ·rw[z]at e2;lia
    ·exact z
   have dlt:d<2 ^ 2000:=by
    have:=pP d1 (iW d) tb_g% d0;lia
   have dab:d.natAbs<2 ^ 2000:=Pq d0 dlt;refine⟨_,rfl,_,rfl,_,_,rfl,rfl,_,_,rfl,rfl,⟨by decide,by decide⟩,?_⟩;have lowb:((mH q-d) / 2).natAbs<2 ^ 2001:=mD (Kw _ _) (qJ (Nt cb (by decide)) dab);refine⟨_,rfl,cD (.inl (.inl hl)) (v:=.int q.b) rfl ⟨_,rfl,_,rfl,cD (.inl (.inl hl)) (v:=.int q.a) rfl ⟨_,_,rfl,rfl,⟨2001,200,lowb,sa,by decide⟩,_,_,rfl,rfl,_,rfl,_,_,rfl,rfl,⟨by lia,2000,by decide,dlt⟩,?_⟩⟩⟩;refine⟨_,rfl,_,rfl,cD (.inl (.inl hl)) (v:=.int q.a) rfl ⟨_,rfl,_,_,rfl,rfl,(by show 2<=sizeLine;decide),fun t1 ht1=>?_⟩⟩;refine⟨_,rfl,_,rfl,_,_,rfl,rfl,_,rfl,(by show 2<=sizeLine;decide),fun t2 ht2=>⟨(by show 2<=sizeLine;decide),fun x hx=>?_⟩⟩;refine k1 tb_g% d d1 e1 e2 x [(t1,((mH q-d) / 2,q.a-(q.b-(mH q-d) / 2*q.a) / d)),(t2,((mH q-d) / 2+d,(q.b-(mH q-d) / 2*q.a) / d))] _ rfl ⟨ak,fun p m=>?_⟩ ((Same.new ht1).trans ((Same.new ht2).trans (Same.new hx))) (((Same.new ht1).trans (Same.new ht2)).free hx);simp only[cO,iM,or_false]at m;rcases m with rfl|rfl
   ·exact(Same.new hx) _ _ ((Same.new ht2) _ _ ak)
   ·exact(Same.new hx) _ _ ak
noncomputable def aaM:Sp:=fun vs H Q _=>∃(l:Addr)(q:Q4),vs=[.ref l]/\H l=some (.lst ((L4 q).map V.int))/\Sm q/\(∀H',Tof q none->Same H H'->Q .non H')/\∀(x:Addr)(ps:List Po)(H':Hp),Tof q (some (po ps))->Pos H' x ps->Same H H'->H x=none->Q (.ref x) H'
theorem ok'44(T:Tx K mg A):bZ P w K mg base CX0 3 A.aco A.Hy ["rest"] aaM:=by
 k_dat (T.F'44.ok,DX) "a"
 ·obtain⟨l,q,rfl,_⟩:=h;rfl
 ·obtain ⟨l,q,rfl,hl,sm,k0,k1⟩:=h;refine ⟨_,(ao (cU (aN (ajk hr.units) (pv 0) (dG (aj aA (aj aA (aj aA (aj aA aq))))) (aM _)) (aC (aW (dG aq))) bJ)
   (ao (psS 1 DX.nd (aH gk (aH rG (bC (ixG (aY hr)) (pv 0) aA (fun _ _=>rfl)) (bC (ixG (aY hr)) (pv 0) aA (fun _ _=>rfl))) (aH rG (bC (ixG (aY hr)) (pv 0) aA (fun _ _=>rfl)) (bC (ixG (aY hr)) (pv 0) aA (fun _ _=>rfl)))))
   (ao (cU (aN iI (pv 1) aA (aM _)) (aC (aW (aD (ok'42 T) tb_g% T.F'42 aL (aj (pv 0) aq)))) bJ)
   (aC (aW (aD (ok'43 T) tb_g% T.F'43 aL (aj (pv 0) (aj (pv 1) aq)))))))),?_⟩
  refine⟨_,rfl,(by show 4<=sizeLine;decide),fun z hz=>?_⟩;have s1:Same H (upd H z (.lst ((L4 eY).map V.int))):=Same.new hz;have f1:(upd H z (.lst ((L4 eY).map V.int))) z=some (.lst ((L4 eY).map V.int)):=ak;rw[show(HO.lst [V.int 0,V.int 0,V.int 0,V.int 0])=.lst ((L4 eY).map V.int)from rfl];generalize upd H z (.lst ((L4 eY).map V.int))=H1 at s1 f1 ⊢;refine⟨l,z,L4 q,L4 eY,rfl,rfl,.inl (.inl (s1 _ _ hl)),.inl (.inl f1),rfl,_,rfl,fO (fun h=>?_) (fun h=>?_)⟩
  ·have e:q=eY:=abN.mp (of_decide_eq_true h);refine⟨(by show 0<=sizeLine;decide),fun x hx=>?_⟩;exact k1 x [] _ (.zero e) ⟨ak,(fun p m=>nomatch m)⟩ (s1.trans (Same.new hx)) (s1.free hx)
  ·have hne:q≠eY:=fun e=>h (decide_eq_true (abN.mpr e));have hl1:=s1 _ _ hl;refine⟨_,rfl,cD (.inl (.inl hl1)) (v:=.int q.b) rfl ⟨_,rfl,cD (.inl (.inl hl1)) (v:=.int q.b) rfl ⟨_,_,rfl,rfl,⟨200,200,sm.2.1,sm.2.1,by decide⟩,_,rfl,cD (.inl (.inl hl1)) (v:=.int q.a) rfl ⟨_,rfl,cD (.inl (.inl hl1)) (v:=.int q.c) rfl ⟨_,_,rfl,rfl,⟨200,200,sm.1,sm.2.2.1,by decide⟩,_,_,rfl,rfl,?_⟩⟩⟩⟩⟩;refine⟨_,rfl,rfl,_,rfl,fO (fun hb=>?_) (fun hb=>?_)⟩
   ·have hb:bend q=0:=V.int.inj (of_decide_eq_true hb);refine⟨_,rfl,l,q,rfl,hl1,sm,fun ha=>k0 _ (.abL hne hb ha) s1,fun ha x ps H' e p' s' n'=>?_⟩;exact k1 x ps H' (by rw[e];exact .one hne hb ha) p' (s1.trans s') (s1.free n')
   ·have hb:bend q≠0:=fun e=>hb (decide_eq_true (congrArg V.int e));refine⟨_,rfl,_,rfl,l,q,rfl,hl1,sm,hb,fun hs=>k0 _ (.abM hne hb hs) s1,fun hs d d1 e1 e2 x ps H' e p' s' n'=>?_⟩;exact k1 x ps H' (by rw[e];exact .two hne hb hs d d1 e1 e2) p' (s1.trans s') (s1.free n')
noncomputable def cg(L:List (Int × Int)):Q4:=L.foldl (fun q p=>addQ q (pwQ p.1 p.2)) eY
theorem uX(L:List (Int × Int))(p:Int × Int):cg (L++[p])=addQ (cg L) (pwQ p.1 p.2):=by
 unfold cg;rw[Xb];rfl
theorem Ub{ps:List Po}{y:V}(h:(ps.map fun p=>V.ref p.1)[i]? = some y):∃p,ps[i]? = some p/\y=.ref p.1:=by
 rw[gQ]at h;cases e:ps[i]? with
 |none=>rw[e]at h;cases h
 |some p=>rw[e]at h;exact⟨p,rfl,(cN h).symm⟩
noncomputable def In(s:Int)(L:List (Int × Int)):Prop:=∀p∈L,0<=p.1/\p.1<s
noncomputable def alP:Sp:=fun vs H Q _=>∃(x l:Addr)(s:Int)(ps:List Po)(q:Q4),vs=[.ref x,.ref l,.int s]/\Pos H x ps/\H l=some (.lst ((L4 q).map V.int))/\s<=2000000000/\(In s (po ps)->cg (po ps)=q->∀H',Same H H'->Q (.bl true) H')/\(¬ (In s (po ps)/\cg (po ps)=q)->∀H',Same H H'->Q (.bl false) H')
theorem ok'45(T:Tx K mg A):bZ P w K mg base CX0 2 A.acp A.ajF Q34 alP:=by
 k_dat (T.F'45.ok,DY) "a"
 ·obtain⟨x,l,sp,ps,q,rfl,_⟩:=h;rfl
 ·obtain ⟨x,l,sp,ps,q,rfl,hx,hl,s9,k1,k0⟩:=h;refine ⟨_,(ao (psS 3 DY.nd (dG (aj aA (aj aA (aj aA (aj aA aq))))))
   (ao (j9 jK rfl (gj (pv 0)) (yC rfl (fK (pgN 4 DY.nd) (fK (pgN 5 DY.nd) rB))) (ao (cU (PW.pt (pw_or (aN pZ (pv 4) aA (aM _)) (pw_or1 (aN Ai (pv 4) (pv 2) (aM _))))) (aC (aW kZ)) bJ)
   (aC (psS 3 DY.nd (aD (aj2 T) tb_g% T.F'25 aL (aj (pv 3) (aj (pv 4) (aj (pv 5) aq))))))))
   (aC (aW (cY (ajk hr.units) (pv 3) (pv 1) (aM _)))))),?_⟩
  refine⟨(by show 4<=sizeLine;decide),fun z hz=>?_⟩;have s1:Same H (upd H z (.lst ((L4 eY).map V.int))):=Same.new hz;have f1:(upd H z (.lst ((L4 eY).map V.int))) z=some (.lst ((L4 eY).map V.int)):=ak;rw[show(HO.lst [V.int 0,V.int 0,V.int 0,V.int 0])=.lst ((L4 eY).map V.int)from rfl];generalize upd H z (.lst ((L4 eY).map V.int))=H1 at s1 f1 ⊢;have hx1:=hx.same s1;refine⟨_,rfl,x,rfl,⟨_,.inl (.inl hx1.l)⟩,ur (K:=K) (a:=x) (xs:=ps.map fun p=>V.ref p.1) (fun i σ G=>∃(z:Addr)(x4 x5:Option V),σ=[some (.ref x),some (.ref l),some (.int sp),some (.ref z),x4,x5]/\Same H1 G/\G z=some (.lst ((L4 (cg (po (ps.take i)))).map V.int))/\In sp (po (ps.take i))) ⟨z,none,none,rfl,Same.refl _,f1,fun p m=>nomatch m⟩ (fun i σ G _ ⟨_,_,_,_,s,_⟩=>.inl (.inl (s _ _ hx1.l))) ?_ ?_⟩
  ·rintro i y σ G hi ⟨z',x4,x5,rfl,sG,fG,iG⟩;obtain⟨p,hp,rfl⟩:=Ub hi;have ht:=sG _ _ (hx1.t p (List.mem_of_getElem? hp));have mem:p.2∈po ps:=W7 (List.mem_of_getElem? hp);refine⟨p.1,_,rfl,.inl (.inl ht),rfl,_,_,rfl,_,_,rfl,rfl,?_⟩;refine⟨_,rfl,_,_,rfl,rfl,_,rfl,fO (fun h=>?_) (fun h=>?_)⟩
   ·have h:p.2.1<0:=of_decide_eq_true h;exact k0 (fun z=>by have:=z.1 p.2 mem;lia) _ (s1.trans sG)
   have h:¬ p.2.1<0:=fun z=>h (decide_eq_true z);refine⟨_,rfl,_,rfl,_,_,rfl,rfl,_,rfl,fO (fun h2=>?_) (fun h2=>?_)⟩
   ·have h2:sp<=p.2.1:=of_decide_eq_true h2;exact k0 (fun z=>by have:=z.1 p.2 mem;lia) _ (s1.trans sG)
   have h2:¬ sp<=p.2.1:=fun z=>h2 (decide_eq_true z);refine⟨_,rfl,_,rfl,_,rfl,z',p.2.1,p.2.2,_,rfl,fG,by lia,by lia,fun z2 G2 n2 f2 s2=>?_⟩;have e:po (ps.take (i+1))=po (ps.take i)++[p.2]:=by unfold po;rw[qM,hp,cM];rfl
   refine⟨z2,_,_,rfl,sG.trans s2,?_,fun r hr=>?_⟩
   ·rw[e,uX];exact f2
   ·rw[e]at hr;rcases dY.mp hr with m|m
    ·exact iG r m
    ·rw[cZ.mp m];lia
  ·rintro σ G ⟨z',x4,x5,rfl,sG,fG,iG⟩;rw[aV,m9]at fG iG;refine⟨_,rfl,_,rfl,z',l,L4 (cg (po ps)),L4 q,rfl,rfl,.inl (.inl fG),.inl (.inl (sG _ _ (s1 _ _ hl))),rfl,?_⟩;by_cases e:cg (po ps)=q
   ·rw[decide_eq_true (abN.mpr e)];exact k1 iG e _ (s1.trans sG)
   ·rw[decide_eq_false (fun z=>e (abN.mp z))];exact k0 (fun z=>e z.2) _ (s1.trans sG)
noncomputable def subQ(q p:Q4):Q4:=⟨q.a-p.a,q.b-p.b,q.c-p.c,q.d-p.d⟩
theorem abO(q p:Q4):subQ (addQ q p) q=p:=by
 obtain⟨a,b,c,d⟩:=q;obtain⟨a',b',c',d'⟩:=p;show(⟨a+a'-a,b+b'-b,c+c'-c,d+d'-d⟩:Q4)=⟨a',b',c',d'⟩;rw[show a+a'-a=a' by lia,show b+b'-b=b' by lia,show c+c'-c=c' by lia,show d+d'-d=d' by lia]
structure Hg(L:List (Int × Int)):Prop where
 two:L.length<=2
 nz:∀p∈L,p.2≠0
 up:L.Pairwise fun p q=>p.1<q.1
theorem Qe{r:Option (List (Int × Int))}(n:Hg L)(t:Tof (cg L) r):r=some L:=by
 match L,n with
 |[],n =>
  have e:cg []=eY:=rfl;rw[e]at t;cases t with
  |zero h=>rfl
  |abL h _ _=>exact absurd rfl h
  |one h _ _=>exact absurd rfl h
  |abM h _ _=>exact absurd rfl h
  |two h _ _ _ _ _ _=>exact absurd rfl h
 |[(x,m)],n =>
  have hm:m≠0:=n.nz (x,m) dO;have ea:(cg [(x,m)]).a=m:=pO _;have eb:(cg [(x,m)]).b=m*x:=pO _;have ec:(cg [(x,m)]).c=m*x*x:=pO _;have hb:=OFF.ajm ea eb ec;have nz:cg [(x,m)]≠eY:=fun z=>hm (by rw[<-ea,z];rfl);cases t with
  |zero h=>exact absurd h nz
  |abL _ _ ha=>exact absurd (by rw[<-ea];exact ha) hm
  |one _ _ _=>rw[OFF.ajn hm ea eb,ea]
  |abM _ h _=>exact absurd hb h
  |two _ h _ _ _ _ _=>exact absurd hb h
 |[(x,m),(y,k)],n =>
  have hm:m≠0:=n.nz (x,m) dO;have hk:k≠0:=n.nz (y,k) (fX _ dO);have hxy:x<y:=by
   have:=n.up;rw[kW]at this;exact this.1 (y,k) dO
  have ea:(cg [(x,m),(y,k)]).a=m+k:=by show 0+m+k=_;lia
  have eb:(cg [(x,m),(y,k)]).b=m*x+k*y:=by show 0+m*x+k*y=_;rw[pO]
  have ec:(cg [(x,m),(y,k)]).c=m*x*x+k*y*y:=by show 0+m*x*x+k*y*y=_;rw[pO]
  have ed:(cg [(x,m),(y,k)]).d=m*x*x*x+k*y*y*y:=by show 0+m*x*x*x+k*y*y*y=_;rw[pO]
  have hb:=OFF.yN hm hk hxy ea eb ec;have e1:mH (cg [(x,m),(y,k)])=x+y:=OFF.ajo hm hk hxy ea eb ec ed;have e2:Ua (cg [(x,m),(y,k)])=x*y:=OFF.adM hm hk hxy ea eb ec ed;have e3:g8 (cg [(x,m),(y,k)])=(y-x)*(y-x):=by
   unfold g8;rw[e1,e2,OFF.aat]
  have pos:1<=(y-x)*(y-x):=by
   have:=pP (show 1<=y-x by lia) (show 1<=y-x by lia) tb_g% tb_g%;lia
  cases t with
  |zero h=>exact absurd (by rw[h];rfl) hb
  |abL _ h _=>exact absurd h hb
  |one _ h _=>exact absurd h hb
  |abM _ _ h=>rw[e3]at h;lia
  |two _ _ _ d d1 h1 h2 =>
   rw[e3]at h1 h2;have ed':d=y-x:=OFF.ajp d1 tb_g% h1 h2;subst ed';rw[e1,OFF.ak9,OFF.ajq hxy ea eb,ea];congr 3
   ·congr 1;lia
   ·congr 2;lia
 |_::_::_::_,n=>exact absurd n.two (by simp)
theorem aea{q:Q4}(t:Tof q (some L))(e:cg L=q):Hg L:=by
 cases t with
 |zero h=>exact⟨by simp,(fun p m=>nomatch m),List.Pairwise.nil⟩
 |one h hb ha=>exact⟨by simp,fun p m=>by rw[cZ.mp m];exact ha,by simp⟩
 |two h hb hs d d1 e1 e2 =>
  generalize (mH q-d) / 2=x at e ⊢;generalize (q.b-x*q.a) / d=k at e ⊢;have ea:q.a=q.a-k+k:=by lia
  have eb:q.b=(q.a-k)*x+k*(x+d):=by
   have:=congrArg Q4.b e;have e3:(cg [(x,q.a-k),(x+d,k)]).b=0+(q.a-k)*x+k*(x+d):=rfl;rw[e3,pO]at this;exact this.symm
  have ec:q.c=(q.a-k)*x*x+k*(x+d)*(x+d):=by
   have:=congrArg Q4.c e;have e3:(cg [(x,q.a-k),(x+d,k)]).c=0+(q.a-k)*x*x+k*(x+d)*(x+d):=rfl;rw[e3,pO]at this;exact this.symm
  have abP:bend q = -((q.a-k)*k*((x+d-x)*(x+d-x))):=OFF.Ds ea eb ec;refine⟨by simp,fun p m=>?_,?_⟩
  ·simp only[cO,iM,or_false]at m;rcases m with rfl|rfl
   ·intro z;have z:q.a-k=0:=z;rw[z,Bw,Bw]at abP;exact hb abP
   ·intro z;have z:k=0:=z;rw[z,YM,Bw]at abP;exact hb abP
  ·rw[kW];refine⟨fun p m=>?_,by simp⟩;rw[cZ.mp m];show x<x+d;lia
noncomputable def akf(A:Ad):Sp:=fun vs H Q E=>∃(p dx l:Addr)(s:Int)(q:Q4),vs=[.ref p]/\Bn A H p dx l s q/\1<=s/\s<=1000000000/\Sm (subQ q (iy s)) /\
 (∀(x:Addr)(ps:List Po)(H':Hp),Hg (po ps)->In s (po ps)->cg (po ps)=subQ q (iy s)->(∀M,Hg M->cg M=subQ q (iy s)->M=po ps)->Pos H' x ps->Same H H'->H x=none->Q (.ref x) H') /\
 ((∀L,Hg L->In s L->cg L≠subQ q (iy s))->∀H',Same H H'->E (.ref A.zX) none H')
theorem ok'46(T:Tx K mg A):bZ P w K mg base (CXE P w) 4 A.Zr A.tL ["self"] (akf A):=by
 k_dat (T.F'46.okE,qH) "a"
 ·obtain⟨p,dx,l,sp,q,rfl,_⟩:=h;rfl
 ·obtain ⟨p,dx,l,sp,q,rfl,hb,s1,s9,sm,k1,k0⟩:=h;refine ⟨_,(ao (PS.nox (VF (i:=1) (g:=(ac5 K 2 (yx (nM 0) (yx (nM 1) ac4)))) (k:=2) (cl:=[]) (N:=["held","due"]) (caps:=[]) (tt:=_) (te:=_) qH.nd rfl (Or.inl rfl) rfl (by with_unfolding_all rfl) tb_g% rfl tb_g% trivial (iJ (by with_unfolding_all rfl)) (fun _ _ _ _=>yC rfl (fK (rA (i:=0) (show (["held","due"]:List Str).Nodup by decide +kernel) rfl (Or.inl rfl)) (fK (rA (i:=1) (show (["held","due"]:List Str).Nodup by decide +kernel) rfl (Or.inl rfl)) rB))) rfl (cG.at (k:=2) (show cG _ _ _ _ 2 [] from trivial)) (aaq rfl T.V9 (aj (pf 0) (aj (aD (amD T) tb_g% T.F'40 aL (aj (pf 0) aq)) aq))) (fun _ _ _ _=>iC) (fun _ _ _ _=>(aH gk (pv 0) (pv 1)))))
   (ao (PS.nox (psS 2 qH.nd (aD (ok'44 T) tb_g% T.F'44 aL (aj (pv 1) aq))))
   (ao (cU (PT.nox (PW.pt (pw_or (aN aie (pv 2) mL (aM _)) (pw_or1 (lE (j8 (aD (ok'45 T) tb_g% T.F'45 aL (aj (pv 2) (aj (pv 1) (aj (pf 0) aq)))))))))) (aC (qg Kr T.jF rfl T.DR (aj dN aq))) bJ)
   (aC (PS.nox (aW (pv 2))))))),?_⟩
  refine⟨_,rfl,rdF hb.o T.jT T.oK (El _ _) ⟨_,rfl,rdF hb.o T.jT T.tU (wg _ _) ⟨sp,rfl,s1,by lia,fun dl hdl=>?_⟩⟩⟩;have sD:=Same.new (o:=.lst ((aaL sp).map V.int)) hdl;have fD:(upd H dl (.lst ((aaL sp).map V.int))) dl=some (.lst ((L4 (iy sp)).map V.int)):=ak;generalize upd H dl (.lst ((aaL sp).map V.int))=H1 at sD fD ⊢;have hb1:=hb.same sD;refine⟨l,dl,_,_,rfl,hb1.l,fD,fun D hD=>?_⟩;refine Gy (xs:=(L4 q).map V.int) (ys:=(L4 (iy sp)).map V.int) (fun i zs H2=>zs=((L4 (subQ q (iy sp))).take i).map V.int/\H2 D=some (.lst zs)/\Same H1 H2) ⟨rfl,ak,Same.new hD⟩ ?_ ?_ ?_ (BZ 0 1) ?_
  ·rintro i zs H2 ⟨rfl,f,s2⟩;exact⟨s2 _ _ hb1.l,s2 _ _ fD,f,bI (by rw[aV,iw];show min i 4<=1000;lia)⟩
  ·rintro i zs H2 u v t ws hu hv ⟨rfl,f,s2⟩ ht hw;obtain⟨w0,w1,rfl⟩:∃w0 w1,ws=[w0,w1]:=⟨_,_,aeg ws hw⟩;have s3:Same H2 (upd H2 t (.tup [u,v])):=Same.new ht;have keep:∀L b o,H1 b=some o->(upd (upd H2 t (.tup [u,v])) D L) b=some o:=fun L b o e=>by rw[aB (au e hD)];exact s3 _ _ (s2 _ _ e)
   refine⟨t,_,rfl,.inl (.inl ak),rfl,_,_,rfl,_,_,rfl,rfl,⟨[some u,some v],rfl,rfl⟩,?_⟩;rcases fM hu with⟨rfl,rfl⟩|⟨rfl,rfl⟩|⟨rfl,rfl⟩|⟨rfl,rfl⟩
   ·rcases fM hv with⟨_,rfl⟩|⟨h,_⟩|⟨h,_⟩|⟨h,_⟩
    ·exact⟨_,rfl,_,rfl,_,_,rfl,rfl,s3 _ _ f,rfl,ak,keep _⟩
    all_goals lia
   ·rcases fM hv with⟨h,_⟩|⟨_,rfl⟩|⟨h,_⟩|⟨h,_⟩
    ·lia
    ·exact⟨_,rfl,_,rfl,_,_,rfl,rfl,s3 _ _ f,rfl,ak,keep _⟩
    all_goals lia
   ·rcases fM hv with⟨h,_⟩|⟨h,_⟩|⟨_,rfl⟩|⟨h,_⟩
    ·lia
    ·lia
    ·exact⟨_,rfl,_,rfl,_,_,rfl,rfl,s3 _ _ f,rfl,ak,keep _⟩
    ·lia
   ·rcases fM hv with⟨h,_⟩|⟨h,_⟩|⟨h,_⟩|⟨_,rfl⟩
    ·lia
    ·lia
    ·lia
    ·exact⟨_,rfl,_,rfl,_,_,rfl,rfl,s3 _ _ f,rfl,ak,keep _⟩
  ·rintro zs H2 ⟨rfl,f,s2⟩;have f:H2 D=some (.lst ((L4 (subQ q (iy sp))).map V.int)):=f;refine⟨_,rfl,D,_,rfl,f,sm,fun H3 t3 s3=>?_,fun x ps H3 t3 p3 s3 n3=>?_⟩
   ·refine⟨_,rfl,rfl,_,rfl,?_⟩;rw[Mg];refine nO ⟨by show 1<=sizeLine;decide,k0 (fun L n _ e=>?_) _ ((sD.trans s2).trans s3)⟩;rw[<-e]at t3;cases Qe n t3
   have f3:=s3 _ _ f;have s123:=(sD.trans s2).trans s3;have uq:∀M,Hg M->cg M=subQ q (iy sp)->M=po ps:=fun M n e=>by
    rw[<-e]at t3;exact(cN (Qe n t3)).symm
   refine⟨_,rfl,rfl,_,rfl,uz ?_⟩;refine⟨_,rfl,_,rfl,_,rfl,rdF (s123 _ _ hb.o) T.jT T.tU (wg _ _) ⟨x,D,sp,ps,_,rfl,p3,f3,by lia,fun hin hs H4 s4=>?_,fun hn H4 s4=>?_⟩⟩
   ·exact⟨_,rfl,uz ⟨_,rfl,k1 x ps H4 (aea t3 hs) hin hs uq (p3.same s4) (s123.trans s4) ((sD.trans s2).free n3)⟩⟩
   ·refine⟨_,rfl,nO ⟨by show 1<=sizeLine;decide,k0 (fun L n hi e=>?_) _ (s123.trans s4)⟩⟩;have e2:=uq L n e;subst e2;exact hn ⟨hi,e⟩
  ·exact jG (bL 0) (bL 1)
open MK
noncomputable def apu(A:Ad):Sp:=fun vs H Q E=>∃x:KS,vs=[.ref x.k]/\Kp A H x/\akf A [.ref x.ba.p] H Q E
theorem amE(T:Tx K mg A):bZ P w K mg base (CXE P w) 5 A.Zt A.qz ["self"] (apu A):=by
 k_dat (T.F'47.okE,Iz) "a"
 ·obtain⟨x,rfl,_⟩:=h;rfl
 ·obtain⟨x,rfl,hK,q⟩:=h;refine⟨_,(aC (aW (Vb (pf 0) T.jT T.Oe (ok'46 T) tb_g% T.b'46 .nil aoN))),?_⟩;exact⟨_,rfl,rdF hK.o T.bW T.tW (m5 ..) ⟨x.ba.p,x.ba.dx,_,rfl,hK.ba.o,bfN tb_g%,q⟩⟩
open MK
noncomputable def apv:Sp:=fun vs H Q _=>∃n:Int,vs=[.bl true,.int n]/\Q .non H
theorem nT(T:Tx K mg A):bZ P w K mg base CX0 6 A.acq A.ajG Q28 apv:=by
 k_dat (T.wW.ok,alj) "a"
 ·obtain⟨_,rfl,_⟩:=h;rfl
 ·obtain⟨n,rfl,q⟩:=h;refine⟨_,(aC (cU (lE (j8 (pv 0))) (aC ah7) bJ)),?_⟩;exact⟨_,rfl,true,rfl,q⟩
noncomputable def spNum:Sp:=fun vs H Q _=>∃(n:Nat)(l:Int),vs=[.str (Dec.tx (Dec.dg n)),.int l]/\n<10 ^ 60/\∀H',Same H H'->Q (.int n) H'
theorem akg(T:Tx K mg A):bZ P w K mg base CX0 7 A.acr A.Hz Q13 spNum:=by
 k_dat (T.F'49.ok,TF) "a"
 ·obtain⟨_,_,rfl,_⟩:=h;rfl
 ·obtain ⟨n,l,rfl,hn,q⟩:=h;have hl:=Dec.aau 60 (by decide) hn;have h0:0<(Dec.dg n).length:=aez.mpr (Dec.aju n);obtain ⟨_,aeb,aec⟩:=T.adS;obtain ⟨_,Nu,Nv⟩:=T.M7;refine ⟨_,(ao (aZ (aD (nT T) tb_g% T.wW aL (aj (pU (KY rC rC aA (aO bA (by rfl) T.eF dZ (aj (pv 0) aq)) (jt (v:=.int 60) rfl Nu Nv)) (sZ (aO (zT rfl) (by rfl) T.abA Rr (aj (lJ (cl:=[]) (N:=["sign"]) (caps:=[]) (tt:=_) (te:=_) rfl (by with_unfolding_all rfl) tb_g% rfl tb_g% trivial (iJ (by with_unfolding_all rfl)) tb_g% rfl rfl rfl (cG.at (k:=1) (show cG _ _ _ _ 1 [] from trivial)) (aoW (pv 0)) (fun _ _ _ _=>iC) (fun _ _ _ _=>(cY ajw (pv 0) (jt (v:=.str "0123456789") rfl aeb aec) (by with_unfolding_all rfl)))) aq)))) (aj (pv 1) aq))))
   (ao (aZ (aD (nT T) tb_g% T.wW aL (aj (pe_or (cY iI (pv 0) dN (aM _)) (sZ (cY pY (bC aos (pv 0) aA (fun _ _=>rfl)) dN (aM _)))) (aj (pv 1) aq))))
   (aC (aW (lg aav (by rfl) T.ami agf (aj (pv 0) aq)))))),?_⟩
  have ln:(Dec.tx (Dec.dg n)).length=(Dec.dg n).length:=Dec.ajs _;have sz:(Dec.tx (Dec.dg n)).length<=sizeLine:=eN (by rw[ln];exact hl) (show 60<=sizeLine by decide);refine⟨_,rfl,.inl ⟨_,_,rfl,⟨sz,rfl⟩,?_⟩⟩;refine⟨_,_,rfl,rfl,_,rfl,?_⟩;rw[if_pos (by rw[ln];exact decide_eq_true tb_g%)];refine⟨_,_,rfl,rfl,_,rfl,?_⟩;rw[if_pos (by rw[ln];exact decide_eq_true tb_g%)];refine⟨_,rfl,_,rfl,fun D hD=>?_⟩;refine ajA (fun i ys H1=>i<=(Dec.tx (Dec.dg n)).cps.size/\ys=vd i (V.bl true)/\Same H H1/\H1 D=some (.lst ys)) ?_ ?_ ?_ ?_ ?_
  ·exact⟨eO _,rfl,Same.new hD,ak⟩
  ·intro i ys H1 hi ⟨_,e,_,d⟩;refine⟨d,?_⟩;rw[e,Ju];exact mD hi (mD (show(Dec.tx (Dec.dg n)).length<=60 by rw[ln];exact hl) (by decide))
  ·intro i ys H1 c hc ⟨hi,e,sm,d⟩;have mc:c∈(Dec.dg n).map yt:=by
    rw[<-Dec.pA,afR];exact Array.mem_of_getElem? hc
   have si:=Dec.ald (Dec.Tg n c mc);refine⟨_,rfl,_,_,rfl,rfl,d,(Ym.mp hc).1,?_,fun b u g=>by rw[aB (au g hD)];exact sm b u g,ak⟩;rw[si,e,<-List.replicate_succ']
  ·intro ys H1 ⟨_,e,sm,d⟩;have al:∀k,(vd k true).all id=true:=fun k=>by simp
   refine⟨D,vd _ true,rfl,.inl (.inl (by rw[List.map_replicate,<-e];exact d)),?_⟩;refine⟨_,rfl,l,by rw[al];rfl,?_⟩;have z48:bK "0" = ⟨#[48]⟩:=by decide +kernel
   refine⟨_,rfl,rfl,_,rfl,?_⟩;rcases Ke n with z|z
   ·subst z;rw[if_pos (decide_eq_true (by rw[z48];rfl))];exact⟨_,rfl,l,rfl,_,rfl,_,_,rfl,by rw[ln];lia,Dec.ajv tb_g%,q H1 sm⟩
   ·obtain⟨c,r,ec,hc⟩:=Dec.ale z;have el:(Dec.tx (Dec.dg n)).cps.toList=c::r:=by rw[Dec.pA];exact ec
    have ne:¬ V.str (Dec.tx (Dec.dg n))=V.str (bK "0"):=fun e=>by
     injection e with e;rw[e,z48]at el;have el:[48]=c::r:=el;injection el with e1 _;lia
    have ne2:¬ V.str ⟨#[c]⟩=V.str (bK "0"):=fun e=>by
     rw[z48]at e;injection e with e;have e:[c]=[48]:=congrArg (fun s:Str=>s.cps.toList) e;injection e with e1 _;lia
    rw[if_neg (by rw[decide_eq_false ne];exact jr)];refine⟨_,rfl,_,_,c,rfl,rfl,sz,by rw[el];simp[atI,ixN],rfl,_,rfl,l,by rw[decide_eq_false ne2];rfl,?_⟩;exact⟨_,rfl,_,_,rfl,by rw[ln];lia,Dec.ajv tb_g%,q H1 sm⟩
  ·rintro σ H Q Q' m ⟨v,e,a,b,e1,e2,q⟩;exact⟨v,e,a,b,e1,e2,m _ _ q⟩
noncomputable def wN(n:Nat):V:=.str (Dec.tx (Dec.dg n))
noncomputable def apw:Sp:=fun vs H Q _=>∃(a:Addr)(ns:List Nat)(l:Int),vs=[.ref a,.int l]/\H a=some (.lst (ns.map wN))/\(∀n∈ns,n<10 ^ 60)/\ns.length<=900 /\
 ∀D H',H D=none->Same H H'->H' D=some (.lst (ns.map fun n:Nat=>V.int n))->Q (.ref D) H'
theorem Qf(T:Tx K mg A):bZ P w K mg base CX0 8 A.acs A.Dw Q10 apw:=by
 k_dat (T.aay.ok,Ol) "a"
 ·obtain⟨_,_,_,rfl,_⟩:=h;rfl
 ·obtain⟨a,ns,l,rfl,ha,hb,hn,q⟩:=h;refine⟨_,(aC (aW (lJ (cl:=[("line",s.heap.objs.size+1)]) (N:=Q13) (caps:=[1]) (tt:=_) (te:=_) rfl (by with_unfolding_all rfl) tb_g% rfl tb_g% ⟨rfl,trivial⟩ (iJ (by with_unfolding_all rfl)) tb_g% rfl rfl rfl (cG.at (k:=1) (show cG _ _ _ _ 1 [1]from⟨⟨"line",_,rfl,rfl,.inl rfl,.inl rfl,rfl⟩,trivial⟩)) (gj (pv 0)) (fun _ _ _ _=>iC) (fun _ _ _ _=>(aD (akg T) (by exact hr.mono (by decide)) T.F'49 aL (aj (pv 0) (aj (pv 1) aq))))))),?_⟩;refine⟨_,rfl,a,rfl,⟨_,.inl (.inl ha)⟩,fun D hD=>?_⟩;refine jd (K:=K) (a:=a) (xs:=ns.map wN) (fun i ys G=>ys=(ns.take i).map (fun n:Nat=>V.int n)/\G D=some (.lst ys)/\Same H G) ⟨rfl,ak,Same.new hD⟩ ?_ ?_ ?_ ?_
  ·rintro i ys G hi ⟨rfl,gD,sG⟩;refine⟨.inl (.inl (sG _ _ ha)),gD,bI ?_⟩;rw[aV,iw];lia
  ·rintro i ys G x hx ⟨rfl,gD,sG⟩;rw[gQ,KC]at hx;obtain⟨n,hi,rfl⟩:=hx;refine⟨_,rfl,_,rfl,n,l,rfl,hb n (List.mem_of_getElem? hi),fun G1 s1=>?_⟩;refine⟨s1 _ _ gD,?_,ak,fun b o e=>?_⟩
   ·rw[qM,hi,cM];rfl
   ·rw[aB (au e hD)];exact s1 _ _ (sG b o e)
  ·rintro ys G ⟨rfl,gD,sG⟩;rw[aV,m9]at gD;exact q D G hD sG gD
  ·rintro σ H R R' hr ⟨v,e,w,e2,n,l,en,hn,q⟩;exact⟨v,e,w,e2,n,l,en,hn,fun H1 s1=>hr _ _ (q H1 s1)⟩
noncomputable def spSb:Sp:=fun vs H Q _=>∃r c s:Int,vs=[.int r,.int c,.int s]/\r % 2=0/\2<=r/\r<=64/\1<=c/\c<=1000000000/\1<=s/\s<=1000000000/\Q (.bl true) H
theorem ok'51(T:Tx K mg A):bZ P w K mg base CX0 1 A.acu A.yR Q29 spSb:=by
 k_dat (T.F'51.ok,IK) "a"
 ·obtain⟨_,_,_,rfl,_⟩:=h;rfl
 ·obtain ⟨r,c,p,rfl,h1,h2,h3,h4,h5,h6,h7,q⟩:=h;obtain ⟨_,Uc,Ud⟩:=T.Tt;obtain ⟨_,Ue,Ug⟩:=T.Tw;obtain ⟨_,Ws,Wt⟩:=T.Wa;obtain ⟨_,Wu,Wv⟩:=T.Wb;refine ⟨_,(ao (cU (PW.pt (pw_or (aN pY (aH eU (pv 0) aA) aA (aM _)) (pw_or (aN pZ (pv 0) (jt (v:=.int 2) rfl Uc Ud) (aM _)) (pw_or1 (aN oO (pv 0) (jt (v:=.int 64) rfl Ws Wt) (aM _)))))) (aC (aW kZ)) bJ)
   (aC (aW (pU (KY rC rC aA (pv 1) (jt (v:=.int 1000000000) rfl Ue Ug)) (sZ (KY rC rC aA (pv 2) (jt (v:=.int 1000000000) rfl Wu Wv))))))),?_⟩
  refine⟨_,rfl,_,_,rfl,rfl,(show(0:Int)<2 by decide),rfl,_,rfl,yH (show V.int (r % 2)=V.int 0 by rw[h1]) ?_⟩;refine⟨_,rfl,_,_,rfl,rfl,_,rfl,fO (fun e=>absurd (of_decide_eq_true e) tb_g%) fun _=>?_⟩;refine⟨_,rfl,_,_,rfl,rfl,_,rfl,fO (fun e=>absurd (of_decide_eq_true e) tb_g%) fun _=>?_⟩;refine⟨_,rfl,_,_,rfl,rfl,_,rfl,?_⟩;rw[if_pos (decide_eq_true h4)];refine⟨_,_,rfl,rfl,_,rfl,?_⟩;rw[if_pos (decide_eq_true h5)];refine⟨_,rfl,_,_,rfl,rfl,_,rfl,?_⟩;rw[if_pos (decide_eq_true h6)];refine⟨_,_,rfl,rfl,?_⟩;show Q (.bl (decide (p<=1000000000))) H;rw[decide_eq_true h7];exact q
noncomputable def spBo:Sp:=fun vs H Q _=>∃(a:Addr)(r c p:Nat)(l:Int),vs=[.ref a,.int l]/\H a=some (.lst [wN r,wN c,wN p])/\r % 2=0/\2<=r/\r<=64/\1<=c/\c<=1000000000/\1<=p/\p<=1000000000 /\
 ∀D H',H D=none->Same H H'->H' D=some (.lst [.int r,.int c,.int p])->Q (.ref D) H'
theorem ok'52(T:Tx K mg A):bZ P w K mg base CX0 9 A.acv A.HB Q10 spBo:=by
 k_dat (T.F'52.ok,Ea) "a"
 ·obtain⟨_,_,_,_,_,rfl,_⟩:=h;rfl
 ·obtain ⟨a,r,c,p,l,rfl,ha,h1,h2,h3,h4,h5,h6,h7,q⟩:=h;refine ⟨_,(ao (psS 2 Ea.nd (aD (Qf T) tb_g% T.aay aL (aj (pv 0) (aj (pv 1) aq))))
   (ao (aZ (aD (nT T) tb_g% T.wW aL (aj (pU (cY iI (aO bA (by rfl) T.eF dZ (aj (pv 2) aq)) aA (aM _)) (sZ (aD (ok'51 T) tb_g% T.F'51 aL (aj (bC (ixG (aY hr)) (pv 2) aA (fun _ _=>rfl)) (aj (bC (ixG (aY hr)) (pv 2) aA (fun _ _=>rfl)) (aj (bC (ixG (aY hr)) (pv 2) aA (fun _ _=>rfl)) aq)))))) (aj (pv 1) aq))))
   (aC (aW (pv 2))))),?_⟩
  refine⟨_,rfl,_,rfl,a,[r,c,p],l,rfl,ha,fun n m=>?_,(show 3<=900 by decide),fun D G hD sG gD=>?_⟩
  ·have m:n=r\/n=c\/n=p:=by simpa using m
   have:n<=1000000000:=by lia
   exact mD this (by decide)
  have gD:G D=some (.lst [.int r,.int c,.int p]):=gD;have sD:SqL K G D [.int r,.int c,.int p]:=.inl (.inl gD);refine⟨_,rfl,cX sD ?_⟩;refine⟨rfl,_,rfl,?_⟩;refine fO (fun _=>?_) fun e=>absurd (decide_eq_true rfl) e;refine⟨_,rfl,cD sD rfl ?_⟩;refine⟨_,rfl,cD sD rfl ?_⟩;refine⟨_,rfl,cD sD rfl ?_⟩;refine⟨r,c,p,rfl,by lia,by lia,by lia,by lia,by lia,by lia,by lia,?_⟩;exact⟨_,rfl,l,rfl,_,rfl,q D G hD sG gD⟩
noncomputable def spWo:Sp:=fun vs H Q _=>∃(a:Addr)(ls:List Str)(k:Nat)(ws:List Str)(nm:Str),vs=[.ref a,.int (k+1:Nat),.str nm]/\H a=some (.lst (ls.map V.str))/\ls[k]? = some (fu (bK " ") (nm::ws)) /\
 sX (fu (bK " ") (nm::ws)) (bK " ")=nm::ws/\(fu (bK " ") (nm::ws)).length<=1048576/\ls.length<=900/\∀D H',H D=none->Same H H'->H' D=some (.lst (ws.map V.str))->Q (.ref D) H'
theorem Ie(T:Tx K mg A):bZ P w K mg base CX0 7 A.acw A.MF Q35 spWo:=by
 k_dat (T.Tr.ok,HY) "a"
 ·obtain⟨_,_,_,_,_,rfl,_⟩:=h;rfl
 ·obtain ⟨a,ls,k,ws,nm,rfl,ha,hk,sp,le,few,q⟩:=h;have lt:=(gn.mp hk).1;have sa:SqL K H a (ls.map V.str):=.inl (.inl ha);refine ⟨_,(ao (aZ (aD (nT T) tb_g% T.wW aL (aj (cY rC (pv 1) (aO bA (by rfl) T.eF dZ (aj (pv 0) aq)) (aM _)) (aj (pv 1) aq))))
   (ao (psS 3 HY.nd (lG Ks af3 af4 VJ (bC (ixG (aY hr)) (pv 0) (aH gk (pv 1) aA) (fun _ _=>rfl)) (aj dN aq)))
   (ao (aZ (aD (nT T) tb_g% T.wW aL (aj (cY iI (bC (ixG (aY hr)) (pv 3) aA (fun _ _=>rfl)) (pv 2) (aM _)) (aj (pv 1) aq))))
   (aC (aW (jz m8 (pv 3) (dW aA) iB)))))),?_⟩
  refine⟨_,rfl,_,rfl,cX sa ?_⟩;have c1:decide (((k+1:Nat):Int)<=((ls.map V.str).length:Nat))=true:=decide_eq_true (by rw[aV];lia);refine⟨_,_,rfl,rfl,_,rfl,(k+1:Nat),by show[V.bl (decide (((k+1:Nat):Int)<=((ls.map V.str).length:Nat))),V.int (k+1:Nat)]=_;rw[c1],?_⟩;have c2:atI (ls.map V.str) (((k+1:Nat):Int)-1)=some (.str (fu (bK " ") (nm::ws))):=by
   rw[show((k+1:Nat):Int)-1=(k:Nat) by lia];exact oY (by rw[gQ,hk];rfl)
  refine⟨_,rfl,_,rfl,_,_,rfl,rfl,cD sa c2 ?_⟩;refine⟨rfl,_,_,rfl,rfl,by decide +kernel,le,fun D hD=>?_⟩;rw[sp];have sD:SqL K (upd H D (.lst ((nm::ws).map V.str))) D ((nm::ws).map V.str):=.inl (.inl ak);refine⟨_,rfl,cD sD (v:=.str nm) (oY (j:=0) rfl) ?_⟩;refine⟨_,rfl,rfl,_,rfl,(k+1:Nat),by rw[decide_eq_true rfl];rfl,?_⟩;refine⟨_,rfl,1,rfl,D,_,rfl,sD,fun p hp=>?_⟩;refine q p _ (by cases e:H p with|none=>rfl|some o=>rw[Same.new hD p o e]at hp;cases hp) ((Same.new hD).trans (Same.new hp)) ?_;rw[ak,show Gu ((nm::ws).map V.str) (some 1) none=ws.map V.str by simp[Gu,HT.sIx];rw[<-aV (f:=V.str) (as:=ws),m9]]
open MK
theorem Ww{c:Nat}{r:List Nat}(h:(Dec.tx (Dec.dg n)).cps.toList=c::r):48<=c/\c<=57:=Dec.Tg n c (by rw[<-Dec.pA,h];exact dO)
theorem wN_ne{c:Nat}(hc:c<48):¬ Dec.tx (Dec.dg n)=⟨#[c]⟩:=fun e=>by
 have:=(Ww (n:=n) (c:=c) (r:=[]) (by rw[e])).1;lia
theorem akh(n:Nat):agB (Dec.tx (Dec.dg n)) (bK "-")=false:=by
 have z45:bK "-" = ⟨#[45]⟩:=by decide +kernel
 rw[z45];cases h:(Dec.tx (Dec.dg n)).cps.toList with
 |nil=>rw[Dec.pA]at h;exact absurd (Qk.mp h) (Dec.aju n)
 |cons c r =>
  have hc:=Ww h;have e:(Dec.tx (Dec.dg n))=⟨(c::r).toArray⟩:=by
   cases hx:Dec.tx (Dec.dg n)with
   |mk cps=>rw[hx]at h;show Str.mk cps=_;rw[<-h,Yn]
  rw[e];have:((c::r).toArray.extract 0 1 == #[45])=false:=by
   rw[show(c::r).toArray.extract 0 1=#[c] by apply Yp.mp;simp];simp;lia
  exact(congrArg (fun z=>_ && z) this).trans (Bool.and_false _)
noncomputable def spSg:Sp:=fun vs H Q _=>∃(n:Nat)(l:Int),vs=[.str (Dec.tx (Dec.dg n)),.int l]/\n<10 ^ 60/\∀H',Same H H'->Q (.int n) H'
theorem ok'54(T:Tx K mg A):bZ P w K mg base CX0 8 A.acy A.HD Q13 spSg:=by
 k_dat (T.F'54.ok,Eb) "a"
 ·obtain⟨_,_,rfl,_⟩:=h;rfl
 ·obtain ⟨n,l,rfl,hn,q⟩:=h;refine ⟨_,(ao (cU (lE (j8 (lG Ks PySem.F.slot_str_startswith PySem.F.type_str_startswith N8 (pv 0) (aj dN aq)))) (aC (aW (aD (akg T) tb_g% T.F'49 aL (aj (pv 0) (aj (pv 1) aq))))) bJ)
   (ao (psS 2 Eb.nd (aD (akg T) tb_g% T.F'49 aL (aj (jz aoX (pv 0) (dW aA) iB) (aj (pv 1) aq))))
   (ao (aZ (aD (nT T) tb_g% T.wW aL (aj (cY pY (pv 2) aA (aM _)) (aj (pv 1) aq))))
   (aC (aW (Ho yG (pv 2))))))),?_⟩
  refine⟨_,rfl,rfl,_,_,rfl,rfl,false,by rw[akh],?_⟩;exact⟨_,rfl,_,rfl,n,l,rfl,hn,q⟩
noncomputable def spPt:Sp:=fun vs H Q _=>∃(a:Addr)(ns:List Nat),vs=[.ref a]/\H a=some (.lst (ns.map wN))/\ns.length<=900/\∀G D H',H G=none->H D=none->Same H H'->H' G=some (.lst [.ref D])->H' D=some (.lst (ns.map wN))->Q (.ref G) H'
theorem ok'55(T:Tx K mg A):bZ P w K mg base CX0 1 A.acz A.V6 ["words"] spPt:=by
 k_dat (T.F'55.ok,GZ) "a"
 ·obtain⟨_,_,rfl,_⟩:=h;rfl
 ·obtain ⟨a,ns,rfl,ha,hn,q⟩:=h;refine ⟨_,(ao (psS 1 GZ.nd (dG (aj (dG aq) aq)))
   (ao (j9 jK rfl (gj (pv 0)) (pgN 2 GZ.nd) (aC (cU (aN iI (pv 2) dN (aM _)) (aC (aZ (lG qT yd yg gF (pv 1) (aj (dG aq) aq)))) (aC (aZ (lG qT yd yg gF (bC (ixG (aY hr)) (pv 1) (Ho yG aA) (fun _ _=>rfl)) (aj (pv 2) aq)))))))
   (aC (aW (pv 1))))),?_⟩
  refine⟨by show 0<=sizeLine;decide,fun D hD=>⟨by show 1<=sizeLine;decide,fun G hG=>?_⟩⟩;have s1:=Same.new (o:=.lst []) hD;have d1:(upd H D (.lst [])) D=some (.lst []):=ak;generalize upd H D (.lst [])=H1 at s1 d1 hG ⊢;have nG:H G=none:=s1.free hG;have ne:D≠G:=au d1 hG;refine⟨_,rfl,a,rfl,⟨_,.inl (.inl ((Same.new hG) _ _ (s1 _ _ ha)))⟩,ur (K:=K) (a:=a) (xs:=ns.map wN) (fun i σ J=>∃y:Option V,σ=[some (.ref a),some (.ref G),y]/\Same H J/\J G=some (.lst [.ref D])/\J D=some (.lst ((ns.take i).map wN))) ⟨none,rfl,s1.trans (Same.new hG),ak,(Same.new hG) _ _ d1⟩ (fun i σ J _ ⟨_,_,s,_⟩=>.inl (.inl (s _ _ ha))) ?_ ?_⟩
  ·rintro i v σ J hi ⟨y,rfl,sJ,gJ,dJ⟩;rw[gQ,KC]at hi;obtain⟨n,hi,rfl⟩:=hi;have z47:bK "/" = ⟨#[47]⟩:=by decide +kernel
   have li:i<ns.length:=(gn.mp hi).1;refine⟨_,rfl,rfl,_,rfl,fO (fun e=>?_) fun _=>?_⟩
   ·have e:=of_decide_eq_true e;injection e with e;rw[z47]at e;exact absurd e (wN_ne (by decide))
   refine⟨_,rfl,_,rfl,cD (.inl (.inl gJ)) (v:=.ref D) rfl ⟨.inl ⟨rfl,_,.inl (.inl dJ)⟩,_,rfl,D,_,_,rfl,rfl,dJ,bI (by rw[aV,iw];lia),?_⟩⟩;refine⟨_,rfl,fun b o e=>by rw[aB (au e hD)];exact sJ b o e,by rw[aB (aX ne)];exact gJ,?_⟩;rw[ak,qM,hi,cM];rfl
  ·rintro σ J ⟨y,rfl,sJ,gJ,dJ⟩;rw[aV,m9]at dJ;exact⟨_,rfl,q G D J nG hD sJ gJ dJ⟩
open MK
noncomputable def amF:Sp:=fun _ _ _ _=>False
theorem ok'79(T:Tx K mg A):bZ P w K mg base CX0 1 A.acX A.rK Q15 amF:=T.F'79.ok Ci (fun _ _ _ _ h=>h.elim) (fun _ _ _ _ _ _ _ _ _ h=>h.elim)
theorem ok'80(T:Tx K mg A):bZ P w K mg base CX0 1 A.acY A.DG Q16 amF:=T.F'80.ok Om (fun _ _ _ _ h=>h.elim) (fun _ _ _ _ _ _ _ _ _ h=>h.elim)
noncomputable def spRi:Sp:=fun vs H Q _=>∃a,vs=[.ref a]/\H a=some (.lst [])/\∀H',Same H H'->Q (.bl true) H'
theorem amG(T:Tx K mg A):bZ P w K mg base CX0 1 A.acA A.wH Q14 spRi:=by
 k_dat (T.F'56.ok,uM) "a"
 ·obtain⟨_,rfl,_⟩:=h;rfl
 ·obtain ⟨a,rfl,ha,q⟩:=h;obtain ⟨_,Nk,Nm⟩:=T.aaA;refine ⟨_,(ao (psS 1 uM.nd (aO (zT rfl) (by rfl) T.abA Rr (aj (VD (g:=(ac5 K 2 (yx (nM 0) (yx (nM 1) ac4)))) (k:=2) (cl:=[]) (N:=Q1) (caps:=[]) (tt:=_) (te:=_) rfl (by with_unfolding_all rfl) tb_g% rfl tb_g% trivial (iJ (by with_unfolding_all rfl)) (fun _ _ _ _=>yC rfl (fK (rA (i:=0) (show (Q1:List Str).Nodup by decide +kernel) rfl (Or.inl rfl)) (fK (rA (i:=1) (show (Q1:List Str).Nodup by decide +kernel) rfl (Or.inl rfl)) rB))) rfl (cG.at (k:=2) (show cG _ _ _ _ 2 [] from trivial)) (aaq rfl T.V9 (aj (pv 0) (aj (jz m8 (pv 0) (dW aA) iB) aq))) (fun _ _ _ _=>iC) (fun _ _ _ _=>(cY pZ (pv 0) (pv 1) (aM _)))) aq)))
   (aC (aW (pU (pv 1) (sZ (cY pZ (Dp false T.abB (pv 0) aA rfl) (jt (v:=.int 1152921504606846976) rfl Nk Nm) (aM _))))))),?_⟩
  refine⟨_,rfl,_,rfl,1,rfl,a,_,rfl,.inl (.inl ha),fun p hp=>?_⟩;have s1:=Same.new (o:=.lst []) hp;have e1:(upd H p (.lst [])) p=some (.lst []):=ak;rw[show Gu ([]:List V) (some 1) none=[]from rfl];generalize upd H p (.lst [])=H1 at s1 e1 ⊢;refine⟨a,p,[],[],rfl,s1 _ _ ha,e1,fun D hD=>?_⟩;refine Gy (xs:=[]) (ys:=[]) (fun i zs H2=>zs=[]/\H2 D=some (.lst [])/\Same H1 H2) ⟨rfl,ak,Same.new hD⟩ ?_ ?_ ?_ (BZ 0 1) ?_
  ·rintro i zs H2 ⟨rfl,f,s2⟩;exact⟨s2 _ _ (s1 _ _ ha),s2 _ _ e1,f,by show 0<sizeLine;decide⟩
  ·intro i zs H2 x y t ws hx;cases hx
  ·rintro zs H2 ⟨rfl,f,s2⟩;refine⟨D,[],rfl,.inl (.inl f),?_⟩;refine⟨_,rfl,_,rfl,nO ?_⟩;refine⟨_,rfl,a,[],rfl,.inl (.inl (s2 _ _ (s1 _ _ ha))),fun v hv=>?_⟩;obtain rfl:v=.int 0:=hv.elim (·.2) fun⟨_,_,m,_⟩=>nomatch m;exact⟨_,_,rfl,rfl,q _ (s1.trans s2)⟩
  ·exact jG (bL 0) (bL 1)
noncomputable def spSF(A:Ad):Sp:=fun vs H Q _=>∃(f:Fq)(a:Addr)(room:Nat),vs=[.ref f.p,.ref a]/\pF A H room f/\f.t=0/\f.l=0/\room<=64/\H a=some (.lst [])/\∀H',Same H H'->Q (.bl true) H'
theorem ok'57(T:Tx K mg A):bZ P w K mg base CX0 2 A.acB A.uJ Q36 (spSF A):=by
 k_dat (T.F'57.ok,rO) "a"
 ·obtain⟨_,_,_,rfl,_⟩:=h;rfl
 ·obtain ⟨f,a,room,rfl,hf,h0,l0,r64,ha,q⟩:=h;have o:=hf.o;rw [h0,l0] at o;refine ⟨_,(ao (mU (i:=2) (cl:=[("frequent",s.heap.objs.size+1)]) (N:=["thing","frequent"]) (caps:=[0]) (tt:=_) (te:=(tOp (Dd K) (ZF K _ "counts") _)) rO.nd rfl (Or.inl rfl) rfl (by with_unfolding_all rfl) tb_g% rfl tb_g% ⟨rfl,trivial⟩ (iJ (by with_unfolding_all rfl)) tb_g% rfl rfl rfl (cG.at (k:=1) (show cG _ _ _ _ 1 [0] from ⟨⟨"frequent",_,rfl,rfl,.inl rfl,.inl rfl,rfl⟩,trivial⟩)) (gj (pv 1)) (fun _ _ _ _=>iC) (fun _ _ _ _=>(bC (ixG (by exact aY hr)) (pf 1) (pv 0) (fun _ _=>rfl))))
   (ao (cU (PW.pt (pw_or (lE (j8 (aD (amG T) tb_g% T.F'56 aL (aj (pv 1) aq)))) (pw_or1 (aN oO (aO bA (by rfl) T.eF dZ (aj (pv 1) aq)) (pf 0) (aM _))))) (aC (aW kZ)) bJ)
   (aC (aW (pU (cY Ai (Dp true T.amj (pv 2) aA rfl) aA (aM _)) (sZ (cY rC (aH bM (aO (pJ rfl) (by rfl) T.PK Gb (aj (pv 2) aq)) (aH gU (aH bM (pf 0) aA) (pf 0))) (pf 0) (aM _)))))))),?_⟩
  refine⟨_,rfl,a,rfl,⟨_,.inl (.inl ha)⟩,fun D hD=>?_⟩;refine jd (K:=K) (a:=a) (xs:=[]) (fun i ys G=>ys=[]/\G D=some (.lst [])/\Same H G) ⟨rfl,ak,Same.new hD⟩ ?_ ?_ ?_ ?_
  ·rintro i ys G hi ⟨rfl,gD,sG⟩;exact⟨.inl (.inl (sG _ _ ha)),gD,by show 0<sizeLine;decide⟩
  ·intro i ys G x hx;cases hx
  ·rintro ys G ⟨rfl,gD,sG⟩;refine⟨_,rfl,a,rfl,sG _ _ ha,fun G2 s2=>⟨_,rfl,uz ?_⟩⟩;have s02:=sG.trans s2;have o2:=s02 _ _ o;refine⟨_,rfl,cX (.inl (.inl (s02 _ _ ha))) ⟨_,rfl,rdF o2 T.fQ T.qF (rW _ _ _ _) ⟨_,_,rfl,rfl,_,rfl,fO (fun e=>absurd (of_decide_eq_true e) (by show ¬ ((0:Nat):Int)>room;lia)) fun _=>?_⟩⟩⟩;refine⟨_,rfl,D,[],rfl,.inl (.inl (s2 _ _ gD)),fun v hv=>?_⟩;obtain rfl:v=.int 1:=hv.elim (·.2) fun⟨_,_,m,_⟩=>nomatch m;refine⟨_,_,rfl,rfl,_,rfl,nO ?_⟩;refine⟨_,rfl,D,[],rfl,.inl (.inl (s2 _ _ gD)),?_⟩;refine⟨_,rfl,rdF o2 T.fQ T.qF (rW _ _ _ _) ⟨_,_,rfl,rfl,_,rfl,rdF o2 T.fQ T.tR (Jl _ _ _ _) ⟨_,_,rfl,rfl,iR (by decide) (by decide),_,_,rfl,rfl,_,rfl,rdF o2 T.fQ T.tQ (Ek _ _ _ _) ⟨_,_,rfl,rfl,?_⟩⟩⟩⟩;have e:decide ((([]:List Int).sum+((room:Int)+1)*0)<=0)=true:=decide_eq_true (by simp);show Q (.bl (decide (([]:List Int).sum+((room:Int)+1)*0<=0))) G2;rw[e];exact q G2 s02
  ·exact pq (yM (bL 1)) (bL 0)
noncomputable def spSR0(A:Ad):Sp:=fun vs H Q _=>∃(p:Addr)(x:Rs),vs=[.ref p]/\RnX A H p x/\x.tt=0/\x.ov=0/\x.un=0/\x.tn=0/\x.bs=[]/\∀H',Same H H'->Q (.bl true) H'
theorem ok'58(T:Tx K mg A):bZ P w K mg base CX0 2 A.acC A.Ao Q15 (spSR0 A):=by
 k_dat (T.F'58.ok,Nh) "a"
 ·obtain⟨_,_,rfl,_⟩:=h;rfl
 ·obtain ⟨p,x,rfl,hx,e1,e2,e3,e4,e5,q⟩:=h;have o:=hx.o;have l:=hx.l.o;rw [e1,e2,e3,e4] at o;rw [e5] at l;obtain ⟨_,Nk,Nm⟩:=T.aaA;refine ⟨_,(ao (cU (aN iI (pf 0) aA (aM _)) (aC (aW (pU (cY (Tf hr.units) (pf 0) (dG aq) (aM _)) (pU (cY iI (pf 0) aA (aM _)) (pU (cY iI (pf 0) aA (aM _)) (sZ (cY iI (pf 0) aA (aM _)))))))) bJ)
   (ao (cU (PW.pt (pw_or (aN (Tf hr.units) (pf 0) (dG aq) (aM _)) (pw_or1 (aN (Tf hr.units) (bC (ixG (aY hr)) (pf 0) (Ho yG aA) (fun _ _=>rfl)) (dG aq) (aM _))))) (aC (aW kZ)) bJ)
   (ao (cU (PW.pt (pw_or (aN oO (pf 0) (pf 0) (aM _)) (pw_or (aN Ai (pf 0) (jt (v:=.int 1152921504606846976) rfl Nk Nm) (aM _)) (pw_or1 (lE (j8 (aD (ok'79 T) tb_g% T.F'79 aL (aj (pv 0) aq)))))))) (aC (aW kZ)) bJ)
   (ao (cU (lE (j8 (aO (zT rfl) (by rfl) T.abA Rr (aj (lJ (cl:=[("rungs",s.heap.objs.size+1)]) (N:=Q16) (caps:=[0]) (tt:=_) (te:=_) rfl (by with_unfolding_all rfl) tb_g% rfl tb_g% ⟨rfl,trivial⟩ (iJ (by with_unfolding_all rfl)) tb_g% rfl rfl rfl (cG.at (k:=1) (show cG _ _ _ _ 1 [0] from ⟨⟨"rungs",_,rfl,rfl,.inl rfl,.inl rfl,rfl⟩,trivial⟩)) (gj (pf 0)) (fun _ _ _ _=>iC) (fun _ _ _ _=>(aD (ok'80 T) (by exact hr.mono (by decide)) T.F'80 aL (aj (pv 0) (aj (pv 1) aq))))) aq)))) (aC (aW kZ)) bJ)
   (aC (aW (cY rC (aH gU (aH bM (pf 0) (pf 0)) (pf 0)) (aH gU (pf 0) (aH gk (aO bA (by rfl) T.eF dZ (aj (pf 0) aq)) aA)) (aM _)))))))),?_⟩
  refine⟨_,rfl,rdF o T.bV T.wM (uP ..) ⟨rfl,_,rfl,nO ?_⟩⟩;refine⟨_,rfl,rdF o T.bV T.yV (uQ ..) ⟨by show 0<=sizeLine;decide,fun D hD=>?_⟩⟩;have s1:=Same.new (o:=.lst []) hD;refine⟨1,x.a,D,rfl,rfl,by decide,.lst (xs:=[]) (ys:=[]) (.inl (.inl (s1 _ _ l))) (.inl (.inl ak)) rfl (fun i x y h=>nomatch h),_,rfl,nO ?_⟩;have o1:=s1 _ _ o;refine⟨_,rfl,rdF o1 T.bV T.Aw (Jk ..) ⟨rfl,_,rfl,nO ?_⟩⟩;refine⟨_,rfl,rdF o1 T.bV T.Ax (Ed ..) ⟨rfl,_,rfl,nO ?_⟩⟩;exact⟨_,rfl,rdF o1 T.bV T.qC (nR ..) ⟨rfl,q _ s1⟩⟩
noncomputable def spSW(A:Ad):Sp:=fun vs H Q _=>∃(p dx l:Addr)(r k c:Int),vs=[.ref p]/\Wn A H p dx l r k c []/\Q (.bl true) H
theorem ok'59(T:Tx K mg A):bZ P w K mg base CX0 1 A.acD A.yS Q11 (spSW A):=by
 k_dat (T.F'59.ok,gW) "a"
 ·obtain⟨_,_,_,_,_,_,rfl,_⟩:=h;rfl
 ·obtain ⟨p,dx,l,r,k,c,rfl,hw,q⟩:=h;refine ⟨_,(ao (psS 1 gW.nd aA)
   (ao (j9 jK rfl (gj (pf 0)) (yC rfl (fK (pgN 2 gW.nd) (fK (pgN 3 gW.nd) (fK (pgN 4 gW.nd) rB)))) (ao (cU (PW.pt (pw_or (aN rC (pv 2) (pv 1) (aM _)) (pw_or (aN pZ (pv 3) (pv 2) (aM _)) (pw_or1 (aN pZ (pv 4) aA (aM _)))))) (aC (aW kZ)) bJ)
   (ao (cU (PW.pt (pw_or (aN oO (pv 3) (pf 0) (aM _)) (pw_or1 (aN rC (pv 3) (aH gk (pf 0) (pf 0)) (aM _))))) (aC (aW kZ)) bJ)
   (aC (psS 1 gW.nd (pv 3))))))
   (aC (aW kZ)))),?_⟩
  refine⟨_,rfl,rdF hw.o T.dI T.qD (uU ..) ⟨l,rfl,⟨_,.inl (.inl hw.b.l)⟩,ur (K:=K) (a:=l) (xs:=[]) (fun i σ G=>G=H) rfl (fun i σ G _ e=>by rw[e];exact .inl (.inl hw.b.l)) (fun i v σ G hi=>nomatch hi) fun σ G e=>?_⟩⟩;rw[e];exact q
theorem ok'60(T:Tx K mg A):bZ P w K mg base CX0 1 A.acE A.Dy Q11 (spSW A):=by
 k_dat (T.F'60.ok,gw) "a"
 ·obtain⟨_,_,_,_,_,_,rfl,_⟩:=h;rfl
 ·obtain ⟨p,dx,l,r,k,c,rfl,hw,q⟩:=h;refine ⟨_,(ao (psS 1 gw.nd aA)
   (ao (psS 2 gw.nd aA)
   (ao (j9 jK rfl (ai6 rfl T.Cg (aj (pf 0) aq)) (yC rfl (fK (pgN 3 gw.nd) (fK (pgN 4 gw.nd) (fK (pgN 5 gw.nd) rB)))) (ao (cU (PW.pt (pw_and (aN pY (pv 3) (pv 4) (aM _)) (pw_and1 (aN oO (aH gU (pv 5) (pf 0)) (pv 1) (aM _))))) (aC (aW kZ)) bJ)
   (ao (cU (aN rC (aH gU (aH bM (pv 5) (pv 2)) (pf 0)) (aH gk (pv 1) (pv 2)) (aM _)) (aC (aW kZ)) bJ)
   (ao (psS 1 gw.nd (aH bM (pv 1) (pv 5)))
   (aC (psS 2 gw.nd (pv 5)))))))
   (aC (aW kZ))))),?_⟩
  refine⟨_,rfl,rdF hw.o T.dI T.qD (uU ..) ⟨l,_,rfl,.inl (.inl hw.b.l),abp (K:=K) (a:=l) (xs:=[]) (fun i σ G=>G=H) rfl (fun i σ G _ e=>by rw[e];exact .inl (.inl hw.b.l)) (fun i v σ G hi=>nomatch hi) fun σ G e=>?_⟩⟩;rw[e];exact q
theorem ok'61(T:Tx K mg A):bZ P w K mg base CX0 2 A.acF A.yU Q11 (spSW A):=by
 k_dat (T.F'61.ok,IV) "a"
 ·obtain⟨_,_,_,_,_,_,rfl,_⟩:=h;rfl
 ·obtain⟨p,dx,l,r,k,c,rfl,hw,q⟩:=h;refine⟨_,(aC (aW (pU (aD (ok'59 T) tb_g% T.F'59 aL (aj (pv 0) aq)) (sZ (aD (ok'60 T) tb_g% T.F'60 aL (aj (pv 0) aq)))))),?_⟩;exact⟨_,rfl,p,dx,l,r,k,c,rfl,hw,_,rfl,nO ⟨_,rfl,p,dx,l,r,k,c,rfl,hw,q⟩⟩
noncomputable def spSD(A:Ad):Sp:=fun vs H Q _=>∃(p dx l:Addr)(r:Int),vs=[.ref p]/\Dn A H p dx l r 0 0 []/\0<=r/\∀H',Same H H'->Q (.bl true) H'
theorem ok'62(T:Tx K mg A):bZ P w K mg base CX0 3 A.acG A.uK ["distinct"] (spSD A):=by
 k_dat (T.F'62.ok,rP) "a"
 ·obtain⟨_,_,_,_,rfl,_⟩:=h;rfl
 ·obtain ⟨p,dx,l,r,rfl,hd,r0,q⟩:=h;have o:=hd.o;have hl:H l=some (.lst []):=hd.l;obtain ⟨_,Uh,Ui⟩:=T.Tv;refine ⟨_,(ao (cU (PW.pt (pw_or (aN oO (pf 0) (jt (v:=.int 60) rfl Uh Ui) (aM _)) (pw_or (lE (j8 (aD (amG T) tb_g% T.F'56 aL (aj (pf 0) aq)))) (pw_or1 (aN oO (aO bA (by rfl) T.eF dZ (aj (pf 0) aq)) (pf 0) (aM _)))))) (aC (aW kZ)) bJ)
   (ao (cU (lE (j8 (aO (zT rfl) (by rfl) T.abA Rr (aj (lJ (cl:=[("distinct",s.heap.objs.size+1)]) (N:=["thing","distinct"]) (caps:=[0]) (tt:=_) (te:=(tOp _ _ (ZF K _ "level"))) rfl (by with_unfolding_all rfl) tb_g% rfl tb_g% ⟨rfl,trivial⟩ (iJ (by with_unfolding_all rfl)) tb_g% rfl rfl rfl (cG.at (k:=1) (show cG _ _ _ _ 1 [0] from ⟨⟨"distinct",_,rfl,rfl,.inl rfl,.inl rfl,rfl⟩,trivial⟩)) (gj (pf 0)) (fun _ _ _ _=>iC) (fun _ _ _ _=>(cY Ai (aD (ajV T) (by exact hr.mono (by decide)) T.F'15 aL (aj (pv 0) aq)) (pf 1) (aM _)))) aq)))) (aC (aW kZ)) bJ)
   (ao (psS 1 rP.nd (CT (aN iI (pf 0) aA (aM _)) (aO bA (by rfl) T.eF dZ (aj (pf 0) aq)) (aH bM (pf 0) aA)))
   (aC (aW (cY Ai (pf 0) (pv 1) (aM _))))))),?_⟩
  refine⟨_,rfl,rdF o T.dM T.lO (lX _ _ _ _) ⟨_,_,rfl,rfl,_,rfl,uz ?_⟩⟩;refine⟨_,rfl,rdF o T.dM T.mW (rR _ _ _ _) ⟨l,rfl,hl,fun H1 s1=>⟨_,rfl,uz ?_⟩⟩⟩;have o1:=s1 _ _ o;have l1:=s1 _ _ hl;refine⟨_,rfl,rdF o1 T.dM T.mW (rR _ _ _ _) (cX (.inl (.inl l1)) ⟨_,rfl,rdF o1 T.dM T.tM (v8 _ _ _ _) ⟨_,_,rfl,rfl,_,rfl,fO (fun e=>absurd (of_decide_eq_true e) (by show ¬ ((0:Nat):Int)>r;lia)) fun _=>?_⟩⟩)⟩;refine⟨_,rfl,rdF o1 T.dM T.mW (rR _ _ _ _) ⟨l,rfl,⟨_,.inl (.inl l1)⟩,fun D hD=>?_⟩⟩;refine jd (K:=K) (a:=l) (xs:=[]) (fun i ys G=>ys=[]/\G D=some (.lst [])/\Same H1 G) ⟨rfl,ak,Same.new hD⟩ ?_ ?_ ?_ ?_
  ·rintro i ys G hi ⟨rfl,gD,sG⟩;exact⟨.inl (.inl (sG _ _ l1)),gD,by show 0<sizeLine;decide⟩
  ·intro i ys G x hx;cases hx
  ·rintro ys G ⟨rfl,gD,sG⟩;have o2:=sG _ _ o1;refine⟨D,[],rfl,.inl (.inl gD),_,rfl,uz ?_⟩;refine⟨_,rfl,rdF o2 T.dM T.lO (lX _ _ _ _) ⟨rfl,_,rfl,nO ?_⟩⟩;refine⟨_,rfl,rdF o2 T.dM T.mW (rR _ _ _ _) (cX (.inl (.inl (sG _ _ l1))) ?_)⟩;exact⟨_,rfl,rdF o2 T.dM T.tO (rQ _ _ _ _) ⟨_,rfl,_,_,rfl,rfl,q G (s1.trans sG)⟩⟩
  ·exact jG (by rintro σ H R R' hq ⟨v,e,c,ec,q⟩;exact⟨v,e,c,ec,fun h mh=>hq _ _ (q h mh)⟩) (yM (bL 1))
open MK
noncomputable def spRK(A:Ad):Sp:=fun vs H Q _=>∃(a:Addr)(r c p:Nat)(l:Int),vs=[.ref a,.int l]/\H a=some (.lst [wN r,wN c,wN p])/\r % 2=0/\2<=r/\r<=64/\1<=c/\c<=1000000000/\1<=p/\p<=1000000000 /\
 ∀(x:KS)(H':Hp),Kp A H' x->Eqp x (K0 r c p)->(∀b∈x.all,H b=none)->(∀b∈x.ems,H b=none)->Same H H'->Q (.ref x.k) H'
theorem ok'63(T:Tx K mg A):bZ P w K mg base CX0 10 A.acH A.HF Q10 (spRK A):=by
 k_dat (T.F'63.ok,Ec) "a"
 ·obtain⟨_,_,_,_,_,rfl,_⟩:=h;rfl
 ·obtain ⟨a,r,c,p,l,rfl,ha,h1,h2,h3,h4,h5,h6,h7,q⟩:=h;refine ⟨_,(ao (psS 2 Ec.nd (aD (ok'52 T) tb_g% T.F'52 aL (aj (pv 0) (aj (pv 1) aq))))
   (aC (aW (iz T.abz (abK T) tb_g% rfl T.vR T.b'31 .nil aL (aj (bC (ixG (aY hr)) (pv 2) aA (fun _ _=>rfl)) (aj (bC (ixG (aY hr)) (pv 2) aA (fun _ _=>rfl)) (aj (bC (ixG (aY hr)) (pv 2) aA (fun _ _=>rfl)) aq))))))),?_⟩
  refine⟨_,rfl,_,rfl,a,r,c,p,l,rfl,ha,h1,h2,h3,h4,h5,h6,h7,fun D G hD sG gD=>?_⟩;have sD:SqL K G D [.int r,.int c,.int p]:=.inl (.inl gD);refine⟨_,rfl,cD sD (v:=.int r) rfl ⟨_,rfl,cD sD (v:=.int c) rfl ⟨_,rfl,cD sD (v:=.int p) rfl fun k dk n1 n2 n3=>⟨k,dk,r,c,p,rfl,ak,h2,h3,h1,fun y H2 kp eqy ek T9 aki bt=>⟨rfl,?_⟩⟩⟩⟩⟩;have up2:Same G (upd (upd G dk (.own k)) k (.ins A.iH dk [])):=fun b o e=>by rw[aB (au e n1),aB (au e n2)];exact e
  rw [<- ek];exact q y H2 kp eqy (fun b m=>by
   rcases cO.mp (show b∈y.k::y.pts from m)with z|z
   ·rw[z,ek];exact sG.free n1
   ·exact sG.free (up2.free (T9 b z))) (fun b m=>sG.free (up2.free (aki b m))) (sG.trans fun b o e=>bt b o (up2 b o e) (au e n1))
theorem mJ{C D:Addr}{fs:List (Str × V)}{vs:List V}(hp:H p=some (.ins C e fs))(hD:H D=some (.lst vs)):(upd H p o) D=some (.lst vs):=by
 rw[aB (iY hD hp (by intro z;cases z))];exact hD
theorem zer{k:Nat}:∀n∈vd k 0,n<10 ^ 60:=fun n m=>by rw[(List.mem_replicate.mp m).2];decide
noncomputable def spRF(A:Ad):Sp:=fun vs H Q _=>∃(f:Fq)(a:Addr)(room:Nat)(l:Int),vs=[.ref f.p,.ref a,.int l]/\pF A H room f/\room<=64/\H a=some (.lst [wN 0,wN 0])/\∀d H',pF A H' room ⟨f.p,f.dx,d,0,0,[]⟩->But f.p H H'->Q .non H'
theorem amH(T:Tx K mg A):bZ P w K mg base CX0 9 A.acI A.wI Q37 (spRF A):=by
 k_dat (T.F'64.ok,mY) "a"
 ·obtain⟨_,_,_,_,rfl,_⟩:=h;rfl
 ·obtain ⟨f,a,room,l,rfl,hf,r64,ha,q⟩:=h;refine ⟨_,(ao (psS 3 mY.nd (aD (Qf T) tb_g% T.aay aL (aj (pv 1) (aj (pv 2) aq))))
   (ao (aZ (aD (nT T) tb_g% T.wW aL (aj (pU (cY Ai (aO bA (by rfl) T.eF dZ (aj (pv 3) aq)) aA (aM _)) (sZ (cY iI (aH eU (aO bA (by rfl) T.eF dZ (aj (pv 3) aq)) aA) aA (aM _)))) (aj (pv 2) aq))))
   (ao (aQ (pv 0) (bC (ixG (aY hr)) (pv 3) aA (fun _ _=>rfl)) rfl)
   (ao (aQ (pv 0) (bC (ixG (aY hr)) (pv 3) aA (fun _ _=>rfl)) rfl)
   (ao (psS 4 mY.nd (pI (pv 3) (dW aA) iB (dW aA)))
   (ao (aQ (pv 0) (V0 rfl rfl T.aaz rfl T.V9 (aj (pv 4) (aj (pI (pv 3) (dW aA) iB (dW aA)) aq))) rfl)
   (aC (aZ (aD (nT T) tb_g% T.wW aL (aj (aD (ok'57 T) tb_g% T.F'57 aL (aj (pv 0) (aj (pv 4) aq))) (aj (pv 2) aq))))))))))),?_⟩
  refine ⟨_,rfl,_,rfl,a,[0,0],l,rfl,ha,zer (k:=2),by decide,fun D G hD sG gD=>?_⟩;have gD:G D=some (.lst [.int 0,.int 0]):=gD;have sD:SqL K G D [.int 0,.int 0]:=.inl (.inl gD);refine ⟨_,rfl,cX sD ⟨_,_,rfl,rfl,_,rfl,nO ⟨_,rfl,cX sD ⟨_,_,rfl,rfl,(by show (0:Int)<2;decide),rfl,_,rfl,l,rfl,?_⟩⟩⟩⟩;have o:=sG _ _ hf.o;have b:=sG.but f.p;refine ⟨_,rfl,cD sD (v:=.int 0) rfl ⟨_,rfl,f.p,_,f.dx,_,rfl,o,T.fQ,T.tQ,(by show 4<1000;decide),?_⟩⟩;rw [T7];have g1:=mJ (o:=.ins A.gB f.dx (fl room 0 f.l f.d)) o gD;refine ⟨_,rfl,cD (.inl (.inl g1)) (v:=.int 0) rfl ⟨_,rfl,f.p,_,f.dx,_,rfl,ak,T.fQ,T.tR,(by show 4<1000;decide),?_⟩⟩;rw [cQ,T8];have g2:=mJ (o:=.ins A.gB f.dx (fl room 0 0 f.d)) o gD;have o2:(upd G f.p (.ins A.gB f.dx (fl room 0 0 f.d))) f.p=some (.ins A.gB f.dx (fl room 0 0 f.d)):=ak;replace b:=b.trans (But.upd (p:=f.p) (H:=G) (o:=.ins A.gB f.dx (fl room 0 0 f.d)));generalize upd G f.p (.ins A.gB f.dx (fl room 0 0 f.d))=G2 at g2 o2 b ⊢;refine ⟨_,rfl,2,rfl,2,rfl,2,rfl,by decide,D,_,rfl,.inl (.inl g2),fun t ht=>?_⟩;rw [show Dq 2 [V.int 0,V.int 0] (some 2) none=[] from rfl];have sT:=Same.new (o:=.lst []) ht;have t2:(upd G2 t (.lst [])) t=some (.lst []):=ak;generalize upd G2 t (.lst [])=G3 at sT t2 ⊢;refine ⟨_,rfl,_,rfl,3,rfl,2,rfl,2,rfl,by decide,D,_,rfl,.inl (.inl (sT _ _ g2)),fun u hu=>?_⟩;rw [show Dq 2 [V.int 0,V.int 0] (some 3) none=[] from rfl];have sU:=Same.new (o:=.lst []) hu;have u2:(upd G3 u (.lst [])) u=some (.lst []):=ak;generalize upd G3 u (.lst [])=G4 at sU u2 ⊢;refine ⟨t,u,rfl,sU _ _ t2,u2,fun d hd=>?_⟩;have sE:=Same.new (o:=.dK []) hd;have d2:(upd G4 d (.dK [])) d=some (.dK []):=ak;generalize upd G4 d (.dK [])=G5 at sE d2 ⊢;have s5:=sT.trans (sU.trans sE);refine ⟨_,rfl,f.p,_,f.dx,_,rfl,s5 _ _ o2,T.fQ,T.yW,(by show 4<1000;decide),?_⟩;rw [abH];have o6:pF A (upd G5 f.p (.ins A.gB f.dx (fl room 0 0 d))) room ⟨f.p,f.dx,d,0,0,[]⟩:=⟨ak,by
   show (upd G5 f.p _) d=some (.dK []);rw [aB (iY d2 (s5 _ _ o2) (by intro z;cases z))];exact d2⟩
  have t6:=mJ (o:=.ins A.gB f.dx (fl room 0 0 d)) (s5 _ _ o2) ((sU.trans sE) _ _ t2);replace b:=(b.trans (s5.but f.p)).trans (But.upd (p:=f.p) (H:=G5) (o:=.ins A.gB f.dx (fl room 0 0 d)));generalize upd G5 f.p (.ins A.gB f.dx (fl room 0 0 d))=G6 at o6 t6 b ⊢;exact⟨_,rfl,_,rfl,⟨f.p,f.dx,d,0,0,[]⟩,t,room,rfl,o6,rfl,rfl,r64,t6,fun H' s'=>⟨_,rfl,l,rfl,q d H' (o6.same s') (b.trans (s'.but f.p))⟩⟩
noncomputable def spRR(A:Ad):Sp:=fun vs H Q _=>∃(p:Addr)(x:Rs)(a:Addr)(l:Int),vs=[.ref p,.ref a,.int l]/\RnX A H p x/\x.mi=none/\x.ma=none/\H a=some (.lst [wN 0,wN 0,wN 0,wN 0])/\∀d H',H d=none->RnX A H' p ⟨x.dx,d,[],x.r,0,0,0,0,none,none,[]⟩->But p H H'->Q .non H'
theorem amI(T:Tx K mg A):bZ P w K mg base CX0 9 A.acJ A.Dz Q38 (spRR A):=by
 k_dat (T.F'65.ok,tY) "a"
 ·obtain⟨_,_,_,_,rfl,_⟩:=h;rfl
 ·obtain ⟨p,x,a,l,rfl,hx,e1,e2,ha,q⟩:=h;refine ⟨_,(ao (psS 3 tY.nd (aD (ok'55 T) tb_g% T.F'55 aL (aj (pv 1) aq)))
   (ao (psS 4 tY.nd (aD (Qf T) tb_g% T.aay aL (aj (bC (ixG (aY hr)) (pv 3) aA (fun _ _=>rfl)) (aj (pv 2) aq))))
   (ao (aZ (aD (nT T) tb_g% T.wW aL (aj (cY Ai (aO bA (by rfl) T.eF dZ (aj (pv 4) aq)) aA (aM _)) (aj (pv 2) aq))))
   (ao (aQ (pv 0) (bC (ixG (aY hr)) (pv 4) aA (fun _ _=>rfl)) rfl)
   (ao (aQ (pv 0) (bC (ixG (aY hr)) (pv 4) aA (fun _ _=>rfl)) rfl)
   (ao (aQ (pv 0) (bC (ixG (aY hr)) (pv 4) aA (fun _ _=>rfl)) rfl)
   (ao (aQ (pv 0) (bC (ixG (aY hr)) (pv 4) aA (fun _ _=>rfl)) rfl)
   (ao (aZ (aD (nT T) tb_g% T.wW aL (aj (cY iI (aO bA (by rfl) T.eF dZ (aj (pv 4) aq)) (CT (aN iI (pf 0) aA (aM _)) aA aA) (aM _)) (aj (pv 2) aq))))
   (ao (cU (aN pY (pf 0) aA (aM _)) (ao (aQ (pv 0) (bC (ixG (aY hr)) (pv 4) aA (fun _ _=>rfl)) rfl)
   (aC (aQ (pv 0) (bC (ixG (aY hr)) (pv 4) aA (fun _ _=>rfl)) rfl))) bJ)
   (ao (aQ (pv 0) (lJ (cl:=[("line",s.heap.objs.size+1)]) (N:=["group","line"]) (caps:=[2]) (tt:=_) (te:=_) rfl (by with_unfolding_all rfl) tb_g% rfl tb_g% ⟨rfl,trivial⟩ (iJ (by with_unfolding_all rfl)) tb_g% rfl rfl rfl (cG.at (k:=1) (show cG _ _ _ _ 1 [2] from ⟨⟨"line",_,rfl,rfl,.inl rfl,.inl rfl,rfl⟩,trivial⟩)) (gj (jz m8 (pv 3) (dW aA) iB)) (fun _ _ _ _=>iC) (fun _ _ _ _=>(aD (Qf T) (by exact hr.mono (by decide)) T.aay aL (aj (pv 0) (aj (pv 1) aq))))) rfl)
   (aC (aZ (aD (nT T) tb_g% T.wW aL (aj (aD (ok'58 T) tb_g% T.F'58 aL (aj (pv 0) aq)) (aj (pv 2) aq))))))))))))))),?_⟩
  refine⟨_,rfl,a,[0,0,0,0],rfl,ha,by decide,fun G0 D0 H1 nG nD s1 g1 d1=>?_⟩;refine⟨_,rfl,cD (.inl (.inl g1)) (v:=.ref D0) rfl ⟨_,rfl,D0,[0,0,0,0],l,rfl,d1,zer (k:=4),by decide,fun D G hD sG gD=>?_⟩⟩;have gD:G D=some (.lst [.int 0,.int 0,.int 0,.int 0]):=gD;have sD:SqL K G D [.int 0,.int 0,.int 0,.int 0]:=.inl (.inl gD);refine⟨_,rfl,cX sD ⟨_,_,rfl,rfl,_,rfl,l,rfl,?_⟩⟩;have g1:=sG _ _ g1;have s1:=s1.trans sG;have o:=s1 _ _ hx.o;rw[e1,e2]at o;have b:=s1.but p;refine⟨_,rfl,cD (.inl (.inl gD)) (v:=.int 0) rfl ⟨_,rfl,p,_,x.dx,_,rfl,o,T.bV,T.wM,(by show 8<1000;decide),?_⟩⟩;rw[vY];refine⟨_,rfl,cD (.inl (.inl (mJ o gD))) (v:=.int 0) rfl ⟨_,rfl,p,_,x.dx,_,rfl,ak,T.bV,T.Aw,(by show 8<1000;decide),?_⟩⟩;rw[cQ,zG];refine⟨_,rfl,cD (.inl (.inl (mJ o gD))) (v:=.int 0) rfl ⟨_,rfl,p,_,x.dx,_,rfl,ak,T.bV,T.Ax,(by show 8<1000;decide),?_⟩⟩;rw[cQ,vZ];refine⟨_,rfl,cD (.inl (.inl (mJ o gD))) (v:=.int 0) rfl ⟨_,rfl,p,_,x.dx,_,rfl,ak,T.bV,T.qC,(by show 8<1000;decide),?_⟩⟩;rw[cQ,pC];have g2:=mJ (o:=.ins A.cV x.dx (rg (.int x.r) (.int 0) (.int 0) (.int 0) (.int 0) .non .non (.ref x.a))) o gD;have g3:=mJ (o:=.ins A.cV x.dx (rg (.int x.r) (.int 0) (.int 0) (.int 0) (.int 0) .non .non (.ref x.a))) o g1;replace b:=b.trans (But.upd (p:=p) (H:=G) (o:=.ins A.cV x.dx (rg (.int x.r) (.int 0) (.int 0) (.int 0) (.int 0) .non .non (.ref x.a))));have o2:(upd G p (.ins A.cV x.dx (rg (.int x.r) (.int 0) (.int 0) (.int 0) (.int 0) .non .non (.ref x.a)))) p=_:=ak;generalize hG2:upd G p (.ins A.cV x.dx (rg (.int x.r) (.int 0) (.int 0) (.int 0) (.int 0) .non .non (.ref x.a)))=G2 at g2 g3 o2 b;refine(show upd G p (.ins A.cV x.dx (rg (.int x.r) (.int 0) (.int 0) (.int 0) (.int 0) (oV none) (oV none) (.ref x.a)))=G2 from hG2) ▸ ?_;refine⟨_,rfl,cX (.inl (.inl g2)) ⟨_,rfl,rdF o2 T.bV T.wM (uP ..) ⟨rfl,_,rfl,nO ⟨rfl,_,rfl,l,rfl,?_⟩⟩⟩⟩;refine⟨_,rfl,rdF o2 T.bV T.wM (uP ..) ⟨rfl,_,rfl,uz ?_⟩⟩;refine⟨_,rfl,1,rfl,G0,_,rfl,.inl (.inl g3),fun t ht=>?_⟩;have sT:=Same.new (o:=.lst []) ht;rw[show Gu [V.ref D0] (some 1) none=[]from rfl];have t2:(upd G2 t (.lst [])) t=some (.lst []):=ak;generalize upd G2 t (.lst [])=G3 at sT t2 ⊢;refine⟨t,rfl,⟨_,.inl (.inl t2)⟩,fun d hd=>?_⟩;refine jd (K:=K) (a:=t) (xs:=[]) (fun i ys J=>ys=[]/\J d=some (.lst [])/\Same G3 J) ⟨rfl,ak,Same.new hd⟩ ?_ ?_ ?_ ?_
  ·rintro i ys J hi ⟨rfl,gJ,sJ⟩;exact⟨.inl (.inl (sJ _ _ t2)),gJ,by show 0<sizeLine;decide⟩
  ·intro i ys J y hy;cases hy
  ·rintro ys J ⟨rfl,gJ,sJ⟩;have oJ:=(sT.trans sJ) _ _ o2;refine⟨_,rfl,p,_,x.dx,_,rfl,oJ,T.bV,T.yV,(by show 8<1000;decide),?_⟩;rw[Eh];have R:RnX A (upd J p (.ins A.cV x.dx (rg (.int x.r) (.int 0) (.int 0) (.int 0) (.int 0) .non .non (.ref d)))) p ⟨x.dx,d,[],x.r,0,0,0,0,none,none,[]⟩:=Rn.new ak (mJ oJ gJ);replace b:=(b.trans ((sT.trans sJ).but p)).trans (But.upd (p:=p) (H:=J) (o:=.ins A.cV x.dx (rg (.int x.r) (.int 0) (.int 0) (.int 0) (.int 0) .non .non (.ref d))));have nd:H d=none:=gh (b:=hG2 ▸ (s1.but p).trans But.upd) (sT.free hd) fun z=>by
    have:=sT.free hd;rw[z,o2]at this;cases this
   generalize upd J p (.ins A.cV x.dx (rg (.int x.r) (.int 0) (.int 0) (.int 0) (.int 0) .non .non (.ref d)))=J2 at R b ⊢;exact⟨_,rfl,p,_,rfl,R,rfl,rfl,rfl,rfl,rfl,fun H' s'=>⟨_,rfl,l,rfl,q d H' nd (R.same s') (b.trans (s'.but p))⟩⟩
  ·rintro σ H R R' hq ⟨v,e,w,e2,a,ns,l,en,h1,h2,h3,q⟩;exact⟨v,e,w,e2,a,ns,l,en,h1,h2,h3,fun D H' hD s hH=>hq _ _ (q D H' hD s hH)⟩
noncomputable def spRW(A:Ad):Sp:=fun vs H Q _=>∃(p dx l0:Addr)(r k c:Int)(ps:List Bp)(a:Addr)(l:Int),vs=[.ref p,.ref a,.int l]/\Wn A H p dx l0 r k c ps/\H a=some (.lst [wN 0])/\∀d H',H d=none->Wn A H' p dx d r k 0 []->But p H H'->Q .non H'
theorem ok'66(T:Tx K mg A):bZ P w K mg base CX0 9 A.acK A.Aq Q39 (spRW A):=by
 k_dat (T.F'66.ok,zE) "a"
 ·obtain⟨_,_,_,_,_,_,_,_,_,rfl,_⟩:=h;rfl
 ·obtain ⟨p,dx,l0,r,k,c,ps,a,l,rfl,hw,ha,q⟩:=h;refine ⟨_,(ao (psS 3 zE.nd (aD (Qf T) tb_g% T.aay aL (aj (pv 1) (aj (pv 2) aq))))
   (ao (aZ (aD (nT T) tb_g% T.wW aL (aj (cY iI (aH eU (aO bA (by rfl) T.eF dZ (aj (pv 3) aq)) aA) aA (aM _)) (aj (pv 2) aq))))
   (ao (aQ (pv 0) (bC (ixG (aY hr)) (pv 3) aA (fun _ _=>rfl)) rfl)
   (ao (aQ (pv 0) (V1 rfl rfl T.M6 rfl T.V9 (aj (pI (pv 3) (dW aA) iB (dW aA)) (aj (pI (pv 3) (dW aA) iB (dW aA)) (aj (pI (pv 3) (dW aA) iB (dW aA)) aq)))) rfl)
   (aC (aZ (aD (nT T) tb_g% T.wW aL (aj (aD (ok'61 T) tb_g% T.F'61 aL (aj (pv 0) aq)) (aj (pv 2) aq))))))))),?_⟩
  refine⟨_,rfl,_,rfl,a,[0],l,rfl,ha,zer (k:=1),by decide,fun D G hD sG gD=>?_⟩;have gD:G D=some (.lst [.int 0]):=gD;have sD:SqL K G D [.int 0]:=.inl (.inl gD);refine⟨_,rfl,cX sD ⟨_,_,rfl,rfl,(by show(0:Int)<3;decide),rfl,_,rfl,l,rfl,?_⟩⟩;have o:=sG _ _ hw.o;have b:=sG.but p;refine⟨_,rfl,cD sD (v:=.int 0) rfl ⟨_,rfl,p,_,dx,_,rfl,o,T.dI,T.jM,(by show 4<1000;decide),?_⟩⟩;rw[pD];have g1:=mJ (o:=.ins A.gY dx (wf (.int r) (.int k) (.int 0) (.ref l0))) o gD;have o1:(upd G p (.ins A.gY dx (wf (.int r) (.int k) (.int 0) (.ref l0)))) p=_:=ak;replace b:=b.trans (But.upd (p:=p) (H:=G) (o:=.ins A.gY dx (wf (.int r) (.int k) (.int 0) (.ref l0))));generalize upd G p (.ins A.gY dx (wf (.int r) (.int k) (.int 0) (.ref l0)))=G1 at g1 o1 b ⊢;refine⟨_,rfl,1,rfl,3,rfl,3,rfl,by decide,D,_,rfl,.inl (.inl g1),fun t ht=>?_⟩;rw[show Dq 3 [V.int 0] (some 1) none=[]from rfl];have sT:=Same.new (o:=.lst []) ht;have t2:(upd G1 t (.lst [])) t=some (.lst []):=ak;generalize upd G1 t (.lst [])=G2 at sT t2 ⊢;refine⟨_,rfl,2,rfl,3,rfl,3,rfl,by decide,D,_,rfl,.inl (.inl (sT _ _ g1)),fun u hu=>?_⟩;rw[show Dq 3 [V.int 0] (some 2) none=[]from rfl];have sU:=Same.new (o:=.lst []) hu;have u2:(upd G2 u (.lst [])) u=some (.lst []):=ak;generalize upd G2 u (.lst [])=G3 at sU u2 ⊢;refine⟨_,rfl,3,rfl,3,rfl,3,rfl,by decide,D,_,rfl,.inl (.inl (sU _ _ (sT _ _ g1))),fun v hv=>?_⟩;rw[show Dq 3 [V.int 0] (some 3) none=[]from rfl];have sV:=Same.new (o:=.lst []) hv;have v2:(upd G3 v (.lst [])) v=some (.lst []):=ak;generalize upd G3 v (.lst [])=G4 at sV v2 ⊢;refine⟨t,u,v,rfl,sV _ _ (sU _ _ t2),sV _ _ u2,v2,fun d hd=>?_⟩;have sE:=Same.new (o:=.lst ([]:List V)) hd;have d2:(upd G4 d (.lst [])) d=some (.lst []):=ak;have s4:=sT.trans (sU.trans sV);have nd:H d=none:=gh b (s4.free hd) fun z=>by
   have:=s4.free hd;rw[z,o1]at this;cases this
  generalize upd G4 d (.lst [])=G5 at sE d2 ⊢;have o5:=(s4.trans sE) _ _ o1;refine⟨_,rfl,p,_,dx,_,rfl,o5,T.dI,T.qD,(by show 4<1000;decide),?_⟩;rw[Ej];have W:Wn A (upd G5 p (.ins A.gY dx (wf (.int r) (.int k) (.int 0) (.ref d)))) p dx d r k 0 []:=⟨ak,⟨mJ o5 d2,fun _ m=>(nomatch m)⟩⟩;replace b:=(b.trans ((s4.trans sE).but p)).trans (But.upd (p:=p) (H:=G5) (o:=.ins A.gY dx (wf (.int r) (.int k) (.int 0) (.ref d))));generalize upd G5 p (.ins A.gY dx (wf (.int r) (.int k) (.int 0) (.ref d)))=G6 at W b ⊢;exact⟨_,rfl,p,dx,d,r,k,0,rfl,W,_,rfl,l,rfl,q d G6 nd W b⟩
noncomputable def spRD(A:Ad):Sp:=fun vs H Q _=>∃(p dx l0:Addr)(r n v:Int)(ks:List Int)(a:Addr)(l:Int),vs=[.ref p,.ref a,.int l]/\Dn A H p dx l0 r n v ks/\0<=r/\H a=some (.lst [wN 0,wN 0])/\∀d H',H d=none->Dn A H' p dx d r 0 0 []->But p H H'->Q .non H'
theorem ok'67(T:Tx K mg A):bZ P w K mg base CX0 9 A.acL A.wK Q40 (spRD A):=by
 k_dat (T.F'67.ok,uN) "a"
 ·obtain⟨_,_,_,_,_,_,_,_,_,rfl,_⟩:=h;rfl
 ·obtain ⟨p,dx,l0,r,n,v,ks,a,l,rfl,hd,r0,ha,q⟩:=h;refine ⟨_,(ao (psS 3 uN.nd (aD (Qf T) tb_g% T.aay aL (aj (pv 1) (aj (pv 2) aq))))
   (ao (aZ (aD (nT T) tb_g% T.wW aL (aj (cY Ai (aO bA (by rfl) T.eF dZ (aj (pv 3) aq)) aA (aM _)) (aj (pv 2) aq))))
   (ao (aQ (pv 0) (bC (ixG (aY hr)) (pv 3) aA (fun _ _=>rfl)) rfl)
   (ao (aQ (pv 0) (bC (ixG (aY hr)) (pv 3) aA (fun _ _=>rfl)) rfl)
   (ao (aQ (pv 0) (jz m8 (pv 3) (dW aA) iB) rfl)
   (aC (aZ (aD (nT T) tb_g% T.wW aL (aj (aD (ok'62 T) tb_g% T.F'62 aL (aj (pv 0) aq)) (aj (pv 2) aq)))))))))),?_⟩
  refine⟨_,rfl,_,rfl,a,[0,0],l,rfl,ha,zer (k:=2),by decide,fun D G hD sG gD=>?_⟩;have gD:G D=some (.lst [.int 0,.int 0]):=gD;have sD:SqL K G D [.int 0,.int 0]:=.inl (.inl gD);refine⟨_,rfl,cX sD ⟨_,_,rfl,rfl,_,rfl,l,rfl,?_⟩⟩;have o:=sG _ _ hd.o;have b:=sG.but p;refine⟨_,rfl,cD sD (v:=.int 0) rfl ⟨_,rfl,p,_,dx,_,rfl,o,T.dM,T.tO,(by show 4<1000;decide),?_⟩⟩;rw[oN];refine⟨_,rfl,cD (.inl (.inl (mJ o gD))) (v:=.int 0) rfl ⟨_,rfl,p,_,dx,_,rfl,ak,T.dM,T.lO,(by show 4<1000;decide),?_⟩⟩;rw[cQ,v9];have g1:=mJ (o:=.ins A.gR dx (df (.int r) (.int 0) (.int 0) (.ref l0))) o gD;have o1:(upd G p (.ins A.gR dx (df (.int r) (.int 0) (.int 0) (.ref l0)))) p=_:=ak;replace b:=b.trans (But.upd (p:=p) (H:=G) (o:=.ins A.gR dx (df (.int r) (.int 0) (.int 0) (.ref l0))));generalize upd G p (.ins A.gR dx (df (.int r) (.int 0) (.int 0) (.ref l0)))=G1 at g1 o1 b ⊢;refine⟨_,rfl,2,rfl,D,_,rfl,.inl (.inl g1),fun d hd=>?_⟩;rw[show Gu [V.int 0,V.int 0] (some 2) none=[]from rfl];have nd:H d=none:=gh b hd fun z=>by rw[z,o1]at hd;cases hd
  have sE:=Same.new (o:=.lst []) hd;have d2:(upd G1 d (.lst [])) d=some (.lst []):=ak;generalize upd G1 d (.lst [])=G2 at sE d2 ⊢;have o2:=sE _ _ o1;refine⟨_,rfl,p,_,dx,_,rfl,o2,T.dM,T.mW,(by show 4<1000;decide),?_⟩;rw[Ib];have W:Dn A (upd G2 p (.ins A.gR dx (df (.int r) (.int 0) (.int 0) (.ref d)))) p dx d r 0 0 []:=⟨ak,mJ o2 d2⟩;replace b:=(b.trans (sE.but p)).trans (But.upd (p:=p) (H:=G2) (o:=.ins A.gR dx (df (.int r) (.int 0) (.int 0) (.ref d))));generalize upd G2 p (.ins A.gR dx (df (.int r) (.int 0) (.int 0) (.ref d)))=G3 at W b ⊢;exact⟨_,rfl,p,dx,d,r,rfl,W,r0,fun H' s'=>⟨_,rfl,l,rfl,q d H' nd (W.same s') (b.trans (s'.but p))⟩⟩
structure Nq(q:Q4)(n:Nat->Nat):Prop where
 a:q.a=n 0
 b:q.b=n 1
 c:q.c=n 2
 d:q.d=n 3
 s:∀i,n i<10 ^ 60
noncomputable def w4(n:Nat->Nat):List V:=[wN (n 0),wN (n 1),wN (n 2),wN (n 3)]
noncomputable def spRB(A:Ad):Sp:=fun vs H Q _=>∃(p dx l0:Addr)(sp:Int)(q0 q:Q4)(n:Nat->Nat)(a:Addr)(l:Int),vs=[.ref p,.ref a,.int l]/\Bn A H p dx l0 sp q0/\H a=some (.lst (w4 n))/\Nq q n/\∀d H',Bn A H' p dx d sp q->But p H H'->Q .non H'
theorem ok'68(T:Tx K mg A):bZ P w K mg base CX0 9 A.acM A.HJ Q30 (spRB A):=by
 k_dat (T.F'68.ok,TJ) "a"
 ·obtain⟨_,_,_,_,_,_,_,_,_,rfl,_⟩:=h;rfl
 ·obtain ⟨p,dx,l0,sp,q0,q4,n,a,l,rfl,hb,ha,nq,q⟩:=h;have sa:SqL K H a (w4 n):=.inl (.inl ha);refine ⟨_,(ao (aZ (aD (nT T) tb_g% T.wW aL (aj (cY iI (aO bA (by rfl) T.eF dZ (aj (pv 1) aq)) aA (aM _)) (aj (pv 2) aq))))
   (aC (aQ (pv 0) (lJ (cl:=[("line",s.heap.objs.size+1)]) (N:=Q13) (caps:=[2]) (tt:=_) (te:=_) rfl (by with_unfolding_all rfl) tb_g% rfl tb_g% ⟨rfl,trivial⟩ (iJ (by with_unfolding_all rfl)) tb_g% rfl rfl rfl (cG.at (k:=1) (show cG _ _ _ _ 1 [2] from ⟨⟨"line",_,rfl,rfl,.inl rfl,.inl rfl,rfl⟩,trivial⟩)) (gj (pv 1)) (fun _ _ _ _=>iC) (fun _ _ _ _=>(aD (ok'54 T) (by exact hr.mono (by decide)) T.F'54 aL (aj (pv 0) (aj (pv 1) aq))))) rfl))),?_⟩
  refine⟨_,rfl,cX sa ⟨rfl,_,rfl,l,rfl,?_⟩⟩;refine⟨_,rfl,a,rfl,⟨_,sa⟩,fun D hD=>?_⟩;refine jd (K:=K) (a:=a) (xs:=w4 n) (fun i ys G=>ys=((L4 q4).take i).map V.int/\G D=some (.lst ys)/\Same H G) ⟨rfl,ak,Same.new hD⟩ ?_ ?_ ?_ ?_
  ·rintro i ys G hi ⟨rfl,gD,sG⟩;exact⟨.inl (.inl (sG _ _ ha)),gD,bI (by rw[aV,iw];show min i 4<=1000;lia)⟩
  ·rintro i ys G x hx ⟨rfl,gD,sG⟩;have key:∃j,x=wN (n j)/\((L4 q4).take (i+1)).map V.int=((L4 q4).take i).map V.int++[.int (n j)]:=by
    match i,hx with
    |0,hx=>exact⟨0,(cN hx).symm,by rw[<-nq.a];rfl⟩
    |1,hx=>exact⟨1,(cN hx).symm,by rw[<-nq.b];rfl⟩
    |2,hx=>exact⟨2,(cN hx).symm,by rw[<-nq.c];rfl⟩
    |3,hx=>exact⟨3,(cN hx).symm,by rw[<-nq.d];rfl⟩
    |_+4,hx=>exact nomatch hx
   obtain⟨j,rfl,e⟩:=key;refine⟨_,rfl,_,rfl,n j,l,rfl,nq.s j,fun G1 s1=>⟨s1 _ _ gD,by rw[e],ak,fun b o e=>?_⟩⟩;rw[aB (au e hD)];exact s1 _ _ (sG b o e)
  ·rintro ys G ⟨rfl,gD,sG⟩;have gD:G D=some (.lst ((L4 q4).map V.int)):=gD;have o:=sG _ _ hb.o;refine⟨_,rfl,p,_,dx,_,rfl,o,T.jT,T.oK,(by show 2<1000;decide),?_⟩;rw[rY];exact q D _ ⟨ak,mJ o gD⟩ ((sG.but p).trans But.upd)
  ·rintro σ H R R' hr ⟨v,e,w,e2,n,l,en,hn,q⟩;exact⟨v,e,w,e2,n,l,en,hn,fun H1 s1=>hr _ _ (q H1 s1)⟩
open MK
noncomputable def cL(s:Str):List Nat:=s.cps.toList
noncomputable abbrev sp1:Str:=bK " "
noncomputable abbrev nl1:Str:=bK "\n"
theorem apx:sp1=⟨#[32]⟩:=by decide +kernel
theorem apy:nl1=⟨#[10]⟩:=by decide +kernel
theorem Js(sep t:Str)(ts:List Str):cL (fu sep (t::ts))=cL t++ts.flatMap fun u=>cL sep++cL u:=by
 have key:∀(us:List Str)(acc:Array Nat),(us.foldl (fun acc p=>acc++sep.cps++p.cps) acc).toList=acc.toList++us.flatMap fun u=>cL sep++cL u:=by
  intro us
  induction us with
  |nil=>intro acc;simp
  |cons u us ih =>
   intro acc;rw[Qn,ih,Kq,Kq,pL,pL,wY,pL];rfl
 exact key ts t.cps
structure Gw(t:Str):Prop where
 l:(cL t).length<=60
 s:32∉cL t
 n:10∉cL t
noncomputable abbrev wS(n:Nat):Str:=Dec.tx (Dec.dg n)
theorem gw_n(h:n<10 ^ 60):Gw (wS n):=by
 have key:∀c,c<48->c∉cL (wS n):=fun c hc m=>by
  have:=Dec.Tg n c (by rw[<-Dec.pA];exact m);lia
 refine⟨?_,key 32 (by decide),key 10 (by decide)⟩;unfold cL;rw[Dec.pA,aV];exact Dec.aau 60 (by decide) h
theorem Jt{t:Str}{ts:List Str}(g:∀u∈t::ts,Gw u)(h4:ts.length<=4):sX (fu sp1 (t::ts)) sp1=t::ts/\(fu sp1 (t::ts)).length<=400/\10∉cL (fu sp1 (t::ts)):=by
 refine⟨?_,?_,?_⟩
 ·rw[apx];exact Mj (u9 _ _) fun u m=>(g u m).s
 ·have key:∀us:List Str,(∀u∈us,Gw u)->(us.flatMap fun u=>cL sp1++cL u).length<=61*us.length:=by
   intro us
   induction us with
   |nil=>intro _;exact bG _
   |cons u us ih =>
    intro g;have h1:=ih fun v m=>g v (fX _ m);have h2:=(g u dO).l;have h3:(cL sp1).length=1:=by decide +kernel
    rw[wY,fj,fj,jo];lia
  have h1:=key ts fun u m=>g u (fX _ m);have h2:=(g t dO).l;have h3:(cL (fu sp1 (t::ts))).length=(fu sp1 (t::ts)).length:=mF;rw[Js,fj]at h3;lia
 ·rw[Js];intro m;rcases dY.mp m with m|m
  ·exact(g t dO).n m
  ·obtain⟨u,mu,m⟩:=List.mem_flatMap.mp m;rcases dY.mp m with m|m
   ·exact absurd m tb_g%
   ·exact(g u (fX _ mu)).n m
noncomputable abbrev Zs:=List (Str × List Str)
variable{zs:Zs}
noncomputable def lns(zs:Zs):List Str:=zs.map fun z=>fu sp1 (z.1::z.2)
noncomputable def Gz(zs:Zs):Prop:=∀z∈zs,(∀u∈z.1::z.2,Gw u)/\z.2.length<=4
theorem alQ(g:Gz zs)(ne:zs≠[]):sX (fu nl1 (lns zs)) nl1=lns zs:=by
 rw[apy];refine Mj (fun e=>ne (Qk.mp e)) fun t m=>?_;obtain⟨z,mz,rfl⟩:=jq.mp m;exact(Jt (g z mz).1 (g z mz).2).2.2
theorem apz(ts:List Str):(fu nl1 ts).length<=(ts.map (·.length)).sum+ts.length:=by
 cases ts with
 |nil=>exact bG _
 |cons t ts =>
  have h3:(cL (fu nl1 (t::ts))).length=(fu nl1 (t::ts)).length:=mF;have key:∀us:List Str,(us.flatMap fun u=>cL nl1++cL u).length=(us.map (·.length)).sum+us.length:=by
   intro us
   induction us with
   |nil=>rfl
   |cons u us ih =>
    have h3:(cL nl1).length=1:=by decide +kernel
    have h4:(cL u).length=u.length:=mF;rw[wY,fj,fj,jo,fU,uc];lia
  have h4:(cL t).length=t.length:=mF;rw[Js,fj,key]at h3;rw[fU,uc,jo];lia
theorem abQ(g:Gz zs):((lns zs).map (·.length)).sum<=400*zs.length:=by
 induction zs with
 |nil=>exact bG _
 |cons z zs ih =>
  have h1:=ih fun y m=>g y (fX _ m);have h2:=(Jt (g z dO).1 (g z dO).2).2.1;show(fu sp1 (z.1::z.2)).length+((lns zs).map (·.length)).sum<=400*(zs.length+1);lia
noncomputable def lY(p:Nat)(n:Nat->Nat):Zs:=[(bK "keep",[wS 2,wS 9,wS p]),(bK "came",[wS 0,wS 0]),(bK "went",[wS 0,wS 0]),(bK "up",[wS 0,wS 0,wS 0,wS 0]),(bK "down",[wS 0,wS 0,wS 0,wS 0]),(bK "window",[wS 0]),(bK "seen",[wS 0,wS 0]),(bK "sums",[wS (n 0),wS (n 1),wS (n 2),wS (n 3)])]
theorem amJ{p:Nat}{n:Nat->Nat}(hp:p<=1000000000)(hn:∀i,n i<10 ^ 60):Gz (lY p n):=by
 have w:∀k,k<=1000000000->Gw (wS k):=fun k h=>gw_n (mD h (by decide));have c:∀s∈[bK "keep",bK "came",bK "went",bK "up",bK "down",bK "window",bK "seen",bK "sums"],Gw s:=fun s m=>by
  have k:∀s∈[bK "keep",bK "came",bK "went",bK "up",bK "down",bK "window",bK "seen",bK "sums"],(cL s).length<=60/\32∉cL s/\10∉cL s:=by decide +kernel
  exact⟨(k s m).1,(k s m).2.1,(k s m).2.2⟩
 intro z m;refine⟨fun u mu=>?_,?_⟩
 ·rcases cO.mp mu with rfl|mu
  ·exact c _ (W7 (f:=(·.1)) m)
  ·have e:∃k,u=wS k/\k<10 ^ 60:=by
    unfold lY at m;simp only[cO,iM,or_false]at m;have s:∀k,k<=1000000000->k<10 ^ 60:=fun k h=>mD h (by decide);rcases m with rfl|rfl|rfl|rfl|rfl|rfl|rfl|rfl;all_goals simp only[cO,iM,or_false]at mu
    ·rcases mu with rfl|rfl|rfl
     ·exact⟨_,rfl,s _ (by decide)⟩
     ·exact⟨_,rfl,s _ (by decide)⟩
     ·exact⟨_,rfl,s _ hp⟩
    rotate_right
    ·rcases mu with rfl|rfl|rfl|rfl;all_goals exact⟨_,rfl,hn _⟩
    all_goals exact⟨0,by simpa using mu,by decide⟩
   obtain⟨k,rfl,hk⟩:=e;exact gw_n hk
 ·have:∀l∈(lY p n).map (·.2.length),l<=4:=by
   show ∀l∈[3,2,2,4,4,1,2,4],l<=4;decide
  exact this _ (W7 (f:=(·.2.length)) m)
theorem zl(gz:Gz zs){k:Nat}{z:Str × List Str}(h:zs[k]? = some z):sX (fu sp1 (z.1::z.2)) sp1=z.1::z.2/\(fu sp1 (z.1::z.2)).length<=1048576:=
 have g:=gz z (List.mem_of_getElem? h)
 ⟨(Jt g.1 g.2).1,eN (Jt g.1 g.2).2.1 (by decide)⟩
noncomputable def K1(p:Nat)(q:Q4):KS:={ K0 2 9 p with ba:=⟨0,0,0,q⟩ }
theorem qK{J:Hp}(s:Same H G)(n:H p=none)(b:But p G J):Same H J:=fun c o e=>b c o (s c o e) (au e n)
noncomputable def spRd(A:Ad):Sp:=fun vs H Q _=>∃(p:Nat)(n:Nat->Nat)(q:Q4),vs=[.str (fu nl1 (lns (lY p n)))]/\1<=p/\p<=1000000000/\Nq q n/\∀(x:KS)(H':Hp),Kp A H' x->Eqp x (K1 p q)->(∀b∈x.all,H b=none)->Same H H'->Q (.ref x.k) H'
theorem ok'69(T:Tx K mg A):bZ P w K mg base CX0 11 A.acN A.wL ["text"] (spRd A):=by
 k_dat (T.F'69.ok,mZ) "a"
 ·obtain⟨_,_,_,rfl,_⟩:=h;rfl
 ·obtain⟨p,n,q4,rfl,p1,p9,nq,q⟩:=h;have gz:=amJ p9 nq.s;have tl:(fu nl1 (lns (lY p n))).length<=1048576:=by
   have h1:=abQ gz;have h2:=apz (lns (lY p n));rw[show(lY p n).length=8 from rfl]at h1;rw[show(lns (lY p n)).length=8 from rfl]at h2;lia
  obtain ⟨_,abR,abS⟩:=T.ali;refine ⟨_,(ao (psS 1 mZ.nd (lG Ks af3 af4 VJ (pv 0) (aj dN aq)))
   (ao (psS 2 mZ.nd (aD (ok'63 T) tb_g% T.F'63 aL (aj (aD (Ie T) tb_g% T.Tr aL (aj (pv 1) (aj aA (aj dN aq)))) (aj aA aq))))
   (ao (aZ (aD (amH T) tb_g% T.F'64 aL (aj (pf 2) (aj (aD (Ie T) tb_g% T.Tr aL (aj (pv 1) (aj aA (aj dN aq)))) (aj aA aq)))))
   (ao (aZ (aD (amH T) tb_g% T.F'64 aL (aj (pf 2) (aj (aD (Ie T) tb_g% T.Tr aL (aj (pv 1) (aj aA (aj dN aq)))) (aj aA aq)))))
   (ao (aZ (aD (amI T) tb_g% T.F'65 aL (aj (pf 2) (aj (aD (Ie T) tb_g% T.Tr aL (aj (pv 1) (aj aA (aj dN aq)))) (aj aA aq)))))
   (ao (aZ (aD (amI T) tb_g% T.F'65 aL (aj (pf 2) (aj (aD (Ie T) tb_g% T.Tr aL (aj (pv 1) (aj aA (aj dN aq)))) (aj aA aq)))))
   (ao (aZ (aD (ok'66 T) tb_g% T.F'66 aL (aj (pf 2) (aj (aD (Ie T) tb_g% T.Tr aL (aj (pv 1) (aj aA (aj dN aq)))) (aj aA aq)))))
   (ao (aZ (aD (ok'67 T) tb_g% T.F'67 aL (aj (pf 2) (aj (aD (Ie T) tb_g% T.Tr aL (aj (pv 1) (aj aA (aj dN aq)))) (aj aA aq)))))
   (ao (aZ (aD (ok'68 T) tb_g% T.F'68 aL (aj (pf 2) (aj (aD (Ie T) tb_g% T.Tr aL (aj (pv 1) (aj aA (aj dN aq)))) (aj aA aq)))))
   (ao (aZ (aD (nT T) tb_g% T.wW aL (aj (cY iI (aO bA (by rfl) T.eF dZ (aj (pv 1) aq)) (jt (v:=.int 8) rfl abR abS) (aM _)) (aj (aH bM (jt (v:=.int 8) rfl abR abS) aA) aq))))
   (aC (aW (pv 2))))))))))))),?_⟩
  refine sq fun R hR=>⟨_,rfl,rfl,_,_,rfl,rfl,by decide +kernel,tl,fun D hD=>?_⟩;rw[alQ gz (by simp[lY])];have s0:=Same.new (o:=.lst ((lns (lY p n)).map V.str)) hD;have lD:(upd H D (.lst ((lns (lY p n)).map V.str))) D=_:=ak;generalize upd H D (.lst ((lns (lY p n)).map V.str))=H1 at s0 lD ⊢;refine hR _ _ (sq fun R hR=>⟨_,rfl,D,lns (lY p n),0,[wS 2,wS 9,wS p],bK "keep",rfl,lD,rfl,(zl gz (k:=0) (z:=(bK "keep",[wS 2,wS 9,wS p])) rfl).1,(zl gz (k:=0) (z:=(bK "keep",[wS 2,wS 9,wS p])) rfl).2,(by show 8<=900;decide),fun W J nW sJ wJ=>?_⟩);refine⟨W,2,9,p,1,rfl,wJ,rfl,by decide,by decide,by decide,by decide,p1,p9,fun x G kG eq0 fr _ sG=>?_⟩;have fr:=fun b m=>sJ.free (fr b m);replace sG:=sJ.trans sG;clear sJ nW wJ;obtain⟨k,dk,room,reach,span,cm,wn,up,dn,wi,di,ba⟩:=x;obtain rfl:room=2:=eq0.room;obtain rfl:reach=9:=eq0.reach;obtain rfl:span=p:=eq0.span;obtain⟨-,-,-,-,-,eu,ed,-,-,-⟩:=eq0;refine hR _ _ (sq fun R hR=>⟨_,rfl,rdF kG.o T.bW T.za (Jo ..) ⟨_,rfl,D,lns (lY p n),1,[wS 0,wS 0],bK "came",rfl,sG _ _ lD,rfl,(zl gz (k:=1) (z:=(bK "came",[wS 0,wS 0])) rfl).1,(zl gz (k:=1) (z:=(bK "came",[wS 0,wS 0])) rfl).2,(by show 8<=900;decide),fun W J nW sJ wJ=>?_⟩⟩);have kJ:=kG.same sJ;refine⟨cm,W,2,2,rfl,kJ.cm,by decide,wJ,fun d G2 hF bF=>?_⟩;have sG2:=qK (sG.trans sJ) (fr _ (List.mem_of_getElem? (i:=1) rfl)) bF;have kG2:=(kJ.pp.setC (f:=⟨cm.p,cm.dx,d,0,0,[]⟩) rfl bF hF).kp (bF _ _ kJ.o (Kp.ap kJ).k1) kJ.nk;clear kG sG kJ sJ wJ nW bF hF;have kG:=kG2;have sG:=sG2;clear kG2 sG2;dsimp only at kG;refine hR _ _ (sq fun R hR=>⟨_,rfl,rdF kG.o T.bW T.zc (Jp ..) ⟨_,rfl,D,lns (lY p n),2,[wS 0,wS 0],bK "went",rfl,sG _ _ lD,rfl,(zl gz (k:=2) (z:=(bK "went",[wS 0,wS 0])) rfl).1,(zl gz (k:=2) (z:=(bK "went",[wS 0,wS 0])) rfl).2,(by show 8<=900;decide),fun W J nW sJ wJ=>?_⟩⟩);have kJ:=kG.same sJ;refine⟨wn,W,2,3,rfl,kJ.wn,by decide,wJ,fun d G2 hF bF=>?_⟩;have sG2:=qK (sG.trans sJ) (fr _ (List.mem_of_getElem? (i:=2) rfl)) bF;have kG2:=(kJ.pp.setW (f:=⟨wn.p,wn.dx,d,0,0,[]⟩) rfl bF hF).kp (bF _ _ kJ.o (Kp.ap kJ).k2) kJ.nk;clear kG sG kJ sJ wJ nW bF hF;have kG:=kG2;have sG:=sG2;clear kG2 sG2;dsimp only at kG;refine hR _ _ (sq fun R hR=>⟨_,rfl,rdF kG.o T.bW T.zf (abJ ..) ⟨_,rfl,D,lns (lY p n),3,[wS 0,wS 0,wS 0,wS 0],bK "up",rfl,sG _ _ lD,rfl,(zl gz (k:=3) (z:=(bK "up",[wS 0,wS 0,wS 0,wS 0])) rfl).1,(zl gz (k:=3) (z:=(bK "up",[wS 0,wS 0,wS 0,wS 0])) rfl).2,(by show 8<=900;decide),fun W J nW sJ wJ=>?_⟩⟩);have kJ:=kG.same sJ;refine⟨up.p,up.x,W,4,rfl,kJ.up,eu.mi,eu.ma,wJ,fun d G2 nd hF bF=>?_⟩;have sG2:=qK (sG.trans sJ) (fr _ (List.mem_of_getElem? (i:=3) rfl)) bF;have kG2:=(kJ.pp.setU (f:=⟨up.p,⟨up.x.dx,d,[],up.x.r,0,0,0,0,none,none,[]⟩⟩) rfl bF hF).kp (bF _ _ kJ.o (Kp.ap kJ).k3) kJ.nk;clear kG sG kJ sJ wJ nW bF nd hF;have kG:=kG2;have sG:=sG2;clear kG2 sG2;dsimp only at kG;refine hR _ _ (sq fun R hR=>⟨_,rfl,rdF kG.o T.bW T.zj (Jq ..) ⟨_,rfl,D,lns (lY p n),4,[wS 0,wS 0,wS 0,wS 0],bK "down",rfl,sG _ _ lD,rfl,(zl gz (k:=4) (z:=(bK "down",[wS 0,wS 0,wS 0,wS 0])) rfl).1,(zl gz (k:=4) (z:=(bK "down",[wS 0,wS 0,wS 0,wS 0])) rfl).2,(by show 8<=900;decide),fun W J nW sJ wJ=>?_⟩⟩);have kJ:=kG.same sJ;refine⟨dn.p,dn.x,W,5,rfl,kJ.dn,ed.mi,ed.ma,wJ,fun d G2 nd hF bF=>?_⟩;have sG2:=qK (sG.trans sJ) (fr _ (List.mem_of_getElem? (i:=4) rfl)) bF;have kG2:=(kJ.pp.setD (f:=⟨dn.p,⟨dn.x.dx,d,[],dn.x.r,0,0,0,0,none,none,[]⟩⟩) rfl bF hF).kp (bF _ _ kJ.o (Kp.ap kJ).k4) kJ.nk;clear kG sG kJ sJ wJ nW bF nd hF;have kG:=kG2;have sG:=sG2;clear kG2 sG2;dsimp only at kG;refine hR _ _ (sq fun R hR=>⟨_,rfl,rdF kG.o T.bW T.vU (uV ..) ⟨_,rfl,D,lns (lY p n),5,[wS 0],bK "window",rfl,sG _ _ lD,rfl,(zl gz (k:=5) (z:=(bK "window",[wS 0])) rfl).1,(zl gz (k:=5) (z:=(bK "window",[wS 0])) rfl).2,(by show 8<=900;decide),fun W J nW sJ wJ=>?_⟩⟩);have kJ:=kG.same sJ;refine⟨wi.p,wi.dx,wi.l,2,9,wi.c,wi.ps,W,6,rfl,kJ.wi,wJ,fun d G2 nd hF bF=>?_⟩;have sG2:=qK (sG.trans sJ) (fr _ (List.mem_of_getElem? (i:=5) rfl)) bF;have kG2:=(kJ.pp.setI (f:=⟨wi.p,wi.dx,d,0,[]⟩) rfl bF hF).kp (bF _ _ kJ.o (Kp.ap kJ).k5) kJ.nk;clear kG sG kJ sJ wJ nW bF nd hF;have kG:=kG2;have sG:=sG2;clear kG2 sG2;dsimp only at kG;refine hR _ _ (sq fun R hR=>⟨_,rfl,rdF kG.o T.bW T.zm (Jr ..) ⟨_,rfl,D,lns (lY p n),6,[wS 0,wS 0],bK "seen",rfl,sG _ _ lD,rfl,(zl gz (k:=6) (z:=(bK "seen",[wS 0,wS 0])) rfl).1,(zl gz (k:=6) (z:=(bK "seen",[wS 0,wS 0])) rfl).2,(by show 8<=900;decide),fun W J nW sJ wJ=>?_⟩⟩);have kJ:=kG.same sJ;refine⟨di.p,di.dx,di.l,2,di.n,di.v,_,W,7,rfl,kJ.di,by decide,wJ,fun d G2 nd hF bF=>?_⟩;have sG2:=qK (sG.trans sJ) (fr _ (List.mem_of_getElem? (i:=6) rfl)) bF;have kG2:=(kJ.pp.setS (f:=⟨di.p,di.dx,d,0,0,[]⟩) rfl bF (by rw[show srt (My.up 0 [])=[]from z8.mp (gP _)];exact hF)).kp (bF _ _ kJ.o (Kp.ap kJ).k6) kJ.nk;clear kG sG kJ sJ wJ nW bF nd hF;have kG:=kG2;have sG:=sG2;clear kG2 sG2;dsimp only at kG;refine hR _ _ (sq fun R hR=>⟨_,rfl,rdF kG.o T.bW T.tW (m5 ..) ⟨_,rfl,D,lns (lY p n),7,[wS (n 0),wS (n 1),wS (n 2),wS (n 3)],bK "sums",rfl,sG _ _ lD,rfl,(zl gz (k:=7) (z:=(bK "sums",[wS (n 0),wS (n 1),wS (n 2),wS (n 3)])) rfl).1,(zl gz (k:=7) (z:=(bK "sums",[wS (n 0),wS (n 1),wS (n 2),wS (n 3)])) rfl).2,(by show 8<=900;decide),fun W J nW sJ wJ=>?_⟩⟩);have kJ:=kG.same sJ;refine⟨ba.p,ba.dx,ba.l,p,ba.q,q4,n,W,8,rfl,kJ.ba,wJ,nq,fun d G2 hF bF=>?_⟩;have sG2:=qK (sG.trans sJ) (fr _ (List.mem_of_getElem? (i:=7) rfl)) bF;have kG2:=(kJ.pp.setB (f:=⟨ba.p,ba.dx,d,q4⟩) rfl bF hF).kp (bF _ _ kJ.o (Kp.ap kJ).k7) kJ.nk;clear kG sG kJ sJ wJ nW bF hF;have kG:=kG2;have sG:=sG2;clear kG2 sG2;dsimp only at kG;refine hR _ _ ⟨_,rfl,cX (.inl (.inl (sG _ _ lD))) ⟨rfl,_,_,rfl,rfl,9,rfl,_,rfl,?_⟩⟩;have fin:=q _ _ kG ⟨rfl,rfl,rfl,⟨rfl,rfl,rfl⟩,⟨rfl,rfl,rfl⟩,⟨eu.r,rfl,rfl,rfl,rfl,rfl,rfl,rfl⟩,⟨ed.r,rfl,rfl,rfl,rfl,rfl,rfl,rfl⟩,⟨rfl,rfl⟩,⟨rfl,rfl,rfl⟩,rfl⟩ (fun b m=>s0.free (fr b m)) (s0.trans sG);exact fin
open MK
theorem Hh{q p:Q4}(ha:q.a=p.a)(hb:q.b=p.b)(hc:q.c=p.c)(hd:q.d=p.d):q=p:=by
 obtain⟨a,b,c,d⟩:=q;obtain⟨a',b',c',d'⟩:=p;cases ha;cases hb;cases hc;cases hd;rfl
theorem f9(q p r:Q4):addQ (addQ q p) r=addQ q (addQ p r):=Hh (Kz ..) (Kz ..) (Kz ..) (Kz ..)
theorem jh(q p:Q4):addQ q p=addQ p q:=Hh (RJ ..) (RJ ..) (RJ ..) (RJ ..)
theorem dU(q:Q4):addQ q eY=q:=Hh (Ge _) (Ge _) (Ge _) (Ge _)
theorem fold_shift:∀(L:List (Int × Int)) (q:Q4),L.foldl (fun q p=>addQ q (pwQ p.1 p.2)) q=addQ q (cg L)
 |[],q=>(dU q).symm
 |p::r,q=>by
  unfold cg;rw[Qn,Qn,fold_shift r,fold_shift r (addQ eY _),jh eY,dU,f9]
theorem eZ(p:Int × Int)(L:List (Int × Int)):cg (p::L)=addQ (pwQ p.1 p.2) (cg L):=by
 have:=fold_shift L (addQ eY (pwQ p.1 p.2));rw[jh eY,dU]at this;unfold cg;rw[Qn,jh eY,dU];exact this
noncomputable def amK(L:List Int):Q4:=cg (L.map fun t=>(t,1))
noncomputable def m6(n:Nat):List Int:=(jY n).map fun i:Nat=>(i:Int)
theorem Ig:∀n:Nat,amK (m6 n)=iy n
 |0=>rfl
 |n+1=>by
  have ih:=Ig n;unfold amK m6 at ih ⊢;rw[Xf,cM,cM];show cg (_++[((n:Int),(1:Int))])=_;rw[uX,ih];refine Hh ?_ ?_ ?_ ?_
  ·show(n:Int)+1=((n+1:Nat):Int);lia
  ·show(n:Int)*(n-1) / 2+1*n=((n+1:Nat):Int)*(((n+1:Nat):Int)-1) / 2;rw[show((n+1:Nat):Int)=(n:Int)+1 by lia,due1];lia
  ·show(n:Int)*(n-1)*(2*n-1) / 6+1*n*n=((n+1:Nat):Int)*(((n+1:Nat):Int)-1)*(2*((n+1:Nat):Int)-1) / 6;rw[show((n+1:Nat):Int)=(n:Int)+1 by lia,due2,RK]
  ·show(n:Int)*(n-1) / 2*(n*(n-1) / 2)+1*n*n*n=((n+1:Nat):Int)*(((n+1:Nat):Int)-1) / 2*(((n+1:Nat):Int)*(((n+1:Nat):Int)-1) / 2);rw[show((n+1:Nat):Int)=(n:Int)+1 by lia,due3,RK]
theorem pw_zero(t:Int):pwQ t 0=eY:=by
 unfold pwQ eY;rw[Bw,Bw,Bw]
theorem Cm{b:Int}{x y:Nat}(ha:a.natAbs<=x)(hb:b.natAbs<=y):(a*b).natAbs<=x*y:=by
 rw[YK];exact afJ ha hb
theorem Nx:∀{c:Tab},(∀p∈c,p.2.natAbs<=2 ^ 60/\0<=p.1/\p.1<2 ^ 31) ->
  (cg c).a.natAbs<=c.length*2 ^ 60/\(cg c).b.natAbs<=c.length*2 ^ 91/\(cg c).c.natAbs<=c.length*2 ^ 122/\(cg c).d.natAbs<=c.length*2 ^ 153
 |[],_=>by decide
 |p::r,h=>by
  obtain⟨i1,i2,i3,i4⟩:=Nx (c:=r) fun q hq=>h q (fX _ hq);obtain⟨b0,b1,b2⟩:=h p dO;have bt:p.1.natAbs<=2 ^ 31:=by lia
  have w1:=Cm b0 bt;have w2:=Cm w1 bt;have w3:=Cm w2 bt;rw[eZ,jo];have e1:(addQ (pwQ p.1 p.2) (cg r)).a=p.2+(cg r).a:=rfl;have e2:(addQ (pwQ p.1 p.2) (cg r)).b=p.2*p.1+(cg r).b:=rfl;have e3:(addQ (pwQ p.1 p.2) (cg r)).c=p.2*p.1*p.1+(cg r).c:=rfl;have e4:(addQ (pwQ p.1 p.2) (cg r)).d=p.2*p.1*p.1*p.1+(cg r).d:=rfl;rw[e1,e2,e3,e4];refine⟨?_,?_,?_,?_⟩
  ·have:=RB p.2 (cg r).a;lia
  ·have:=RB (p.2*p.1) (cg r).b;lia
  ·have:=RB (p.2*p.1*p.1) (cg r).c;lia
  ·have:=RB (p.2*p.1*p.1*p.1) (cg r).d;lia
theorem pw_add(t v w:Int):pwQ t (v+w)=addQ (pwQ t v) (pwQ t w):=by
 refine Hh ?_ ?_ ?_ ?_
 ·rfl
 ·show(v+w)*t=v*t+w*t;rw[vB]
 ·show(v+w)*t*t=v*t*t+w*t*t;rw[vB,vB]
 ·show(v+w)*t*t*t=v*t*t*t+w*t*t*t;rw[vB,vB,vB]
theorem zK:∀L M:List (Int × Int),cg (L++M)=addQ (cg L) (cg M)
 |[],M=>by
  show cg M=addQ eY (cg M);rw[jh,dU]
 |p::L,M=>by rw[aeD,eZ,eZ,zK L M,f9]
theorem pK{M:List (Int × Int)}(h:L.Perm M):cg L=cg M:=by
 induction h with
 |nil=>rfl
 |cons x _ ih=>rw[eZ,eZ,ih]
 |swap x y l=>rw[eZ,eZ,eZ,eZ,<-f9,<-f9,jh (pwQ y.1 y.2)]
 |trans _ _ a b=>exact a.trans b
structure Mo(s:Int)(c:Tab):Prop where
 nd:(keys c).Nodup
 ok:∀p∈c,0<=p.1/\p.1<s/\p.2≠0/\p.2.natAbs<=999999999999
theorem apA{k:Int}{p:Int × Int}(h:p∈put c k v):p=(k,v)\/p∈c:=by
 by_cases m:k∈keys c
 ·rw[Je m]at h;obtain⟨q,mq,e⟩:=jq.mp h;split at e
  ·rename_i z;left;rw[<-e,z]
  ·right;rw[<-e];exact mq
 ·rw[Dg m]at h;rcases dY.mp h with h|h
  ·exact .inr h
  ·exact .inl (cZ.mp h)
theorem Mo.put{s:Int}(h:Mo s c){k:Int}(k0:0<=k)(k1:k<s)(v0:v≠0)(v1:v.natAbs<=999999999999):Mo s (put c k v):=
 ⟨Lb h.nd k v,fun p m=>(apA m).elim (fun e=>by rw[e];exact⟨k0,k1,v0,v1⟩) (h.ok p)⟩
theorem Mo.lowb{s:Int}(h:Mo s c)(k:Int):(MG.low c k).natAbs<=999999999999:=by
 unfold MG.low;cases e:look c k with
 |none=>exact eO _
 |some v=>exact(h.ok _ (Vj e)).2.2.2
theorem Ny(f g:Int->Int):∀L:List Int,cg (L.map fun t=>(t,f t+g t))=addQ (cg (L.map fun t=>(t,f t))) (cg (L.map fun t=>(t,g t)))
 |[]=>(dU eY).symm
 |t::L=>by
  rw[fU,fU,fU,eZ,eZ,eZ,Ny f g L,pw_add,f9,f9,<-f9 (pwQ t (g t)),jh (pwQ t (g t)) (cg _),f9]
theorem Ih(n:Nat):m6 (n+1)=m6 n++[(n:Int)]:=by unfold m6;rw[Xf,cM];rfl
theorem Hi{f:Int->Int}:∀{L:List Int},(∀t∈L,f t=0)->cg (L.map fun t=>(t,f t))=eY
 |[],_=>rfl
 |t::L,h=>by rw[fU,eZ,h t dO,pw_zero,Hi fun z m=>h z (fX _ m),dU]
theorem akj{t:Int}(m:t∈m6 n):0<=t/\t<n:=by
 obtain⟨i,mi,rfl⟩:=jq.mp m;have:=xg.mp mi;lia
theorem abT{k:Int}:∀{n:Nat},0<=k->k<n->cg ((m6 n).map fun t=>(t,if k=t then v else 0))=pwQ k v
 |0,a,b=>absurd b tb_g%
 |n+1,a,b=>by
  rw[Ih,cM,zK,fU,JF,eZ];show addQ _ (addQ _ eY)=_;rw[dU];by_cases e:k=n
  ·rw[Hi fun t m=>if_neg (by have:=akj m;lia),jh,dU,if_pos e,e]
  ·rw[if_neg e,pw_zero,dU];exact abT a tb_g%
theorem Wx:∀{c:Tab},(keys c).Nodup->(∀p∈c,0<=p.1/\p.1<n)->cg ((m6 n).map fun t=>(t,low c t))=cg c
 |[],_,_=>Hi fun t _=>Df t
 |p::c,h,g=>by
  obtain⟨h1,h2⟩:=jJ.mp (show(p.1::keys c).Nodup from h);have e:(fun t=>(t,MG.low (p::c) t))=fun t=>(t,(if p.1=t then p.2 else 0)+MG.low c t):=by
   funext t
   rw[uD];split
   ·rename_i z;rw[<-z,lH h1,Ge]
   ·rw[pO]
  rw[e,Ny (fun t=>if p.1=t then p.2 else 0) (MG.low c),abT (g p dO).1 (g p dO).2,Wx h2 fun q m=>g q (fX _ m),eZ]
theorem Mo.sum(h:Mo n c):cg ((m6 n).map fun t=>(t,1+MG.low c t))=addQ (iy n) (cg c):=by
 rw[Ny (fun _=>1) (MG.low c),Wx h.nd fun p m=>⟨(h.ok p m).1,(h.ok p m).2.1⟩];exact congrArg (addQ · _) (Ig n)
theorem Mo.sm{s:Int}(h:Mo s c)(s9:s<=1000000000)(l:c.length<=3):Sm (cg c):=by
 obtain⟨a,b,d,e⟩:=Nx (c:=c) fun p m=>by
  have:=h.ok p m;exact⟨eN this.2.2.2 (by decide),this.1,by lia⟩
 refine⟨?_,?_,?_,?_⟩
 ·exact mD (eN a (Br _ l)) (by decide)
 ·exact mD (eN b (Br _ l)) (by decide)
 ·exact mD (eN d (Br _ l)) (by decide)
 ·exact mD (eN e (Br _ l)) (by decide)
structure Du(s:Int)(c:Tab)(L:List (Int × Int)):Prop where
 pm:L.Perm c
 up:L.Pairwise fun p q=>p.1<q.1
theorem Mo.du{s:Int}(h:Mo s c)(pm:ks.Perm (keys c))(le:ks.Pairwise (· <= ·)):Du s c (ks.map fun k=>(k,MG.low c k)):=by
 refine⟨?_,?_⟩
 ·have e:(keys c).map (fun k=>(k,MG.low c k))=c:=by
   unfold keys;rw[mK]
   conv=>rhs;rw[<-aeS c]
   exact Es fun p m=>by show(p.1,MG.low c p.1)=p;rw[La h.nd m]
  have:=pm.map fun k=>(k,MG.low c k);rw[e]at this;exact this
 ·have nd:=pm.nodup_iff.mpr h.nd;rw[List.pairwise_map];exact(le.and nd).imp fun⟨a,b⟩=>by show _<_;lia
theorem Du.nice{s:Int}(h:Mo s c)(d:Du s c L)(l:L.length<=2):Hg L/\In s L:=
 ⟨⟨l,fun p m=>(h.ok p (d.pm.mem_iff.mp m)).2.2.1,d.up⟩,fun p m=>⟨(h.ok p (d.pm.mem_iff.mp m)).1,(h.ok p (d.pm.mem_iff.mp m)).2.1⟩⟩
theorem Du.three{s:Int}(h:Mo s c)(d:Du s c L)(l:L.length=3):cg L≠eY:=by
 match L,l,d with
 |[(x,m),(y,k),(z,j)],_,d =>
  have hm:m≠0:=(h.ok (x,m) (d.pm.mem_iff.mp dO)).2.2.1;have up:=d.up;simp only[kW,cO,iM,or_false,forall_eq_or_imp,forall_eq]at up;obtain⟨⟨h1,h2⟩,h3,_⟩:=up;intro e;have ea:(cg [(x,m),(y,k),(z,j)]).a=0:=by rw[e];rfl
  have eb:(cg [(x,m),(y,k),(z,j)]).b=0:=by rw[e];rfl
  have ec:(cg [(x,m),(y,k),(z,j)]).c=0:=by rw[e];rfl
  replace ea:0+m+k+j=0:=ea;replace eb:0+m*x+k*y+j*z=0:=eb;replace ec:0+m*x*x+k*y*y+j*z*z=0:=ec;have key:m*((y-x)*(z-x))=0:=by grind
  rcases YG.mp key with w|w
  ·exact hm w
  ·rcases YG.mp w with w|w
   ·lia
   ·lia
open MK
noncomputable def prQ(sp:Int)(r:R3):Int × Int:=(r.th,if r.th<sp then(if r.kd=0 then r.w else if r.kd=1 then -r.w else 0)else 0)
noncomputable def qR(sp:Int)(rs:List R3):Q4:=cg (rs.map (prQ sp))
theorem SR.q(s:SR r x x'):x'.ba.q=addQ x.ba.q (pwQ (prQ x.span r).1 (prQ x.span r).2):=by
 unfold SR at s;unfold prQ;dsimp only;split at s
 ·rename_i h;rw[s.ba,if_pos h];split
  ·rfl
  ·rw[pw_zero,dU]
 ·rename_i h;rw[if_neg h];split at s
  ·rename_i h1;rw[s.ba,if_pos h1];split
   ·rfl
   ·rw[pw_zero,dU]
  ·rename_i h1;rw[s.ba,if_neg h1,ite_self,pw_zero,dU]
structure Ex(room:Nat)(reach span:Int)(x:KS)(rs:List R3):Prop where
 hroom:x.room=room
 wu:x.reach=reach
 rZ:x.span=span
 q:x.ba.q=qR span rs
 nd:x.di.C.Nodup
 kh:Kh x rs.length
theorem SR.nd(s:SR r x x')(h:x.di.C.Nodup):x'.di.C.Nodup:=by
 unfold SR at s;split at s
 ·rw[s.di.2.1];exact alK h
 ·split at s
  ·rw[s.di];exact h
  ·rw[s.di];exact h
theorem Ex.row(h:Ex room reach span x rs)(hn:rs.length<200)(ok:r.ok)(s:SR r x x'):Ex room reach span x' (rs++[r]):=by
 have sb:=s.sb;refine⟨sb.room.trans h.hroom,sb.reach.trans h.wu,sb.span.trans h.rZ,?_,s.nd h.nd,by rw[fj];exact h.kh.row hn ok s⟩;unfold qR;rw[s.q,h.q,h.rZ,cM];exact(uX _ _).symm
theorem Ex.alk(h:Ex room reach span x rs)(g:Ex room reach span y ss)(few:rs.length+ss.length<=200):Alk x y rs.length ss.length:=⟨g.hroom.trans h.hroom.symm,g.wu.trans h.wu.symm,g.rZ.trans h.rZ.symm,h.kh,g.kh,few,h.nd,g.nd⟩
theorem Ex.aiG(h:Ex room reach span x rs)(g:Ex room reach span y ss)(few:rs.length+ss.length<=200)(k:KP x y z):Ex room reach span z (rs++ss):=by
 refine⟨k.room.trans h.hroom,k.reach.trans h.wu,k.span.trans h.rZ,?_,by rw[k.di.2.1];exact amB _ _,by rw[fj];exact k.kh (h.alk g few)⟩;unfold qR;rw[k.ba,h.q,g.q,cM,zK];rfl
theorem Ex.perm(h:Ex room reach span x rs)(p:rs.Perm ss):Ex room reach span x ss:=⟨h.hroom,h.wu,h.rZ,by rw[h.q];exact pK (p.map _),h.nd,by rw[<-p.length_eq];exact h.kh⟩
theorem Ex.new(r2:2<=room)(r64:room<=64)(ev:room % 2=0)(rr:room<=15)(e:Eqp x (K0 room reach span)):Ex room reach span x []:=
 ⟨e.room,e.reach,e.span,e.ba,by rw[e.di.C];exact wB,(kh0 reach span r2 r64 ev rr).eq e⟩
structure Rw3(H:Hp)(a:Addr)(ps:List (Addr × R3)):Prop where
 l:H a=some (.lst (ps.map fun p=>V.ref p.1))
 t:∀p∈ps,H p.1=some (r3V p.2)
 ok:∀p∈ps,p.2.ok
theorem Nz{β:Type}(f:α->β):∀(l:List α)(j:Nat),(l.map f).eraseIdx j=(l.eraseIdx j).map f
 |[],_=>rfl
 |_::_,0=>rfl
 |a::l,j+1=>congrArg (f a :: ·) (Nz f l j)
noncomputable def akk(j:Nat)(σ:St)(H:Hp):Nat:=match σ[j]? with
 | some (some (.ref p))=>(match H p with
  |some (.lst xs)=>xs.length
  | _=>0)
 |_=>0
theorem Wy(h:σ[j]? = some (some (.ref p)))(e:H p=some (.lst xs)):akk j σ H=xs.length:=by
 unfold akk;rw[h];show(match H p with|some (.lst xs)=>xs.length|_=>0)=_;rw[e]
noncomputable abbrev Pk:=KS × List R3
structure Pc(A:Ad)(room:Nat)(reach span:Int)(H0 G:Hp)(L:Addr)(ps:List Pk)(rs:List R3):Prop where
 s:Same H0 G
 fL:H0 L=none
 l:G L=some (.lst (ps.map fun p=>V.ref p.1.k))
 kp:∀p∈ps,Kp A G p.1
 ex:∀p∈ps,Ex room reach span p.1 p.2
 fr:∀p∈ps,∀b∈p.1.all,H0 b=none
 dj:ps.Pairwise fun p q=>∀b∈p.1.all,b∉q.1.all
 pm:(ps.flatMap (·.2)).Perm rs
theorem all_eq(x:KS):x.all=x.k::x.pts:=rfl
theorem Kp.of_pp(h:Kp A H x)(o:H' x.k=H x.k)(p:Pp A H' x):Kp A H' x:=⟨by rw[o];exact h.o,p.cm,p.wn,p.up,p.dn,p.wi,p.di,p.ba,h.nd⟩
theorem Kp.live(h:Kp A H x)(m:b∈x.all):∃C e fs,H b=some (.ins C e fs):=by
 unfold KS.all at m;simp only[cO,iM,or_false]at m;rcases m with rfl|rfl|rfl|rfl|rfl|rfl|rfl|rfl
 ·exact⟨_,_,_,h.o⟩
 ·exact⟨_,_,_,h.cm.o⟩
 ·exact⟨_,_,_,h.wn.o⟩
 ·exact⟨_,_,_,h.up.o⟩
 ·exact⟨_,_,_,h.dn.o⟩
 ·exact⟨_,_,_,h.wi.o⟩
 ·exact⟨_,_,_,h.di.o⟩
 ·exact⟨_,_,_,h.ba.o⟩
theorem Kp.away(h:Kp A H x){L:Addr}(hL:H L=some (.lst ((b::as).map V.ref)))(hb:∃C e fs,H b=some (.ins C e fs)):L∉x.ems:=fun m=>by
 obtain⟨C,e,fs,hb⟩:=hb;have rl:∀{p:Addr}{y:Rs},RnX A H p y->L≠y.a/\L∉y.bs:=fun {p y} R=>by
  refine⟨fun z=>?_,fun m=>?_⟩
  ·have o:=R.l.o;rw[<-z,hL]at o;cases eb:y.bs with
   |nil=>rw[eb]at o;cases o
   |cons c r =>
    rw[eb]at o;have o:HO.lst (V.ref b::as.map V.ref)=HO.lst (V.ref c::r.map V.ref):=cN o;injection o with o;injection o with o _;injection o with o;have n:=R.l.n;rw[eb]at n;cases el:y.ls with
    |nil=>rw[el]at n;cases n
    |cons l ls =>
     have:=R.l.e 0 c l (by rw[eb];rfl) (by rw[el];rfl);rw[<-o,hb]at this;cases this
  ·obtain⟨i,hi⟩:=aeu m;have li:i<y.ls.length:=by rw[<-R.l.n];exact(gn.mp hi).1
   have:=R.l.e i L _ hi (gA li);rw[hL]at this;have this:HO.lst (V.ref b::as.map V.ref)=HO.lst ((y.ls[i]).map V.int):=cN this;injection this with o;cases e:y.ls[i]with
   |nil=>rw[e]at o;cases o
   |cons z r=>rw[e]at o;injection o with o _;cases o
 unfold KS.ems at m;rcases cO.mp m with z|m
 ·exact(rl h.up).1 z
 rcases cO.mp m with z|m
 ·exact(rl h.dn).1 z
 rcases cO.mp m with z|m
 ·have o:=h.wi.b.l;rw[<-z,hL]at o;cases e:x.wi.ps with
  |nil=>rw[e]at o;cases o
  |cons p r =>
   have ht:=h.wi.b.t p (by rw[e];exact dO);rw[e]at o;have o:HO.lst (V.ref b::as.map V.ref)=HO.lst (V.ref p.1::_):=cN o;injection o with o;injection o with o _;injection o with o;rw[<-o,hb]at ht;cases ht
 rcases cO.mp m with z|m
 ·have o:=h.di.l;rw[<-z,hL]at o;cases e:srt (My.up x.di.v x.di.C)with
  |nil=>rw[e]at o;cases o
  |cons p r=>rw[e]at o;cases o
 rcases dY.mp m with m|m
 ·exact(rl h.up).2 m
 ·exact(rl h.dn).2 m
theorem Kp.chg(h:Kp A H x){L:Addr}(hL:H L=some (.lst (as.map V.ref)))(n:L∉x.ems):Kp A (L2.upd H L o) x:=by
 unfold KS.ems at n;simp only[cO,dY,not_or]at n;obtain⟨n1,n2,n3,n4,n5,n6⟩:=n;have kI:∀{b C e:Addr} {fs:List (Str × V)},H b=some (.ins C e fs)->(L2.upd H L o) b=some (.ins C e fs):=fun e=>by rw[aB (iY e hL (by intro z;cases z))];exact e
 have kD:∀{b:Addr} {kv:List (Key × V)},H b=some (.dK kv)->(L2.upd H L o) b=some (.dK kv):=fun e=>by rw[aB (iY e hL (by intro z;cases z))];exact e
 have kT:∀{b:Addr}{vs:List V},H b=some (.tup vs)->(L2.upd H L o) b=some (.tup vs):=fun e=>by rw[aB (iY e hL (by intro z;cases z))];exact e
 have kL:∀{b:Addr}{vs:List V},L≠b->H b=some (.lst vs)->(L2.upd H L o) b=some (.lst vs):=fun m e=>by rw[aB (aX m)];exact e
 have rl:∀{p:Addr}{y:Rs},L≠y.a->L∉y.bs->RnX A H p y->RnX A (L2.upd H L o) p y:=fun {p y} m1 m2 R=>⟨kI R.o,kL m1 R.l.o,R.l.n,fun i b l e1 e2=>kL (fun z=>m2 (by rw[z];exact List.mem_of_getElem? e1)) (R.l.e i b l e1 e2),R.l.x⟩;refine⟨kI h.o,⟨kI h.cm.o,kD h.cm.d⟩,⟨kI h.wn.o,kD h.wn.d⟩,rl n1 n5 h.up,rl n2 n6 h.dn,⟨kI h.wi.o,kL n3 h.wi.b.l,fun z m=>kT (h.wi.b.t z m)⟩,⟨kI h.di.o,kL n4 h.di.l⟩,⟨kI h.ba.o,kL (fun z=>?_) h.ba.l⟩,h.nd⟩;have e:=h.ba.l;rw[<-z,hL]at e;cases as with
 |nil=>cases e
 |cons a r=>cases e
theorem Pc.away{L:Addr}{ps:List Pk}(h:Pc A room reach span H0 G L ps rs)(ne:ps≠[])(kx:Kp A G x):L∉x.ems:=by
 cases ps with
 |nil=>exact absurd rfl ne
 |cons p r=>exact kx.away (as:=r.map fun p=>p.1.k) (b:=p.1.k) (by rw[h.l,fU,fU,mK];rfl) ⟨_,_,_,(h.kp p dO).o⟩
theorem Eo(ps:List Pk):(ps.map fun p=>V.ref p.1.k)=(ps.map fun p=>p.1.k).map V.ref:=by rw[mK];rfl
theorem Pc.same{L:Addr}{ps:List Pk}(h:Pc A room reach span H0 G L ps rs)(s:Same G G'):Pc A room reach span H0 G' L ps rs:=⟨h.s.trans s,h.fL,s _ _ h.l,fun p m=>(h.kp p m).same s,h.ex,h.fr,h.dj,h.pm⟩
theorem Pc.row{L:Addr}{qs:List Pk}(h:Pc A room reach span H0 G L (qs++[(x,ts)]) rs)(hn:ts.length<200)(ok:r.ok)(k1:Kp A G' x')(s1:SR r x x')(f1:Far A x.pts G G'):Pc A room reach span H0 G' L (qs++[(x',ts++[r])]) (rs++[r]):=by
 have mx:(x,ts)∈qs++[(x,ts)]:=mj _ dO;have kx:=h.kp _ mx;have ea:x'.all=x.all:=by rw[all_eq,all_eq,s1.sb.k,s1.sb.pts]
 have sub:∀b∈x.pts,b∈x.all:=fun b m=>fX _ m;have dj:=Qj.mp h.dj;refine⟨fun b o e=>f1.pb _ _ (h.s b o e) fun m=>?_,h.fL,?_,fun p m=>?_,fun p m=>?_,fun p m=>?_,?_,?_⟩
 ·have:=h.fr _ mx b (sub b m);rw[e]at this;cases this
 ·rw[f1.pb _ _ h.l (fun m=>by obtain⟨_,_,_,e⟩:=kx.live (sub _ m);rw[h.l]at e;cases e),cM,cM];show some (HO.lst (_++[V.ref x.k]))=some (HO.lst (_++[V.ref x'.k]));rw[s1.sb.k]
 ·rcases dY.mp m with m|m
  ·have kp:=h.kp p (Ep _ m);have d:=dj.2.2 p m _ dO;refine kp.of_pp ?_ (f1.py _ kp.pp fun b mb mx=>d b (fX _ mb) (sub b mx));rw[f1.pb _ _ kp.o fun mx=>d _ dO (sub _ mx),kp.o]
  ·rw[cZ.mp m];exact k1
 ·rcases dY.mp m with m|m
  ·exact h.ex p (Ep _ m)
  ·rw[cZ.mp m];exact(h.ex _ mx).row hn ok s1
 ·rcases dY.mp m with m|m
  ·exact h.fr p (Ep _ m)
  ·rw[cZ.mp m];show ∀b∈x'.all,_;rw[ea];exact h.fr _ mx
 ·refine Qj.mpr ⟨dj.1,WT _ _,fun p m q mq=>?_⟩;rw[cZ.mp mq];show ∀b∈p.1.all,b∉x'.all;rw[ea];exact dj.2.2 p m _ dO
 ·have pm:=h.pm;rw[W8]at pm ⊢;have e1:([(x,ts)]:List Pk).flatMap (·.2)=ts:=by simp
  have e2:([(x',ts++[r])]:List Pk).flatMap (·.2)=ts++[r]:=by simp
  rw[e1]at pm;rw[e2,<-pL];exact pm.append_right _
theorem Pc.push{L:Addr}{ps:List Pk}(h:Pc A room reach span H0 G L ps rs)(s:Same G G')(kx:Kp A G' x)(ex:Ex room reach span x ts)(fr:∀b∈x.all,G b=none)(nx:L∉x.ems):Pc A room reach span H0 (upd G' L (.lst ((ps.map fun p=>V.ref p.1.k)++[.ref x.k]))) L (ps++[(x,ts)]) (rs++ts):=by
 have gL:=s _ _ h.l;rw[Eo]at gL;refine⟨fun b o e=>by rw[aB (au e h.fL)];exact s _ _ (h.s b o e),h.fL,by rw[ak,cM];rfl,fun p m=>?_,fun p m=>?_,fun p m=>?_,?_,?_⟩
 ·rcases dY.mp m with m|m
  ·exact((h.kp p m).same s).chg gL (h.away (List.ne_nil_of_mem m) (h.kp p m))
  ·rw[cZ.mp m];exact kx.chg gL nx
 ·rcases dY.mp m with m|m
  ·exact h.ex p m
  ·rw[cZ.mp m];exact ex
 ·rcases dY.mp m with m|m
  ·exact h.fr p m
  ·rw[cZ.mp m];exact fun b mb=>h.s.free (fr b mb)
 ·refine Qj.mpr ⟨h.dj,WT _ _,fun p m q mq b mb mb2=>?_⟩;rw[cZ.mp mq]at mb2;obtain⟨_,_,_,e⟩:=(h.kp p m).live mb;rw[fr b mb2]at e;cases e
 ·rw[W8];have e2:([(x,ts)]:List Pk).flatMap (·.2)=ts:=by simp
  rw[e2];exact h.pm.append_right _
theorem Pc.erase{L:Addr}{ps:List Pk}(h:Pc A room reach span H0 G L ps rs)(hi:i<ps.length):∃us,Pc A room reach span H0 (upd G L (.lst ((ps.eraseIdx i).map fun p=>V.ref p.1.k))) L (ps.eraseIdx i) us/\(us++(ps[i]).2).Perm rs:=by
 have sub:=List.eraseIdx_sublist ps i;refine⟨(ps.eraseIdx i).flatMap (·.2),⟨fun b o e=>by rw[aB (au e h.fL)];exact h.s b o e,h.fL,ak,fun p m=>(h.kp p (sub.mem m)).chg (by rw[<-Eo];exact h.l) (h.away (fun z=>by rw[z]at hi;exact absurd hi (Rg _)) (h.kp p (sub.mem m))),fun p m=>h.ex p (sub.mem m),fun p m=>h.fr p (sub.mem m),h.dj.sublist sub,.rfl⟩,?_⟩;refine List.Perm.trans ?_ h.pm;have e:=(Sx.BP hi).flatMap_right (fun p:Pk=>p.2);rw[wY]at e;exact WY.trans e
theorem pw_set{R:α->α->Prop}{y:α}:∀{l:List α}{j:Nat},l.Pairwise R->(∀a∈l,R a y/\R y a)->(l.set j y).Pairwise R
 |[],_,h,_=>h
 |a::l,0,h,g=>kW.mpr ⟨fun b m=>(g b (fX _ m)).2,(kW.mp h).2⟩
 |a::l,j+1,h,g=>kW.mpr ⟨fun b m=>(wz m).elim (fun z=>(kW.mp h).1 b z) fun z=>by rw[z];exact(g a dO).1,pw_set (kW.mp h).2 fun b m=>g b (fX _ m)⟩
theorem Wz{us:List R3}:∀{ps:List Pk}{j:Nat}(hj:j<ps.length),us.Perm (ts++(ps[j]).2)->((ps.set j (z,us)).flatMap (·.2)).Perm (ts++ps.flatMap (·.2))
 |p::ps,0,_,h=>by
  show(us++ps.flatMap (·.2)).Perm (ts++(p.2++ps.flatMap (·.2)));rw[<-pL];exact h.append_right _
 |p::ps,j+1,hj,h=>by
  show(p.2++(ps.set j (z,us)).flatMap (·.2)).Perm (ts++(p.2++ps.flatMap (·.2)));refine((Wz (Nat.lt_of_succ_lt_succ hj) h).append_left p.2).trans ?_;rw[<-pL,<-pL];exact WY.append_right _
theorem Pc.put{L:Addr}{ps:List Pk}{us:List R3}(h:Pc A room reach span H0 G L ps rs)(hj:j<ps.length)(s:Same G G')(kz:Kp A G' z)(ez:Ex room reach span z us)(fr:∀b∈z.all,G b=none)(nz:L∉z.ems)(pu:us.Perm (ts++(ps[j]).2)):Pc A room reach span H0 (upd G' L (.lst ((ps.set j (z,us)).map fun p=>V.ref p.1.k))) L (ps.set j (z,us)) (ts++rs):=by
 have gL:=s _ _ h.l;rw[Eo]at gL;have key:∀p∈ps.set j (z,us),p∈ps\/p=(z,us):=fun p m=>wz m;have ne:ps≠[]:=fun e=>by rw[e]at hj;exact absurd hj (Rg _)
 refine⟨fun b o e=>by rw[aB (au e h.fL)];exact s _ _ (h.s b o e),h.fL,ak,fun p m=>?_,fun p m=>?_,fun p m=>?_,?_,(Wz hj pu).trans (h.pm.append_left _)⟩
 ·rcases key p m with m|rfl
  ·exact((h.kp p m).same s).chg gL (h.away ne (h.kp p m))
  ·exact kz.chg gL nz
 ·rcases key p m with m|rfl
  ·exact h.ex p m
  ·exact ez
 ·rcases key p m with m|rfl
  ·exact h.fr p m
  ·exact fun b mb=>h.s.free (fr b mb)
 ·refine pw_set h.dj fun p m=>?_;have d:∀b∈p.1.all,b∉z.all:=fun b mb mz=>by
   obtain⟨_,_,_,e⟩:=(h.kp p m).live mb;rw[fr b mz]at e;cases e
  exact⟨d,fun b mz mb=>d b mb mz⟩
open MK
noncomputable def spMix:Sp:=fun vs H Q _=>∃c f p:Int,vs=[.int c,.int f,.int p]/\0<f/\f<2 ^ 64/\0<p/\∀v:Int,0<=v->v<p->Q (.int v) H
theorem abU(T:Tx K mg A):bZ P w K mg base CX0 1 A.acO A.abx Q31 spMix:=by
 k_dat (T.ajK.ok,ajN) "a"
 ·obtain⟨c,f,p,rfl,_⟩:=h;rfl
 ·obtain⟨c,f,p,rfl,f0,f1,p0,q⟩:=h;refine⟨_,(aC (aW (aH eU (aH gU (pv 0) (pv 1)) (pv 2)))),?_⟩;exact⟨_,rfl,_,rfl,_,_,rfl,rfl,iR tb_g% f1,_,rfl,_,_,rfl,rfl,p0,q _ (yp _ tb_g%) (yj _ p0)⟩
noncomputable def alR:Sp:=fun vs H Q _=>∃i:Int,vs=[.int i]/\Q (.bl true) H
theorem amL(T:Tx K mg A):bZ P w K mg base CX0 1 A.acP A.Pz ["_law_found"] alR:=by
 k_dat (T.F'71.ok,aaD) "a"
 ·obtain⟨i,rfl,_⟩:=h;rfl
 ·obtain⟨i,rfl,q⟩:=h;refine⟨_,(aC (aW (pU (aO call_isinstance (by rfl) T.pB Rq (aj (pv 0) (aj (Jc (v:=.ty "int") rfl T.ami agf rfl) aq))) (sZ (aom (aO call_isinstance (by rfl) T.pB Rq (aj (pv 0) (aj (Jc (v:=.ty "bool") rfl T.aoY amU rfl) aq)))))))),?_⟩;refine⟨_,rfl,aiJ T.adT ⟨_,rfl,nO ⟨_,rfl,aiJ T.aaB ⟨_,rfl,q⟩⟩⟩⟩
noncomputable def spSpo(K:bB):Sp:=fun vs H Q _=>∃(a:Addr)(ns:List Int)(s:Int)(m:Nat),vs=[.ref a,.int s,.int m]/\SqL K H a (ns.map V.int)/\1<=s/\s<=1000000000/\m<=3/\∀(d:Addr)(c:Tab)(H':Hp),Mo s c->c.length<=m->H' d=some (.dK (emb c))->Same H H'->Q (.ref d) H'
theorem amM(T:Tx K mg A):bZ P w K mg base CX0 2 A.acQ A.Ar Q41 (spSpo K):=by
 k_dat (T.F'72.ok,jC) "a"
 ·obtain⟨_,_,_,_,rfl,_⟩:=h;rfl
 ·obtain ⟨a,ns,sp,m,rfl,hS,s1,s9,m3,q⟩:=h;obtain ⟨cs,ecs,_,_⟩:=Dr ns none (some 1);refine ⟨_,(ao (psS 3 jC.nd K5)
   (ao (j9 jK rfl (mO rfl T.vV (aj (aH eU (aH gZ (aO (pJ rfl) (by rfl) T.PK Gb (aj (jz m8 (pv 0) iB (dW aA)) aq)) aA) (aH bM (pv 2) aA)) aq)) (pgN 4 jC.nd) (ao (psS 5 jC.nd (aD (abU T) tb_g% T.ajK aL (aj (aH bM (aH bM (aO (pJ rfl) (by rfl) T.PK Gb (aj (jz m8 (pv 0) iB (dW aA)) aq)) (aH gU (aH gU aA (pv 4)) (pv 4))) aA) (aj aA (aj aA aq)))))
   (ao (psS 6 jC.nd (bC (ixG (aY hr)) (dG (aj aA (aj aA (aj (aH bM aA (aH eU (aH gZ (pv 5) aA) aA)) (aj (aH bM aA (aH eU (aH gU (aD (abU T) tb_g% T.ajK aL (aj (pv 5) (aj aA (aj aA aq)))) aA) aA)) aq))))) (aH eU (pv 5) aA) (fun _ _=>rfl)))
   (aC (yE (aH gU (pv 6) (aH gk aA (aH gU aA (aH eU (aH gZ (pv 5) aA) aA)))) (yD (pv 3) (aH eU (aH gZ (pv 5) aA) (pv 1)) (setG (aY hr))))))))
   (aC (aW (pv 3))))),?_⟩
  refine fun d hd=>?_;have sd:=Same.new (o:=.dK []) hd;have ed:(upd H d (.dK [])) d=some (.dK (emb [])):=ak;generalize upd H d (.dK [])=H1 at sd ed ⊢;refine⟨_,rfl,_,rfl,a,_,rfl,sd.seq hS,fun z hz=>?_⟩;rw[ecs];have sz:=Same.new (o:=.lst (cs.map V.int)) hz;refine⟨z,_,rfl,.inl (.inl ak),?_⟩;refine⟨_,_,rfl,rfl,⟨by decide,by decide⟩,_,rfl,_,_,rfl,rfl,_,_,rfl,rfl,(by show(0:Int)<(m:Int)+1;lia),?_⟩;have c0:=yp (cs.sum / 60) (show(m:Int)+1≠0 by lia);have c1:=yj (cs.sum / 60) (show(0:Int)<(m:Int)+1 by lia);obtain⟨n,en⟩:∃n,n=cs.sum / 60 % ((m:Int)+1):=⟨_,rfl⟩;rw[<-en]at c0 c1;have ez:=sz _ _ ed;generalize upd H1 z (.lst (cs.map V.int))=H2 at sz ez ⊢;have s2:=sd.trans sz;refine⟨n,by rw[en],by lia,by lia,?_⟩;refine pG (fun i σ G=>∃(c:Tab)(y4 y5 y6:Option V),σ=[some (.ref a),some (.int sp),some (.int m),some (.ref d),y4,y5,y6]/\Mo sp c/\c.length<=i/\G d=some (.dK (emb c))/\Same H G) ⟨[],none,none,none,rfl,⟨wB,(fun p m=>nomatch m)⟩,bG _,ez,s2⟩ ?_ ?_
  ·rintro i σ G hi ⟨c,y4,y5,y6,rfl,mo,lc,gd,sG⟩;have i3:i<3:=by lia
   refine⟨_,rfl,_,rfl,a,_,rfl,sG.seq hS,fun z hz=>?_⟩;rw[ecs];have sz:=Same.new (o:=.lst (cs.map V.int)) hz;have gz:=sz _ _ gd;refine⟨z,_,rfl,.inl (.inl ak),?_⟩;generalize upd G z (.lst (cs.map V.int))=G1 at sz gz ⊢;refine⟨_,rfl,_,_,rfl,rfl,yJ (by decide) (by decide),_,rfl,_,_,rfl,rfl,iR tb_g% tb_g%,_,_,rfl,rfl,_,_,rfl,rfl,_,48271,2147483647,rfl,by decide,by decide,by decide,fun v v0 v1=>?_⟩;refine⟨_,rfl,_,_,rfl,rfl,⟨by decide,by decide⟩,_,_,rfl,rfl,(by show(0:Int)<9;decide),_,_,rfl,rfl,?_⟩;refine⟨_,rfl,_,69621,2147483629,rfl,by decide,by decide,by decide,fun u u0 u1=>?_⟩;refine⟨_,_,rfl,rfl,iR (by decide) (by decide),_,_,rfl,rfl,(by show(0:Int)<999999999999;decide),_,_,rfl,rfl,by show 4<=sizeLine;decide,fun l hl=>?_⟩;have sl:=Same.new (o:=.lst [.int 1,.int 1,.int (1+v / 7 % 9),.int (1+u*465 % 999999999999)]) hl;have gl:=sl _ _ gz;obtain⟨w,hw,e⟩:=ak6 (ns:=[1,1,1+v / 7 % 9,1+u*465 % 999999999999]) (i:=v % 4) tb_g% (by show v % 4<4;lia);have hw:=four hw;have w1:1<=w/\w<=999999999999:=by
    have:=yp (u*465) (show(999999999999:Int)≠0 by decide);have:=yj (u*465) (show(0:Int)<999999999999 by decide);lia
   refine⟨_,rfl,_,_,rfl,rfl,(by show(0:Int)<4;decide),cD (.inl (.inl ak)) (v:=.int w) e ?_⟩;generalize upd G1 l (.lst [.int 1,.int 1,.int (1+v / 7 % 9),.int (1+u*465 % 999999999999)])=G2 at sl gl ⊢;refine⟨_,rfl,_,rfl,_,_,rfl,rfl,⟨by decide,by decide⟩,_,_,rfl,rfl,(by show(0:Int)<2;decide),_,_,rfl,rfl,yJ (by decide) (by decide),_,_,rfl,rfl,_,_,rfl,rfl,yJ tb_g% tb_g%,?_⟩;refine⟨_,rfl,_,rfl,_,_,rfl,rfl,⟨by decide,by decide⟩,_,rfl,_,_,rfl,rfl,(by show(0:Int)<sp;lia),.inr ⟨d,_,rfl,air.k (k:=Sum.inl (v / 5 % sp)) (v:=.int (w*(1-2*(v / 3 % 2)))) gl (bI (by rw[rD];lia)),?_⟩⟩;have k0:=yp (v / 5) (show sp≠0 by lia);have k1:=yj (v / 5) (show 0<sp by lia);have hx:w*(1-2*(v / 3 % 2))=w\/w*(1-2*(v / 3 % 2)) = -w:=by
    rcases(show v / 3 % 2=0\/v / 3 % 2=1 by lia)with z|z
    ·left;rw[z];lia
    ·right;rw[z];lia
   refine⟨put c (v / 5 % sp) (w*(1-2*(v / 3 % 2))),_,_,_,rfl,mo.put k0 k1 tb_g% tb_g%,by have:=SQ c (v / 5 % sp) (w*(1-2*(v / 3 % 2)));lia,by rw[ak,<-Dj],fun b o e=>?_⟩;rw[aB (au e hd)];exact(sG.trans (sz.trans sl)) b o e
  ·rintro σ G ⟨c,y4,y5,y6,rfl,mo,lc,gd,sG⟩;exact⟨_,rfl,q d c G mo tb_g% gd sG⟩
theorem Uj{ps:List α}{x p:α}{k:Nat}(m:p∈ps.take k++x::ps.drop k):p=x\/p∈ps:=by
 rcases dY.mp m with m|m
 ·exact .inr (aes m)
 ·rcases cO.mp m with m|m
  ·exact .inl m
  ·exact .inr (Jy m)
theorem NP(ps:List α)(x:α)(k:Nat):(ps.take k++x::ps.drop k).Perm (x::ps):=by
 have:=aeE (a:=x) (l₁:=ps.take k) (l₂:=ps.drop k)
 rwa [Qh]at this
structure Rw(s:Int)(H:Hp)(a:Addr)(ps:List (Addr × R3))(q:Q4):Prop where
 r:Rw3 H a ps
 k:∀p∈ps,p.2.kd=0\/p.2.kd=1
 q:qR s (ps.map (·.2))=q
theorem Rw.ins{s:Int}{G:Hp}{R t:Addr}{ps:List (Addr × R3)}{r:R3}{k:Nat}{q:Q4}(h:Rw s G R ps q)(ht:G t=none)(ok:r.ok)(rk:r.kd=0\/r.kd=1):Rw s (upd (upd G t (r3V r)) R (.lst ((ps.map fun p=>V.ref p.1).take k++V.ref t::(ps.map fun p=>V.ref p.1).drop k))) R (ps.take k++(t,r)::ps.drop k) (addQ q (pwQ (prQ s r).1 (prQ s r).2)):=by
 have nt:t≠R:=aX (au h.r.l ht);refine⟨⟨?_,fun p m=>?_,fun p m=>?_⟩,fun p m=>?_,?_⟩
 ·rw[ak,cM,fU,aeP,JD]
 ·rcases Uj m with rfl|m
  ·rw[aB nt,ak]
  ·have e:=h.r.t p m;rw[aB (iY e h.r.l (by intro z;cases z)),aB (au e ht)];exact e
 ·rcases Uj m with rfl|m
  ·exact ok
  ·exact h.r.ok p m
 ·rcases Uj m with rfl|m
  ·exact rk
  ·exact h.k p m
 ·unfold qR;rw[pK (((NP ps (t,r) k).map (·.2)).map (prQ s)),fU,fU,eZ,jh];exact congrArg (addQ · _) h.q
theorem Rw.push{s:Int}{R:Addr}{ps:List (Addr × R3)}{q:Q4}(h:Rw s G R ps q)(ht:G t=none)(ok:r.ok)(rk:r.kd=0\/r.kd=1):Rw s (upd (upd G t (r3V r)) R (.lst ((ps.map fun p=>V.ref p.1)++[V.ref t]))) R (ps++[(t,r)]) (addQ q (pwQ (prQ s r).1 (prQ s r).2)):=by
 have:=h.ins (k:=ps.length) ht ok rk
 rwa [m9,JC,<-aV (f:=fun p:Addr × R3=>V.ref p.1) (as:=ps),m9,JC]at this
theorem Rw.s{R:Addr}{o':HO}(sG:Same H0 G)(ht:G t=none)(hR:H0 R=none):Same H0 (upd (upd G t o) R o'):=fun b u e=>by
 rw[aB (au e hR),aB (au e (sG.free ht))];exact sG b u e
noncomputable def apB(K:bB):Sp:=fun vs H Q _=>∃(a d:Addr)(ns:List Int)(s:Nat)(c:Tab),vs=[.ref a,.int s,.ref d]/\SqL K H a (ns.map V.int)/\ns.length<=63/\1<=s/\s<=60/\H d=some (.dK (emb c))/\Mo s c/\∀(R:Addr) (ps:List (Addr × R3)) (H':Hp),Rw s H' R ps (addQ (iy s) (cg c))->ps.length<=190->Same H H'->Q (.ref R) H'
theorem ok'73(T:Tx K mg A):bZ P w K mg base CX0 2 A.acR A.HN Q42 (apB K):=by
 k_dat (T.F'73.ok,iV) "a"
 ·obtain⟨_,_,_,_,_,rfl,_⟩:=h;rfl
 ·obtain ⟨a,d,ns,sp,c,rfl,hS,h63,s1,s60,hd,mo,q⟩:=h;refine ⟨_,(ao (psS 3 iV.nd (dG aq))
   (ao (j9 jK rfl (mO rfl T.vV (aj (pv 1) aq)) (pgN 4 iV.nd) (ao (psS 5 iV.nd (aH bM aA (K6 (aY hr) (pv 2) (pv 4) aA ⟨rfl,rfl,rfl,rfl⟩)))
   (ao (cU (aN oO (pv 5) aA (aM _)) (aC (aZ (lG qT yd yg gF (pv 3) (aj (jL (aj aA (aj (pv 4) (aj (pv 5) aq)))) aq)))) bJ)
   (aC (cU (aN pZ (pv 5) aA (aM _)) (aC (aZ (lG qT yd yg gF (pv 3) (aj (jL (aj aA (aj (pv 4) (aj (Ho yG (pv 5)) aq)))) aq)))) bJ)))))
   (ao (j9 jK rfl (mO rfl T.vV (aj (aO bA (by rfl) T.eF dZ (aj (pv 0) aq)) aq)) (pgN 6 iV.nd) (ao (psS 4 iV.nd (aH eU (aD (abU T) tb_g% T.ajK aL (aj (bC (ixG (aY hr)) (pv 0) (pv 6) (fun _ _=>rfl)) (aj aA (aj aA aq)))) (pv 1)))
   (ao (psS 7 iV.nd (aH bM aA (aH eU (aH gZ (bC (ixG (aY hr)) (pv 0) (pv 6) (fun _ _=>rfl)) aA) aA)))
   (ao (aZ (lG qT afW afX Pr (pv 3) (aj (aH eU (aH gZ (bC (ixG (aY hr)) (pv 0) (pv 6) (fun _ _=>rfl)) aA) (aH bM (aO bA (by rfl) T.eF dZ (aj (pv 3) aq)) aA)) (aj (jL (aj (aH eU (pv 6) aA) (aj (pv 4) (aj (pv 7) aq)))) aq))))
   (aC (aZ (lG qT afW afX Pr (pv 3) (aj (aH eU (aH gZ (bC (ixG (aY hr)) (pv 0) (pv 6) (fun _ _=>rfl)) aA) (aH bM (aO bA (by rfl) T.eF dZ (aj (pv 3) aq)) aA)) (aj (jL (aj (aH gk aA (aH eU (pv 6) aA)) (aj (pv 4) (aj (pv 7) aq)))) aq)))))))))
   (aC (aW (pv 3)))))),?_⟩
  refine⟨by show 0<=sizeLine;decide,fun R hR=>?_⟩;have s1':=Same.new (o:=.lst []) hR;have W0:Rw sp (upd H R (.lst [])) R [] eY:=⟨⟨ak,fun _ m=>(nomatch m),fun _ m=>(nomatch m)⟩,fun _ m=>(nomatch m),rfl⟩;generalize upd H R (.lst [])=H1 at s1' W0 ⊢;refine⟨_,rfl,sp,rfl,by lia,by lia,?_⟩;refine pG (fun i σ G=>∃(ps:List (Addr × R3)) (y4 y5:Option V),σ=[some (.ref a),some (.int sp),some (.ref d),some (.ref R),y4,y5,none,none]/\Same H G/\Rw sp G R ps (cg ((m6 i).map fun t=>(t,1+low c t)))/\ps.length<=i) ⟨[],none,none,rfl,s1',W0,bG _⟩ ?_ ?_
  ·rintro i σ G hi ⟨ps,y4,y5,rfl,sG,W,lp⟩;have gd:=sG _ _ hd;have lb:=mo.lowb (i:Int);have tk:cg ((m6 (i+1)).map fun t=>(t,1+low c t))=addQ (cg ((m6 i).map fun t=>(t,1+low c t))) (pwQ i (1+low c i)):=by
    rw[Ih,cM];exact uX _ _
   rw[show(0:Int)+(i:Int)=i from pO _,tk];generalize cg ((m6 i).map fun t=>(t,1+low c t))=q0 at W ⊢;refine⟨_,rfl,d,rfl,.inl ⟨_,.inl gd⟩,_,rfl,_,Ik.k (k:=Sum.inl (i:Int)) gd,_,_,rfl,S8 c i,?_⟩;refine⟨_,rfl,_,_,rfl,rfl,_,rfl,fO (fun h=>?_) (fun h=>?_)⟩
   ·have h:1+low c i>0:=of_decide_eq_true h;refine⟨_,rfl,.inl ⟨rfl,_,.inl (.inl W.r.l)⟩,_,rfl,_,rfl,by show 3<=sizeLine;decide,fun t ht=>?_⟩;refine⟨R,_,_,rfl,rfl,(Same.new ht) _ _ W.r.l,bI (by rw[aV];lia),?_⟩;refine⟨_,rfl,_,_,rfl,rfl,_,rfl,fO (fun h2=>absurd (of_decide_eq_true h2) (by show ¬ 1+low c i<0;lia)) fun _=>?_⟩;have W2:=W.push (r:=⟨0,i,1+low c i⟩) ht ⟨iW _,by show(0:Int)<=2;decide,by show 0<=(i:Int);lia,by show(i:Int)<1152921504606846976;lia,by show 1<=1+low c i;lia,by show 1+low c i<=1000000000000;lia⟩ (.inl rfl);have e:prQ sp ⟨0,i,1+low c i⟩=(↑i,1+low c i):=by
     unfold prQ;dsimp only;rw[if_pos tb_g%,if_pos rfl]
    rw[e]at W2;exact⟨_,_,_,rfl,Rw.s sG ht hR,W2,by rw[fj];show ps.length+1<=i+1;lia⟩
   ·have h:¬ 1+low c i>0:=fun z=>h (decide_eq_true z);refine⟨_,rfl,_,_,rfl,rfl,_,rfl,fO (fun h2=>?_) (fun h2=>?_)⟩
    ·have h2:1+low c i<0:=of_decide_eq_true h2;refine⟨_,rfl,.inl ⟨rfl,_,.inl (.inl W.r.l)⟩,_,rfl,_,rfl,_,rfl,by show 3<=sizeLine;decide,fun t ht=>?_⟩;refine⟨R,_,_,rfl,rfl,(Same.new ht) _ _ W.r.l,bI (by rw[aV];lia),?_⟩;have W2:=W.push (r:=⟨1,i,-(1+low c i)⟩) ht ⟨by show(0:Int)<=1;decide,by show(1:Int)<=2;decide,by show 0<=(i:Int);lia,by show(i:Int)<1152921504606846976;lia,by show 1 <= -(1+low c i);lia,by show -(1+low c i)<=1000000000000;lia⟩ (.inr rfl);have e:prQ sp ⟨1,i,-(1+low c i)⟩=(↑i,1+low c i):=by
      unfold prQ;dsimp only;rw[if_pos tb_g%,if_neg (by decide),if_pos rfl,agA]
     rw[e]at W2;exact⟨_,_,_,rfl,Rw.s sG ht hR,W2,by rw[fj];show ps.length+1<=i+1;lia⟩
    ·have h2:¬ 1+low c i<0:=fun z=>h2 (decide_eq_true z);have e:1+low c i=0:=by lia
     rw[e,pw_zero,dU];exact⟨_,_,_,rfl,sG,W,by lia⟩
  ·rintro σ G ⟨ps,y4,y5,rfl,sG,W,lp⟩;have W:Rw sp G R ps (addQ (iy sp) (cg c)):=by rw[<-mo.sum];exact W
   have lp:ps.length<=sp:=by lia
   refine⟨_,rfl,cX (sG.seq hS) ⟨_,rfl,by rw[aV];lia,by rw[aV];lia,?_⟩⟩;refine pG (fun i σ G=>∃(ps:List (Addr × R3)) (y4 y5 y6 y7:Option V),σ=[some (.ref a),some (.int sp),some (.ref d),some (.ref R),y4,y5,y6,y7]/\Same H G/\Rw sp G R ps (addQ (iy sp) (cg c))/\ps.length<=sp+2*i) ⟨ps,_,_,_,_,rfl,sG,W,lp⟩ ?_ ?_
   ·rintro i σ G hi ⟨ps,y4,y5,y6,y7,rfl,sG,W,lp⟩;have hi:i<ns.length:=by
     rw[aV]at hi;lia
    have hS1:=sG.seq hS;have ei:atI (ns.map V.int) (i:Int)=some (.int ns[i]):=oY (by rw[gQ,gA hi];rfl);generalize ns[i]=v at ei;rw[show(0:Int)+(i:Int)=i from pO _];refine⟨_,rfl,_,rfl,cD hS1 ei ⟨_,16807,2147483399,rfl,by decide,by decide,by decide,fun m m0 m1=>⟨_,rfl,_,_,rfl,rfl,(by show(0:Int)<sp;lia),?_⟩⟩⟩;have th0:=yp m (show(sp:Int)≠0 by lia);have th1:=yj m (show(0:Int)<sp by lia);refine⟨_,rfl,_,rfl,cD hS1 ei ⟨_,_,rfl,rfl,⟨by decide,by decide⟩,_,_,rfl,rfl,(by show(0:Int)<100;decide),_,_,rfl,rfl,?_⟩⟩;refine⟨_,rfl,.inl ⟨rfl,_,.inl (.inl W.r.l)⟩,_,rfl,_,rfl,cD hS1 ei ⟨_,_,rfl,rfl,⟨by decide,by decide⟩,_,rfl,cX (.inl (.inl W.r.l)) ⟨_,_,rfl,rfl,_,_,rfl,rfl,(by show(0:Int)<((ps.map fun p=>V.ref p.1).length:Int)+1;lia),?_⟩⟩⟩;have j0:=yp (v / 300) (show((ps.map fun p=>V.ref p.1).length:Int)+1≠0 by lia);have j1:=yj (v / 300) (show(0:Int)<((ps.map fun p=>V.ref p.1).length:Int)+1 by lia);refine⟨_,rfl,_,_,rfl,rfl,(by show(0:Int)<2;decide),_,rfl,_,rfl,by show 3<=sizeLine;decide,fun t ht=>?_⟩;refine⟨R,_,(v / 300 % (((ps.map fun p=>V.ref p.1).length:Int)+1)).toNat,_,rfl,by rw[Cv j0],(Same.new ht) _ _ W.r.l,by lia,by rw[aV];lia,?_⟩;have kd:∀j:Int,j=(i:Int) % 2\/j=1-(i:Int) % 2->(⟨j,m % sp,1+v / 3 % 100⟩:R3).ok/\(j=0\/j=1):=fun j hj=>⟨⟨by show 0<=j;lia,by show j<=2;lia,th0,by show m % sp<_;lia,by show 1<=1+v / 3 % 100;lia,by show 1+v / 3 % 100<=_;lia⟩,by lia⟩;have W1:=W.ins (k:=(v / 300 % (((ps.map fun p=>V.ref p.1).length:Int)+1)).toNat) (r:=⟨(i:Int) % 2,m % sp,1+v / 3 % 100⟩) ht (kd _ (.inl rfl)).1 (kd _ (.inl rfl)).2;have sG1:=Rw.s (o:=r3V ⟨(i:Int) % 2,m % sp,1+v / 3 % 100⟩) (o':=.lst ((ps.map fun p=>V.ref p.1).take (v / 300 % (((ps.map fun p=>V.ref p.1).length:Int)+1)).toNat++V.ref t::(ps.map fun p=>V.ref p.1).drop (v / 300 % (((ps.map fun p=>V.ref p.1).length:Int)+1)).toNat)) sG ht hR;have l1:(ps.take (v / 300 % (((ps.map fun p=>V.ref p.1).length:Int)+1)).toNat++(t,(⟨(i:Int) % 2,m % sp,1+v / 3 % 100⟩:R3))::ps.drop (v / 300 % (((ps.map fun p=>V.ref p.1).length:Int)+1)).toNat).length=ps.length+1:=(NP ps _ _).length_eq;dsimp only[r3V]at W1 sG1 ⊢;generalize upd (upd G t (.tup [.int ((i:Int) % 2),.int (m % sp),.int (1+v / 3 % 100)])) R (.lst ((ps.map fun p=>V.ref p.1).take (v / 300 % (((ps.map fun p=>V.ref p.1).length:Int)+1)).toNat++V.ref t::(ps.map fun p=>V.ref p.1).drop (v / 300 % (((ps.map fun p=>V.ref p.1).length:Int)+1)).toNat))=G1 at W1 sG1 ⊢;generalize ps.take (v / 300 % (((ps.map fun p=>V.ref p.1).length:Int)+1)).toNat++(t,(⟨(i:Int) % 2,m % sp,1+v / 3 % 100⟩:R3))::ps.drop (v / 300 % (((ps.map fun p=>V.ref p.1).length:Int)+1)).toNat=ps1 at W1 l1;have hS2:=sG1.seq hS;refine⟨_,rfl,.inl ⟨rfl,_,.inl (.inl W1.r.l)⟩,_,rfl,_,rfl,cD hS2 ei ⟨_,_,rfl,rfl,⟨by decide,by decide⟩,_,rfl,cX (.inl (.inl W1.r.l)) ⟨_,_,rfl,rfl,_,_,rfl,rfl,(by show(0:Int)<((ps1.map fun p=>V.ref p.1).length:Int)+1;lia),?_⟩⟩⟩;have j0:=yp (v / 700) (show((ps1.map fun p=>V.ref p.1).length:Int)+1≠0 by lia);have j1:=yj (v / 700) (show(0:Int)<((ps1.map fun p=>V.ref p.1).length:Int)+1 by lia);refine⟨_,rfl,_,_,rfl,rfl,(by show(0:Int)<2;decide),_,_,rfl,rfl,_,rfl,_,rfl,by show 3<=sizeLine;decide,fun u hu=>?_⟩;refine⟨R,_,(v / 700 % (((ps1.map fun p=>V.ref p.1).length:Int)+1)).toNat,_,rfl,by rw[Cv j0],(Same.new hu) _ _ W1.r.l,by lia,by rw[aV];lia,?_⟩;have W2:=W1.ins (k:=(v / 700 % (((ps1.map fun p=>V.ref p.1).length:Int)+1)).toNat) (r:=⟨1-(i:Int) % 2,m % sp,1+v / 3 % 100⟩) hu (kd _ (.inr rfl)).1 (kd _ (.inr rfl)).2;have e:addQ (addQ (addQ (iy sp) (cg c)) (pwQ (prQ sp ⟨(i:Int) % 2,m % sp,1+v / 3 % 100⟩).1 (prQ sp ⟨(i:Int) % 2,m % sp,1+v / 3 % 100⟩).2)) (pwQ (prQ sp ⟨1-(i:Int) % 2,m % sp,1+v / 3 % 100⟩).1 (prQ sp ⟨1-(i:Int) % 2,m % sp,1+v / 3 % 100⟩).2)=addQ (iy sp) (cg c):=by
     unfold prQ;dsimp only;rw[f9,<-pw_add,if_pos th1,if_pos th1];rcases(show(i:Int) % 2=0\/(i:Int) % 2=1 by lia)with z|z
     ·rw[z,if_pos rfl,if_neg (by decide),if_pos (by decide),show 1+v / 3 % 100 + -(1+v / 3 % 100)=0 by lia,pw_zero,dU]
     ·rw[z,if_neg (by decide),if_pos rfl,if_pos (by decide),show -(1+v / 3 % 100)+(1+v / 3 % 100)=0 by lia,pw_zero,dU]
    rw[e]at W2;exact⟨_,_,_,_,_,rfl,Rw.s sG1 hu hR,W2,by rw[(NP ps1 _ _).length_eq,jo];lia⟩
   ·rintro σ G ⟨ps,y4,y5,y6,y7,rfl,sG,W,lp⟩;rw[aV]at lp;exact⟨_,rfl,q R ps G W tb_g% sG⟩
open MK
theorem share(C:α->Prop){G:α->Prop}(f:(∀x,C x->G x)->R)(k:∀x,C x->G x):R:=f k
theorem alS{qs:List α}{f:α->V}{q:α}(e:qs[qs.length-1]? = some q):atI (qs.map f) (-1)=some (f q):=by
 have l1:=(gn.mp e).1;unfold atI ixN;rw[aV,if_neg tb_g%,if_pos tb_g%];show(qs.map f)[((-1:Int)+qs.length).toNat]? = _;rw[show((-1:Int)+qs.length).toNat=qs.length-1 by lia,gQ,e];rfl
theorem WD{p:Pk}:∀{ps:List Pk},p∈ps->p.2.length<=(ps.flatMap (·.2)).length
 |q::ps,m=>by
  rw[wY,fj];rcases cO.mp m with rfl|m
  ·lia
  ·have:=WD m;lia
noncomputable def spLPo(A:Ad)(K:bB):Sp:=fun vs H Q _=>∃(a R:Addr)(ns:List Int) (ps:List (Addr × R3)) (sp:Nat) (q0:Q4),vs=[.ref a,.ref R,.int sp]/\SqL K H a (ns.map V.int)/\ns.length<=63/\Rw sp H R ps q0/\ps.length<=190/\∀(x:KS)(H':Hp),Kp A H' x->x.span=sp->x.ba.q=q0->Same H H'->Q (.ref x.k) H'
theorem ok'74(T:Tx K mg A):bZ P w K mg base CX0 8 A.acS A.MJ Q43 (spLPo A K):=by
 k_dat (T.F'74.ok,jD) "a"
 ·obtain⟨_,_,_,_,_,_,rfl,_⟩:=h;rfl
 ·obtain ⟨a,R,ns,ps,sp,q0,rfl,hS,h63,hW,h190,q⟩:=h;obtain ⟨cs,ecs,_,_⟩:=Dr ns none (some 1);have hR:=hW.r;refine ⟨_,(ao (psS 3 jD.nd (dG (aj (iz T.abz (abK T) tb_g% rfl T.vR T.b'31 .nil aL (aj aA (aj aA (aj (pv 2) aq)))) aq)))
   (ao (j9 jK rfl (mO rfl T.vV (aj (aO bA (by rfl) T.eF dZ (aj (pv 1) aq)) aq)) (pgN 4 jD.nd) (ao (cU (PW.pt (pw_and (aN pZ (pv 4) (aO bA (by rfl) T.eF dZ (aj (pv 0) aq)) (aM _)) (pw_and1 (aN iI (aH eU (bC (ixG (aY hr)) (pv 0) (pv 4) (fun _ _=>rfl)) aA) aA (aM _))))) (aC (aZ (lG qT yd yg gF (pv 3) (aj (iz T.abz (abK T) tb_g% rfl T.vR T.b'31 .nil aL (aj aA (aj aA (aj (pv 2) aq)))) aq)))) bJ)
   (aC (cU (aN iI (bC (ixG (aY hr)) (bC (ixG (aY hr)) (pv 1) (pv 4) (fun _ _=>rfl)) aA (fun _ _=>rfl)) aA (aM _)) (aC (aZ (eV (bC (ixG (aY hr)) (pv 3) (Ho yG aA) (fun _ _=>rfl)) T.bW T.zx (amw T) tb_g% T.b'29 .nil aL (aj (bC (ixG (aY hr)) (bC (ixG (aY hr)) (pv 1) (pv 4) (fun _ _=>rfl)) aA (fun _ _=>rfl)) (aj (bC (ixG (aY hr)) (bC (ixG (aY hr)) (pv 1) (pv 4) (fun _ _=>rfl)) aA (fun _ _=>rfl)) aq))))) (aC (aZ (eV (bC (ixG (aY hr)) (pv 3) (Ho yG aA) (fun _ _=>rfl)) T.bW T.wO (amx T) tb_g% T.b'30 .nil aL (aj (bC (ixG (aY hr)) (bC (ixG (aY hr)) (pv 1) (pv 4) (fun _ _=>rfl)) aA (fun _ _=>rfl)) (aj (bC (ixG (aY hr)) (bC (ixG (aY hr)) (pv 1) (pv 4) (fun _ _=>rfl)) aA (fun _ _=>rfl)) aq)))))))))
   (ao (psS 5 jD.nd (aO (pJ rfl) (by rfl) T.PK Gb (aj (jz m8 (pv 0) iB (dW aA)) aq)))
   (ao (uo jK (aN oO (aO bA (by rfl) T.eF dZ (aj (pv 3) aq)) aA (aM _)) (ao (psS 5 jD.nd (aD (abU T) tb_g% T.ajK aL (aj (aH bM (pv 5) (aO bA (by rfl) T.eF dZ (aj (pv 3) aq))) (aj aA (aj aA aq)))))
   (ao (psS 6 jD.nd (lG qT PySem.F.slot_list_pop PySem.F.type_list_pop aiq (pv 3) (aj (aH eU (pv 5) (aO bA (by rfl) T.eF dZ (aj (pv 3) aq))) aq)))
   (ao (psS 7 jD.nd (aH eU (aH gZ (pv 5) aA) (aO bA (by rfl) T.eF dZ (aj (pv 3) aq))))
   (aC (yE (aD (amC T) tb_g% T.F'39 tD (aj (pv 6) (aj (bC (ixG (aY hr)) (pv 3) (pv 7) (fun _ _=>rfl)) aq))) (yD (pv 3) (pv 7) (setG (aY hr)))))))))
   (aC (aW (bC (ixG (aY hr)) (pv 3) aA (fun _ _=>rfl)))))))),?_⟩
  refine⟨_,rfl,fun k dk n1 n2 n3=>⟨k,dk,2,9,sp,rfl,ak,by decide,by decide,rfl,fun x G2 kp eqx ek T9 aki bt=>⟨rfl,?_⟩⟩⟩;have up2:Same H (upd (upd H dk (.own k)) k (.ins A.iH dk [])):=fun b o e=>by rw[aB (au e n1),aB (au e n2)];exact e
  have sK:Same H G2:=fun b o e=>bt b o (up2 b o e) (au e n1);have ex:=Ex.new (by decide) (by decide) rfl (by decide) eqx;have fr:∀b∈x.all,H b=none:=fun b m=>by
   rcases cO.mp m with z|m
   ·rw[z,ek];exact n1
   ·exact up2.free (T9 b m)
  subst ek;clear n1 n2 n3 up2 bt T9 aki eqx;refine⟨by show 1<=sizeLine;decide,fun L fL=>?_⟩;have sL:=Same.new (o:=.lst [.ref x.k]) fL;have P0:Pc A 2 9 sp H (upd G2 L (.lst [.ref x.k])) L ([]++[(x,[])]) []:=⟨sK.trans sL,sK.free fL,ak,fun p m=>by rw[cZ.mp m];exact kp.same sL,fun p m=>by rw[cZ.mp m];exact ex,fun p m=>by rw[cZ.mp m];exact fr,WT _ _,.rfl⟩;generalize upd G2 L (.lst [.ref x.k])=G0 at P0 ⊢;clear kp ex fr sK sL fL;refine⟨_,rfl,cX (.inl (.inl (P0.s _ _ hR.l))) ⟨_,rfl,by rw[aV];lia,by rw[aV];lia,?_⟩⟩;refine pG (fun i σ G=>∃(y:Option V)(qs:List Pk)(x:KS)(ts:List R3),σ=[some (.ref a),some (.ref R),some (.int sp),some (.ref L),y,none,none,none]/\Pc A 2 9 sp H G L (qs++[(x,ts)]) ((ps.take i).map (·.2))/\qs.length<=i) ⟨none,[],x,[],rfl,P0,bG _⟩ ?_ ?_
  ·rintro i σ G hi ⟨y,qs,x0,ts,rfl,P,lq⟩;rw[aV]at hi;have hi:i<ps.length:=by lia
   obtain⟨p,hp⟩:∃p,ps[i]? = some p:=⟨_,gA hi⟩;have ok:=hR.ok p (List.mem_of_getElem? hp);have hk:=hW.k p (List.mem_of_getElem? hp);have tk:(ps.take (i+1)).map (·.2)=(ps.take i).map (·.2)++[p.2]:=by rw[qM,hp,cM];rfl
   have ea:atI (ps.map fun p=>V.ref p.1) (i:Int)=some (.ref p.1):=oY (by rw[gQ,hp];rfl);rw[tk,show(0:Int)+(i:Int)=i from pO _];apply share (fun G1:Hp=>∃(us:List Pk)(x1:KS)(ws:List R3),Pc A 2 9 sp H G1 L (us++[(x1,ws)]) ((ps.take i).map (·.2))/\us.length<=i+1)
   ·intro key;refine⟨_,rfl,_,rfl,cX (P.s.seq hS) ⟨_,_,rfl,rfl,_,rfl,fO (fun h=>?_) (fun h=>?_)⟩⟩;rotate_left
    ·generalize hG:G=Gn;exact key Gn ⟨qs,x0,ts,by rw[<-hG];exact P,Rf lq⟩
    have h:(i:Int)<((ns.map V.int).length:Int):=of_decide_eq_true h;have hn:i<ns.length:=by rw[aV]at h;lia
    have ei:atI (ns.map V.int) (i:Int)=some (.int ns[i]):=oY (by rw[gQ,gA hn];rfl);refine⟨_,rfl,_,rfl,cD (P.s.seq hS) ei ⟨_,_,rfl,rfl,(by show(0:Int)<5;decide),rfl,_,rfl,fO (fun _=>?_) (fun _=>?_)⟩⟩;rotate_left
    ·exact key G ⟨qs,x0,ts,P,Rf lq⟩
    refine⟨_,rfl,.inl ⟨rfl,_,.inl (.inl P.l)⟩,?_⟩;clear P0;refine⟨_,rfl,fun k dk n1 n2 n3=>⟨k,dk,2,9,sp,rfl,ak,by decide,by decide,rfl,fun x G2 kp eqx ek T9 aki bt=>⟨rfl,?_⟩⟩⟩;have up2:Same G (upd (upd G dk (.own k)) k (.ins A.iH dk [])):=fun b o e=>by rw[aB (au e n1),aB (au e n2)];exact e
    have sK:Same G G2:=fun b o e=>bt b o (up2 b o e) (au e n1);have ex:=Ex.new (by decide) (by decide) rfl (by decide) eqx;have fr:∀b∈x.all,G b=none:=fun b m=>by
     rcases cO.mp m with z|m
     ·rw[z,ek];exact n1
     ·exact up2.free (T9 b m)
    subst ek;clear n1 n2 n3 up2 bt T9 aki eqx;have P2:=P.same sK;refine⟨L,_,_,rfl,rfl,P2.l,bI (by rw[aV,fj];show qs.length+1<=1000;lia),?_⟩;have nx:L∉x.ems:=P2.away (by simp) kp;have P3:=P.push sK kp ex fr nx;rw[Eu]at P3;exact key _ ⟨qs++[(x0,ts)],x,[],P3,by rw[fj];show qs.length+1<=i+1;lia⟩
   intro G1 ⟨us,x1,ws,P1,lu⟩;have lw:ws.length<=i:=by
    have:=P1.pm.length_eq;rw[W8,fj,aV,iw]at this;have e:([(x1,ws)]:List Pk).flatMap (·.2)=ws:=by simp
    rw[e]at this;lia
   have mx:(x1,ws)∈us++[(x1,ws)]:=mj _ dO;have kx:=P1.kp _ mx;have rL:SqL K G1 R (ps.map fun p=>V.ref p.1):=.inl (.inl (P1.s _ _ hR.l));have rT:SqT K G1 p.1 [.int p.2.kd,.int p.2.th,.int p.2.w]:=.inl (.inl (P1.s _ _ (hR.t p (List.mem_of_getElem? hp))));have la:=alS (qs:=us++[(x1,ws)]) (f:=fun p=>V.ref p.1.k) (q:=(x1,ws)) (by simp);refine⟨_,rfl,_,rfl,cD rL ea (jA rT (v:=.int p.2.kd) rfl ⟨rfl,_,rfl,fO (fun h=>?_) (fun h=>?_)⟩)⟩
   ·have h:p.2.kd=0:=V.int.inj (of_decide_eq_true h);refine⟨_,rfl,_,rfl,cD (.inl (.inl P1.l)) (v:=.ref x1.k) la ⟨x1.k,x1.dk,_,rfl,kx.o,kfN tb_g%,_,rfl,_,rfl,cD rL ea (jA rT (v:=.int p.2.th) rfl ⟨_,rfl,_,rfl,cD rL ea (jA rT (v:=.int p.2.w) rfl ?_)⟩)⟩⟩;refine⟨x1,ws.length,p.2.th,p.2.w,rfl,kx,(P1.ex _ mx).kh,by lia,ok.t0,ok.t1,ok.w1,ok.w2,fun x3 G3 k3 s3 f3 _=>?_⟩;exact⟨_,us,x3,_,rfl,P1.row tb_g% ok k3 (by unfold SR;rw[if_pos h];exact s3) f3,lu⟩
   ·have h:¬ p.2.kd=0:=fun z=>h (decide_eq_true (congrArg V.int z));have h1:p.2.kd=1:=hk.resolve_left h;refine⟨_,rfl,_,rfl,cD (.inl (.inl P1.l)) (v:=.ref x1.k) la ⟨x1.k,x1.dk,_,rfl,kx.o,kfN tb_g%,_,rfl,_,rfl,cD rL ea (jA rT (v:=.int p.2.th) rfl ⟨_,rfl,_,rfl,cD rL ea (jA rT (v:=.int p.2.w) rfl ?_)⟩)⟩⟩;refine⟨x1,ws.length,p.2.th,p.2.w,rfl,kx,(P1.ex _ mx).kh,by lia,ok.t0,ok.t1,ok.w1,ok.w2,fun x3 G3 k3 s3 f3 _=>?_⟩;exact⟨_,us,x3,_,rfl,P1.row tb_g% ok k3 (by unfold SR;rw[if_neg h,if_pos h1];exact s3) f3,lu⟩
  ·rintro σ G ⟨y,qs,x,ts,rfl,P,lq⟩;have lq:qs.length<=190:=by rw[aV]at lq;lia
   have P:Pc A 2 9 sp H G L (qs++[(x,ts)]) (ps.map (·.2)):=by
    have e:(((ps.map fun p=>V.ref p.1).length:Int)).toNat=ps.length:=by rw[aV];lia
    rw[e,m9]at P;exact P
   clear P0;have ne0:qs++[(x,ts)]≠[]:=by simp
   have l70:(qs++[(x,ts)]).length<=200:=by rw[fj];show qs.length+1<=200;lia
   generalize qs++[(x,ts)]=us at P ne0 l70;refine⟨_,rfl,_,rfl,a,_,rfl,P.s.seq hS,fun z hz=>?_⟩;rw[ecs];refine⟨z,_,rfl,.inl (.inl ak),?_⟩;have P:=P.same (Same.new (o:=.lst (cs.map V.int)) hz);generalize upd G z (.lst (cs.map V.int))=G at P ⊢;refine ux (fun σ G=>∃(z:Int)(y6 y7:Option V)(us:List Pk),σ=[some (.ref a),some (.ref R),some (.int sp),some (.ref L),y,some (.int z),y6,y7]/\Pc A 2 9 sp H G L us (ps.map (·.2))/\us≠[]/\us.length<=200) (akk 3) ⟨_,none,none,us,rfl,P,ne0,l70⟩ ?_
    (fun σ H Q Q' hq h=>mV (jG (Ma (jf (bL 3) uG)) (vM _)) σ H Q Q' hq h)
   clear P ne0 l70 lq;rintro σ G ⟨z,y6,y7,us,rfl,P,ne,l70⟩;have ll:((us.map fun p=>V.ref p.1.k).length:Int)=(us.length:Int):=by rw[aV]
   have l0:0<us.length:=aez.mpr ne;refine⟨_,rfl,cX (.inl (.inl P.l)) ⟨_,_,rfl,rfl,_,rfl,fO (fun h=>?_) (fun h=>?_)⟩⟩;rotate_left
   ·have h1:us.length=1:=by
     have h:¬ ((us.map fun p=>V.ref p.1.k).length:Int)>1:=fun z=>h (decide_eq_true z);lia
    obtain⟨p,rfl⟩:=List.length_eq_one_iff.mp h1;have mp:p∈[p]:=dO;have e:=(P.ex p mp).perm (ss:=ps.map (·.2)) (by have:=P.pm;simpa using this);exact⟨_,rfl,cD (.inl (.inl P.l)) (v:=.ref p.1.k) rfl (q p.1 G (P.kp p mp) e.rZ (e.q.trans hW.q) P.s)⟩
   have h2:2<=us.length:=by have:=of_decide_eq_true h;lia
   refine⟨_,rfl,_,rfl,cX (.inl (.inl P.l)) ⟨_,_,rfl,rfl,_,39373,2147483587,rfl,by decide,by decide,by decide,fun m m0 m1=>?_⟩⟩;refine⟨_,rfl,.inl ⟨rfl,_,.inl (.inl P.l)⟩,_,rfl,_,rfl,cX (.inl (.inl P.l)) ⟨_,_,rfl,rfl,(by show(0:Int)<((us.map fun p=>V.ref p.1.k).length:Int);lia),?_⟩⟩;have i0:=yp m (show((us.map fun p=>V.ref p.1.k).length:Int)≠0 by lia);have i1:=yj m (show(0:Int)<((us.map fun p=>V.ref p.1.k).length:Int) by lia);dsimp only;generalize m % ((us.map fun p=>V.ref p.1.k).length:Int)=j at i0 i1 ⊢;have lj:j.toNat<us.length:=by lia
   refine⟨L,_,j,j.toNat,.ref (us[j.toNat]).1.k,rfl,rfl,P.l,by lia,by lia,PySem.seqIndex_of i0 i1,by rw[gQ,gA lj];rfl,?_⟩;rw[Nz];have kx1:=(P.kp _ (uZ lj)).chg (o:=.lst ((us.eraseIdx j.toNat).map fun p=>V.ref p.1.k)) (by rw[<-Eo];exact P.l) (P.away ne (P.kp _ (uZ lj)));have ex1:=P.ex _ (uZ lj);obtain⟨rs1,P1,pm1⟩:=P.erase lj;have le1:(us.eraseIdx j.toNat).length+1=us.length:=by rw[WM lj];lia
   generalize upd G L (.lst ((us.eraseIdx j.toNat).map fun p=>V.ref p.1.k))=G1 at P1 kx1 ⊢;have lenG:=Wy (j:=3) (σ:=[some (.ref a),some (.ref R),some (.int sp),some (.ref L),y,some (.int z),y6,y7]) (p:=L) rfl P.l;rw[aV]at lenG;generalize us[j.toNat]=p1 at kx1 ex1 pm1 ⊢;generalize us.eraseIdx j.toNat=vs at P1 le1 ⊢;have lv:((vs.map fun p=>V.ref p.1.k).length:Int)=(vs.length:Int):=by rw[aV]
   have nv:vs≠[]:=fun z=>by rw[z]at le1;simp at le1;lia
   refine⟨_,rfl,_,_,rfl,rfl,⟨by decide,by decide⟩,_,rfl,cX (.inl (.inl P1.l)) ⟨_,_,rfl,rfl,(by show(0:Int)<((vs.map fun p=>V.ref p.1.k).length:Int);lia),?_⟩⟩;have k0:=yp (m / 7) (show((vs.map fun p=>V.ref p.1.k).length:Int)≠0 by lia);have k1:=yj (m / 7) (show(0:Int)<((vs.map fun p=>V.ref p.1.k).length:Int) by lia);dsimp only;generalize m / 7 % ((vs.map fun p=>V.ref p.1.k).length:Int)=j2 at k0 k1 ⊢;have lj2:j2.toNat<vs.length:=by lia
   have mv:=uZ lj2;have at2:atI (vs.map fun p=>V.ref p.1.k) j2=some (.ref (vs[j2.toNat]).1.k):=by
    have:=oY (xs:=vs.map fun p=>V.ref p.1.k) (j:=j2.toNat) (v:=.ref (vs[j2.toNat]).1.k) (by rw[gQ,gA lj2];rfl)
    rwa [Cv k0]at this
   have few:p1.2.length+(vs[j2.toNat]).2.length<=200:=by
    have e1:=pm1.length_eq;have e2:=P1.pm.length_eq;have e3:=WD mv;rw[fj]at e1;rw[aV]at e1;lia
   refine⟨_,rfl,_,rfl,_,rfl,cD (.inl (.inl P1.l)) at2 (.inl ⟨p1.1,(vs[j2.toNat]).1,_,_,rfl,kx1,P1.kp _ mv,ex1.alk (P1.ex _ mv) few,fun z3 G3 kz kpz frz emz s3=>?_⟩)⟩;have P3:=P1.same s3;have nz:L∉z3.ems:=fun m=>by
    have:=emz _ m;rw[P1.l]at this;cases this
   refine⟨_,rfl,_,rfl,.inl ⟨L,_,j2,j2.toNat,rfl,rfl,P3.l,by unfold ixN;rw[if_pos k0,if_pos k1],?_⟩⟩;have P4:=P1.put (ts:=p1.2) lj2 s3 kz (ex1.aiG (P1.ex _ mv) few kpz) frz nz .rfl;have em:((vs.map fun p=>V.ref p.1.k).set j2.toNat (.ref z3.k))=(vs.set j2.toNat (z3,p1.2++(vs[j2.toNat]).2)).map fun p=>V.ref p.1.k:=by rw[aeR]
   rw[em];refine⟨⟨_,_,_,_,rfl,⟨P4.s,P4.fL,P4.l,P4.kp,P4.ex,P4.fr,P4.dj,P4.pm.trans (WY.trans pm1)⟩,by simpa using nv,by rw[kY];lia⟩,?_⟩;rw[Wy (j:=3) (p:=L) rfl P4.l,lenG,aV,kY];lia
open MK
theorem apC{s:Int}(h1:1<=s)(h2:s<=1000000000):∀z∈L4 (iy s),z.natAbs<=2 ^ 130:=by
 have e:s.natAbs<=1000000000:=by lia
 have e1:(s-1).natAbs<=1000000000:=by lia
 have e2:(2*s-1).natAbs<=2000000000:=by lia
 have key:∀{a b:Int}{c d:Nat},a.natAbs<=c->b.natAbs<=d->(a*b).natAbs<=c*d:=fun h1 h2=>by rw[YK];exact afJ h1 h2
 have a1:=key e e1;have a2:=key a1 e2;have d1:=eN (Kw (s*(s-1)) 2) a1;have d2:=eN (Kw (s*(s-1)*(2*s-1)) 6) a2;have d3:=key d1 d1;intro z m;have m:z=s\/z=s*(s-1) / 2\/z=s*(s-1)*(2*s-1) / 6\/z=s*(s-1) / 2*(s*(s-1) / 2):=by
  have:z∈[s,s*(s-1) / 2,s*(s-1)*(2*s-1) / 6,s*(s-1) / 2*(s*(s-1) / 2)]:=m;simpa using this
 rcases m with rfl|rfl|rfl|rfl
 ·exact eN e (by decide)
 ·exact eN d1 (by decide)
 ·exact eN d2 (by decide)
 ·exact eN d3 (by decide)
theorem WK{a:Addr}(ha:SqT K H a xs)(hb:SqT K H b xs)(h:∀x∈xs,uy x=true):Alike K H 1 (.ref a) (.ref b):=
 .tup ha hb rfl fun i x y hx hy=>by
  have e:x=y:=cN (hx.symm.trans hy);subst e;exact .flat (h x (List.mem_of_getElem? hx))
theorem flat2{i j:Int}:∀x∈[V.int i,V.int j],uy x=true:=by
 intro x hx;simp only[cO,iM,or_false]at hx;rcases hx with rfl|rfl <;> rfl
noncomputable abbrev KS.rest(x:KS):Q4:=subQ x.ba.q (iy x.span)
noncomputable def alT(A:Ad):Sp:=fun vs H Q _=>∃x:KS,vs=[.ref x.k]/\Kp A H x/\1<=x.span/\x.span<=1000000000/\Sm x.rest /\
 (∀(t y:Addr)(ps:List Po)(H':Hp),Hg (po ps)->cg (po ps)=x.rest->(∀M,Hg M->cg M=x.rest->M=po ps)->Pos H' y ps->H' t=some (.tup [.ref y,.bl false])->Same H H'->Q (.ref t) H') /\
 ((∀L,Hg L->In x.span L->cg L≠x.rest)->∀(t:Addr)(H':Hp),H' t=some (.tup [.non,.bl true])->Same H H'->Q (.ref t) H')
theorem ok'75(T:Tx K mg A):bZ P w K mg base CX0 6 A.acT A.V7 ["_law_balance"] (alT A):=by
 k_dat (T.F'75.ok,uO) "a"
 ·obtain⟨_,rfl,_⟩:=h;rfl
 ·obtain ⟨x,rfl,hK,p1,p2,sm,q1,q2⟩:=h;refine ⟨_,(ao (psS 1 uO.nd mL)
   (ao (psS 2 uO.nd kZ)
   (ao (aji (j:=1) (B:=A.zX) rfl rfl rfl T.DR uO.nd rfl (Or.inl rfl) (ajg (pv 0) T.bW T.zy (amE T) tb_g% T.b'47 .nil) (fun _=>(aC (psS 2 uO.nd kZ))))
   (aC (aW (jL (aj (pv 1) (aj (pv 2) aq)))))))),?_⟩
  refine⟨_,rfl,x.k,x.dk,_,rfl,hK.o,kfN tb_g%,x,rfl,hK,x.ba.p,x.ba.dx,x.ba.l,x.span,x.ba.q,rfl,hK.ba,p1,p2,sm,fun y ps H2 nc i e u hp s2 hy=>?_,fun h H2 s2=>⟨A.zX,rfl,T.tX,?_⟩⟩
  ·exact⟨_,rfl,_,rfl,by show 2<=sizeLine;decide,fun t ht=>q1 t y ps _ nc e u (hp.same (Same.new ht)) ak (s2.trans (Same.new ht))⟩
  ·exact⟨_,rfl,_,rfl,by show 2<=sizeLine;decide,fun t ht=>q2 h t _ ak (s2.trans (Same.new ht))⟩
theorem WL{a:Addr}{ps ps':List Po}(h:Pos H a ps)(h':Pos H b ps')(e:po ps=po ps'):Alike K H 2 (.ref a) (.ref b):=by
 have len:ps.length=ps'.length:=by
  have:=congrArg mC e;unfold po at this
  rwa [aV,aV]at this
 refine .lst (.inl (.inl h.l)) (.inl (.inl h'.l)) (by rw[aV,aV,len]) fun i x y hx hy=>?_;obtain⟨p,hp,rfl⟩:=Ub hx;obtain⟨p',hp',rfl⟩:=Ub hy;have e2:p.2=p'.2:=by
  have e3:(po ps)[i]? = (po ps')[i]?:=by rw[e]
  unfold po at e3;rw[gQ,gQ,hp,hp']at e3;exact cN e3
 have t1:=h.t p (List.mem_of_getElem? hp);have t2:=h'.t p' (List.mem_of_getElem? hp');rw[<-e2]at t2;exact WK (.inl (.inl t1)) (.inl (.inl t2)) flat2
noncomputable def akl:Sp:=fun vs H Q _=>∃(a b:Addr)(ps ps':List Po),vs=[.ref a,.ref b]/\Pos H a ps/\Pos H b ps'/\po ps=po ps'/\Q (.bl true) H
theorem amN(T:Tx K mg A):bZ P w K mg base CX0 2 A.acU A.PB Q44 akl:=by
 k_dat (T.F'76.ok,Ni) "a"
 ·obtain⟨a,b,ps,ps',rfl,_⟩:=h;rfl
 ·obtain ⟨a,b,ps,ps',rfl,ha,hb,e,q⟩:=h;refine ⟨_,(ao (cU (lE (j8 (aO call_isinstance (by rfl) T.pB Rq (aj (pv 0) (aj (Jc (v:=.ty "list") rfl T.M6 Yr rfl) aq))))) (aC (aW kZ)) bJ)
   (ao (j9 jK rfl (gj (pv 0)) (pgN 2 Ni.nd) (aC (cU (PW.pt (pw_or (lE (j8 (aO call_isinstance (by rfl) T.pB Rq (aj (pv 2) (aj (Jc (v:=.ty "tuple") rfl T.alh amT rfl) aq))))) (pw_or (aN pY (aO bA (by rfl) T.eF dZ (aj (pv 2) aq)) aA (aM _)) (pw_or (lE (j8 (aD (amL T) tb_g% T.F'71 aL (aj (bC (ixG (aY hr)) (pv 2) aA (fun _ _=>rfl)) aq)))) (pw_or1 (lE (j8 (aD (amL T) tb_g% T.F'71 aL (aj (bC (ixG (aY hr)) (pv 2) aA (fun _ _=>rfl)) aq))))))))) (aC (aW kZ)) bJ)))
   (aC (aW (cY (Tf hr.units) (pv 0) (pv 1) (aM _)))))),?_⟩
  refine⟨_,rfl,⟨_,_,_,_,true,rfl,rfl,fun _ h=>h,.lst ha.l,yI _ _ (by decide),_,rfl,uz ?_⟩⟩;refine⟨_,rfl,a,rfl,⟨_,.inl (.inl ha.l)⟩,ur (K:=K) (a:=a) (xs:=ps.map fun p=>V.ref p.1) (fun i σ H2=>∃x,σ=[some (.ref a),some (.ref b),x]/\H2=H) ⟨none,rfl,rfl⟩ (fun i σ H2 _ ⟨_,_,h⟩=>by rw[h];exact .inl (.inl ha.l)) ?_ ?_⟩
  ·rintro i y σ H2 hi ⟨x,rfl,rfl⟩;obtain⟨p,hp,rfl⟩:=Ub hi;have ht:=ha.t p (List.mem_of_getElem? hp);refine⟨_,rfl,⟨_,_,_,_,true,rfl,rfl,fun _ h=>h,.tup ht,yI _ _ (by decide),_,rfl,uz ?_⟩⟩;refine⟨_,rfl,aoS (.inl (.inl ht)) ⟨rfl,_,rfl,yH rfl ?_⟩⟩;refine⟨_,rfl,jA (.inl (.inl ht)) (v:=.int p.2.1) rfl ⟨_,rfl,_,rfl,uz ?_⟩⟩;exact⟨_,rfl,jA (.inl (.inl ht)) (v:=.int p.2.2) rfl ⟨_,rfl,_,rfl,uz ⟨_,rfl,rfl⟩⟩⟩
  ·rintro σ H2 ⟨x,rfl,rfl⟩;exact⟨_,rfl,_,rfl,2,a,b,rfl,rfl,by decide,WL ha hb e,q⟩
open MK
theorem log2_small{k:Nat}{i:Int}(h:i.natAbs<2 ^ k)(hk:0<k):i.natAbs.log2<k:=by
 by_cases z:i.natAbs=0
 ·rw[z];exact hk
 ·exact(Ro z).mpr h
theorem apD{a b:Str}(h:cL a=cL b):a=b:=by
 cases a;cases b;exact congrArg Str.mk (Yp.mp h)
theorem apE(a b:Str):cL (a++b)=cL a++cL b:=Kq
theorem amO(n:Nat):V.str (bK (toString (n:Int)))=V.str (wS n):=by rw[Dec.alc]
theorem alU(p:Nat):bK "keep 2 9 " ++ wS p=fu sp1 [bK "keep",wS 2,wS 9,wS p]:=by
 apply apD;rw[apE,Js];have e:cL (bK "keep 2 9 ")=cL (bK "keep")++((cL sp1++cL (wS 2))++((cL sp1++cL (wS 9))++cL sp1)):=by decide +kernel
 rw[e,wY,wY,wY,List.flatMap_nil,Eu];simp only[pL]
noncomputable def spWS(A:Ad):Sp:=fun vs H Q _=>∃(l:Addr)(p:Nat)(n:Nat->Nat)(q:Q4),vs=[.int p,.ref l]/\H l=some (.lst ((L4 q).map V.int))/\1<=p/\p<=1000000000/\Nq q n/\∀(x:KS)(H':Hp),Kp A H' x->Eqp x (K1 p q)->(∀b∈x.all,H b=none)->Same H H'->Q (.ref x.k) H'
theorem amP(T:Tx K mg A):bZ P w K mg base CX0 12 A.acV A.Av Q45 (spWS A):=by
 k_dat (T.F'77.ok,zF) "a"
 ·obtain⟨_,_,_,_,rfl,_⟩:=h;rfl
 ·obtain⟨l,p,n,q4,rfl,hl,p1,p9,nq,q⟩:=h;have gz:=amJ p9 nq.s;have gp:=gw_n (n:=p) (mD p9 (by decide));have lw:∀{k:Nat},k<10 ^ 60->(wS k).length<=60:=fun h=>by
   have:=(gw_n h).l
   rwa [show(cL _).length=afD _ from mF]at this
  refine ⟨_,(ao (psS 2 zF.nd (dG (aj (aH Zy dN (lg CV (by rfl) T.amk agg (aj (pv 0) aq))) (aj dN (aj dN (aj dN (aj dN (aj dN (aj dN aq)))))))))
   (aC (aW (aD (ok'69 T) tb_g% T.F'69 aL (aj (lG Ks af5 af6 abv dN (aj (aH vG (pv 2) (dG (aj (lG Ks af5 af6 abv dN (aj (aH vG (dG (aj dN aq)) (lJ (cl:=[]) (N:=["_law_part"]) (caps:=[]) (tt:=_) (te:=_) rfl (by with_unfolding_all rfl) tb_g% rfl tb_g% trivial (iJ (by with_unfolding_all rfl)) tb_g% rfl rfl rfl (cG.at (k:=1) (show cG _ _ _ _ 1 [] from trivial)) (gj (pv 1)) (fun _ _ _ _=>iC) (fun _ _ _ _=>(lg CV (by rfl) T.amk agg (aj (pv 0) aq))))) aq)) aq))) aq)) aq))))),?_⟩
  refine⟨_,rfl,_,rfl,Rj (log2_small (k:=100) (mD (show(p:Int).natAbs<=1000000000 by lia) (by decide)) (by decide)) (by decide),?_⟩;refine⟨_,_,rfl,amO p,?_,?_⟩
  ·have h1:(bK "keep 2 9 ").length=9:=by decide +kernel
   have h2:=lw (mD p9 (by decide));rw[h1];exact eN (afE h2 9) (by decide)
  rw[alU];refine⟨by show 7<=sizeLine;decide,fun L hL=>?_⟩;have s1:=Same.new (o:=.lst (((lns (lY p n)).take 7).map V.str)) hL;have e1:(upd H L (.lst (((lns (lY p n)).take 7).map V.str))) L=_:=ak;have ez:∀H0:Hp,upd H0 L (.lst [.str (fu sp1 [bK "keep",wS 2,wS 9,wS p]),.str (bK "came 0 0"),.str (bK "went 0 0"),.str (bK "up 0 0 0 0"),.str (bK "down 0 0 0 0"),.str (bK "window 0"),.str (bK "seen 0 0")])=upd H0 L (.lst (((lns (lY p n)).take 7).map V.str)):=by
   intro H0;have c1:fu sp1 [bK "came",wS 0,wS 0]=bK "came 0 0" := by decide +kernel
   have c2:fu sp1 [bK "went",wS 0,wS 0]=bK "went 0 0" := by decide +kernel
   have c3:fu sp1 [bK "up",wS 0,wS 0,wS 0,wS 0]=bK "up 0 0 0 0" := by decide +kernel
   have c4:fu sp1 [bK "down",wS 0,wS 0,wS 0,wS 0]=bK "down 0 0 0 0" := by decide +kernel
   have c5:fu sp1 [bK "window",wS 0]=bK "window 0" := by decide +kernel
   have c6:fu sp1 [bK "seen",wS 0,wS 0]=bK "seen 0 0" := by decide +kernel
   rw[<-c1,<-c2,<-c3,<-c4,<-c5,<-c6];rfl
  rw[ez];generalize upd H L (.lst (((lns (lY p n)).take 7).map V.str))=H1 at s1 e1 ⊢;refine⟨rfl,_,rfl,?_⟩;refine⟨rfl,by show 1<=sizeLine;decide,fun D hD=>?_⟩;have s2:=s1.trans (Same.new (o:=.lst [.str (bK "sums")]) hD);have d2:(upd H1 D (.lst [.str (bK "sums")])) D=_:=ak;have e2:=(Same.new (o:=.lst [.str (bK "sums")]) hD) _ _ e1;generalize upd H1 D (.lst [.str (bK "sums")])=H2 at s2 d2 e2 ⊢;refine⟨_,rfl,l,rfl,⟨_,.inl (.inl (s2 _ _ hl))⟩,fun C hC=>?_⟩;refine jd (K:=K) (a:=l) (xs:=(L4 q4).map V.int) (fun i ys G=>ys=([wS (n 0),wS (n 1),wS (n 2),wS (n 3)].take i).map V.str/\G C=some (.lst ys)/\Same H2 G) ⟨rfl,ak,Same.new hC⟩ ?_ ?_ ?_ ?_
  ·rintro i ys G hi ⟨rfl,gC,sG⟩;exact⟨.inl (.inl (sG _ _ (s2 _ _ hl))),gC,bI (by rw[aV,iw];show min i 4<=1000;lia)⟩
  ·rintro i ys G x hx ⟨rfl,gC,sG⟩;have key:∃j,x=.int (n j:Int)/\([wS (n 0),wS (n 1),wS (n 2),wS (n 3)].take (i+1)).map V.str=([wS (n 0),wS (n 1),wS (n 2),wS (n 3)].take i).map V.str++[.str (wS (n j))]:=by
    rcases fM hx with⟨rfl,rfl⟩|⟨rfl,rfl⟩|⟨rfl,rfl⟩|⟨rfl,rfl⟩
    ·exact⟨0,by rw[nq.a],rfl⟩
    ·exact⟨1,by rw[nq.b],rfl⟩
    ·exact⟨2,by rw[nq.c],rfl⟩
    ·exact⟨3,by rw[nq.d],rfl⟩
   obtain⟨j,rfl,e⟩:=key;refine⟨_,rfl,_,rfl,Rj (log2_small (k:=200) (fJ (show((n j:Nat):Int).natAbs<10 ^ 60 from nq.s j) (by decide)) (by decide)) (by decide),gC,?_,ak,fun b o e=>?_⟩
   ·rw[e,<-amO]
   ·rw[aB (au e hC)];exact sG b o e
  ·rintro ys G ⟨rfl,gC,sG⟩;have gC:G C=some (.lst ([wS (n 0),wS (n 1),wS (n 2),wS (n 3)].map V.str)):=gC;refine⟨D,C,_,_,rfl,rfl,sG _ _ d2,gC,by show 5<=sizeLine;decide,fun J hJ=>?_⟩;have s3:=s2.trans (sG.trans (Same.new (o:=.lst ([.str (bK "sums")]++[wS (n 0),wS (n 1),wS (n 2),wS (n 3)].map V.str)) hJ));have e3:=(Same.new (o:=.lst ([.str (bK "sums")]++[wS (n 0),wS (n 1),wS (n 2),wS (n 3)].map V.str)) hJ) _ _ (sG _ _ e2);have j3:(upd G J (.lst ([.str (bK "sums")]++[wS (n 0),wS (n 1),wS (n 2),wS (n 3)].map V.str))) J=some (.lst ([bK "sums",wS (n 0),wS (n 1),wS (n 2),wS (n 3)].map V.str)):=ak;generalize upd G J (.lst ([.str (bK "sums")]++[wS (n 0),wS (n 1),wS (n 2),wS (n 3)].map V.str))=H3 at s3 e3 j3 ⊢;refine⟨sp1,J,[bK "sums",wS (n 0),wS (n 1),wS (n 2),wS (n 3)],rfl,rfl,.inl (.inl j3),by decide +kernel,?_,?_⟩
   ·have h0:(bK "sums").length=4:=by decide +kernel
    have a0:=lw (nq.s 0);have a1:=lw (nq.s 1);have a2:=lw (nq.s 2);have a3:=lw (nq.s 3);show(bK "sums").length+((wS (n 0)).length+((wS (n 1)).length+((wS (n 2)).length+((wS (n 3)).length+0))))+5<=1048576;lia
   refine⟨by show 1<=sizeLine;decide,fun M hM=>?_⟩;have s4:=s3.trans (Same.new (o:=.lst [.str (fu sp1 [bK "sums",wS (n 0),wS (n 1),wS (n 2),wS (n 3)])]) hM);have e4:=(Same.new (o:=.lst [.str (fu sp1 [bK "sums",wS (n 0),wS (n 1),wS (n 2),wS (n 3)])]) hM) _ _ e3;have m4:(upd H3 M (.lst [.str (fu sp1 [bK "sums",wS (n 0),wS (n 1),wS (n 2),wS (n 3)])])) M=_:=ak;generalize upd H3 M (.lst [.str (fu sp1 [bK "sums",wS (n 0),wS (n 1),wS (n 2),wS (n 3)])])=H4 at s4 e4 m4 ⊢;refine⟨L,M,_,_,rfl,rfl,e4,m4,by show 8<=sizeLine;decide,fun N hN=>?_⟩;have s5:=s4.trans (Same.new (o:=.lst ((lns (lY p n)).map V.str)) hN);have n5:(upd H4 N (.lst ((lns (lY p n)).map V.str))) N=_:=ak;refine⟨nl1,N,lns (lY p n),rfl,rfl,.inl (.inl n5),by decide +kernel,?_,?_⟩
   ·have h1:=abQ gz;rw[show(lY p n).length=8 from rfl]at h1;rw[show(lns (lY p n)).length=8 from rfl];lia
   exact⟨p,n,q4,rfl,p1,p9,nq,fun x H' kx ex fr s'=>q x H' kx ex (fun b m=>s5.free (fr b m)) (s5.trans s')⟩
  ·rintro σ H R R' hq ⟨v,e,i,ei,h,q⟩;exact⟨v,e,i,ei,h,hq _ _ q⟩
open MK
theorem apF{s:Int}(h1:100<=s):∀z∈L4 (iy s),14<=z:=by
 have a1:(100:Int)*99<=s*(s-1):=pP h1 tb_g% (by decide) tb_g%;have a2:(100*99:Int)*199<=s*(s-1)*(2*s-1):=pP a1 tb_g% (by decide) tb_g%;have a3:(4000:Int)<=s*(s-1) / 2:=by lia
 have a4:(4000:Int)*4000<=s*(s-1) / 2*(s*(s-1) / 2):=pP a3 a3 (by decide) tb_g%;intro z m;have m:z=s\/z=s*(s-1) / 2\/z=s*(s-1)*(2*s-1) / 6\/z=s*(s-1) / 2*(s*(s-1) / 2):=by
  have:z∈[s,s*(s-1) / 2,s*(s-1)*(2*s-1) / 6,s*(s-1) / 2*(s*(s-1) / 2)]:=m;simpa using this
 rcases m with rfl|rfl|rfl|rfl
 ·lia
 ·lia
 ·lia
 ·lia
noncomputable def z7(f:Int->Int)(q:Q4):Q4:=⟨f q.a,f q.b,f q.c,f q.d⟩
theorem abV(f:Int->Int)(q:Q4):L4 (z7 f q)=(L4 q).map f:=rfl
noncomputable def nOf(q:Q4)(i:Nat):Nat:=((L4 q).getD i 0).toNat
theorem amQ{q:Q4}(h:∀z∈L4 q,0<=z/\z<10 ^ 60):Nq q (nOf q):=by
 have m:∀i,0<=(L4 q).getD i 0/\(L4 q).getD i 0<10 ^ 60:=fun i=>by
  cases e:(L4 q)[i]? with
  |none=>rw[lZ,e];exact⟨iW _,by decide⟩
  |some z=>rw[lZ,e];exact h z (List.mem_of_getElem? e)
 exact⟨(Cv (m 0).1).symm,(Cv (m 1).1).symm,(Cv (m 2).1).symm,(Cv (m 3).1).symm,fun i=>by have:=m i;unfold nOf;lia⟩
structure Fk(sp:Int)(x:KS)(q:Q4)(n:Nat):Prop where
 hroom:x.room=2
 wu:x.reach=9
 rZ:x.span=sp
 q:x.ba.q=q
 nd:x.di.C.Nodup
 kh:Kh x n
theorem Fk.new{p:Nat}{q:Q4}(e:Eqp x (K1 p q)):Fk p x q 0:=by
 have k:=kh0 (room:=2) 9 p (by decide) (by decide) rfl (by decide);exact⟨e.room,e.reach,e.span,e.ba,by rw[e.di.C];exact wB,Kh.eq (y:=K1 p q) ⟨k.r2,k.r64,k.rr,k.cm,k.wn,k.up,k.dn,k.wl,k.dl,k.dc,k.few⟩ e⟩
theorem Fk.row{sp:Int}{q:Q4}(h:Fk sp x q n)(hn:n<200)(ok:r.ok)(s:SR r x x'):Fk sp x' (addQ q (pwQ (prQ sp r).1 (prQ sp r).2)) (n+1):=
 ⟨s.sb.room.trans h.hroom,s.sb.reach.trans h.wu,s.sb.span.trans h.rZ,by rw[s.q,h.q,h.rZ],s.nd h.nd,h.kh.row hn ok s⟩
theorem Far.mJ(f:Far A x.pts G G')(kx:Kp A G x)(hb:G b=some o)(no:∀C e fs,o≠.ins C e fs):G' b=some o:=f.pb _ _ hb fun m=>by
 obtain⟨_,_,_,e⟩:=kx.live (fX _ m);rw[hb]at e;exact no _ _ _ (cN e)
theorem Far.kp2(f:Far A x.pts G G')(ky:Kp A G y)(d:∀b∈y.all,b∉x.all):Kp A G' y:=
 (f.py y ky.pp fun b m m2=>d b (fX _ m) (fX _ m2)).kp (f.pb _ _ ky.o fun m=>d _ dO (fX _ m)) ky.nk
theorem SB.all(s:SB x x'):x'.all=x.all:=by rw[all_eq,all_eq,s.k,s.pts]
theorem NQ{k:Int}(h:k∈keys c):zY (emb c) (Sum.inl k:Key)=some (.int (low c k)):=by
 rw[Vn];have:=(Im c k).mpr h;obtain⟨v,e⟩:=YZ.mp this;unfold low;rw[e];rfl
structure Mk8(H G:Hp)(D:Addr)(c:Tab)(ks:List Int)(i:Nat)(ps:List Po):Prop where
 s:Same H G
 d:Pos G D ps
 e:po ps=(ks.take i).map fun k=>(k,low c k)
theorem Mk8.step{D:Addr}{k:Int}{ps:List Po}(h:Mk8 H G D c ks i ps)(hD:H D=none)(ht:G t=none)(hi:ks[i]? = some k):(upd G t (.tup [.int k,.int (low c k)])) D=some (.lst (ps.map fun p=>V.ref p.1))/\Mk8 H (upd (upd G t (.tup [.int k,.int (low c k)])) D (.lst ((ps.map fun p=>V.ref p.1)++[.ref t]))) D c ks (i+1) (ps++[(t,(k,low c k))]):=by
 have nt:t≠D:=aX (au h.d.l ht);refine⟨by rw[aB (aX nt)];exact h.d.l,fun b o e=>?_,⟨by rw[ak,cM];rfl,fun p m=>?_⟩,?_⟩
 ·rw[aB (au e hD),aB (au e (h.s.free ht))];exact h.s b o e
 ·rcases dY.mp m with m|m
  ·have e:=h.d.t p m;rw[aB (iY e h.d.l (by intro z;cases z)),aB (au e ht)];exact e
  ·rw[cZ.mp m,aB nt,ak]
 ·rw[qM,hi,cM,<-h.e];unfold po;rw[cM];rfl
structure Two(A:Ad)(p:Nat)(G:Hp)(xk yk lk d:Addr)(ks:List Int)(c:Tab)(i:Nat)(x y:KS):Prop where
 ex:x.k=xk
 ey:y.k=yk
 kx:Kp A G x
 ky:Kp A G y
 f:∃(qx qy:Q4)(nx ny:Nat),Fk p x qx nx/\Fk p y qy ny/\nx+ny<=i/\addQ qx qy=addQ (iy p) (cg ((ks.take i).map fun k=>(k,low c k)))
 l:G lk=some (.lst (ks.map V.int))
 d:G d=some (.dK (emb c))
 dj:∀b∈y.all,b∉x.all
section
variable{p:Nat}{xk yk lk:Addr}
theorem Two.swap(h:Two A p G xk yk lk d ks c i x y):Two A p G yk xk lk d ks c i y x:=by
 obtain⟨qx,qy,nx,ny,f1,f2,f3,f4⟩:=h.f;exact⟨h.ey,h.ex,h.ky,h.kx,⟨qy,qx,ny,nx,f2,f1,by lia,by rw[jh];exact f4⟩,h.l,h.d,fun b m m2=>h.dj b m2 m⟩
theorem Two.left{k:Int}(h:Two A p G xk yk lk d ks c i x y)(i9:i<100)(hi:ks[i]? = some k)(ok:r.ok)(e:prQ p r=(k,low c k))(s:SR r x x')(k1:Kp A G' x')(f:Far A x.pts G G'):Two A p G' xk yk lk d ks c (i+1) x' y:=by
 obtain⟨qx,qy,nx,ny,f1,f2,f3,f4⟩:=h.f;refine⟨s.sb.k.trans h.ex,h.ey,k1,f.kp2 h.ky h.dj,⟨_,qy,nx+1,ny,f1.row tb_g% ok s,f2,by lia,?_⟩,f.mJ h.kx h.l (fun _ _ _ z=>by cases z),f.mJ h.kx h.d (fun _ _ _ z=>by cases z),fun b m=>by rw[s.sb.all];exact h.dj b m⟩;rw[e,qM,hi,cM,f9,jh (pwQ _ _),<-f9,f4,f9];exact congrArg (addQ _) (uX _ _).symm
end
noncomputable def hf(z:Int):Int:=z / 2-7
noncomputable def apG(K:bB):Sp:=fun vs H Q _=>∃(a:Addr)(ns:List Int),vs=[.ref a]/\SqL K H a (ns.map V.int)/\∀H',Q (.bl true) H'
theorem ok'78(T:Tx K mg A):bZ P w K mg base CX0 13 A.acW A.aby ["_law_script"] (apG K):=by
 k_dat (T.F'78.ok,lR) "a"
 ·obtain⟨_,_,rfl,_⟩:=h;rfl
 ·obtain⟨a,ns,rfl,hS,q⟩:=h;obtain⟨cs,ecs,_,_⟩:=Dr ns none (some 1);obtain⟨p,ep⟩:∃p:Nat,(1000000000-cs.sum % 1000:Int)=p:=⟨(1000000000-cs.sum % 1000:Int).toNat,by lia⟩;have p1:999999001<=p:=by lia
  have p9:p<=1000000000:=by lia
  refine ⟨_,(ao (psS 1 lR.nd (aH gk aA (aH eU (aO (pJ rfl) (by rfl) T.PK Gb (aj (jz m8 (pv 0) iB (dW aA)) aq)) aA)))
   (ao (Gm (i:=2) lR.nd rfl (Or.inr rfl) (aD (amM T) tb_g% T.F'72 aL (aj (pv 0) (aj (pv 1) (aj aA aq)))))
   (ao (Gm (i:=3) lR.nd rfl (Or.inr rfl) (aD (amD T) tb_g% T.F'40 aL (aj (pv 1) aq)))
   (ao (Gm (i:=4) lR.nd rfl (Or.inr rfl) (lJ (cl:=[]) (N:=["_law_part"]) (caps:=[]) (tt:=_) (te:=_) rfl (by with_unfolding_all rfl) tb_g% rfl tb_g% trivial (iJ (by with_unfolding_all rfl)) tb_g% rfl rfl rfl (cG.at (k:=1) (show cG _ _ _ _ 1 [] from trivial)) (gj (pv 3)) (fun _ _ _ _=>iC) (fun _ _ _ _=>(aH gk (aH gZ (pv 0) aA) aA))))
   (ao (psS 5 lR.nd (aD (amP T) tb_g% T.F'77 aL (aj (pv 1) (aj (pv 4) aq))))
   (ao (psS 6 lR.nd (aD (amP T) tb_g% T.F'77 aL (aj (pv 1) (aj (lJ (cl:=[("_law_sums",s.heap.objs.size+1+1),("_law_half",s.heap.objs.size+1+2)]) (N:=["_law_k","_law_sums","_law_half"]) (caps:=[3,4]) (tt:=_) (te:=(tOp _ (tOp (Dd K) _ _) (tOp (Dd K) _ _))) rfl (by with_unfolding_all rfl) tb_g% rfl tb_g% ⟨rfl,⟨rfl,trivial⟩⟩ (iJ (by with_unfolding_all rfl)) tb_g% rfl rfl rfl (cG.at (k:=1) (show cG _ _ _ _ 1 [3,4] from ⟨⟨"_law_sums",_,rfl,rfl,.inl rfl,.inl rfl,rfl⟩,⟨⟨"_law_half",_,rfl,rfl,.inl rfl,.inl rfl,rfl⟩,trivial⟩⟩)) (mO rfl T.vV (aj aA aq)) (fun _ _ _ _=>iC) (fun _ _ _ _=>(aH gk (bC (ixG (by exact aY hr)) (pv 1) (pv 0) (fun _ _=>rfl)) (bC (ixG (by exact aY hr)) (pv 2) (pv 0) (fun _ _=>rfl))))) aq))))
   (ao (j9 jK rfl (gj (Mh T.lQ (pv 2) ⟨rfl,rfl⟩ rfl)) (pgN 7 lR.nd) (ao (psS 8 lR.nd (CT (aN iI (aH eU (pv 7) aA) aA (aM _)) (pv 5) (pv 6)))
   (aC (cU (aN oO (bC (ixG (aY hr)) (pv 2) (pv 7) (fun _ _=>rfl)) aA (aM _)) (aC (aZ (eV (pv 8) T.bW T.zx (amw T) tb_g% T.b'29 .nil aL (aj (pv 7) (aj (bC (ixG (aY hr)) (pv 2) (pv 7) (fun _ _=>rfl)) aq))))) (aC (aZ (eV (pv 8) T.bW T.wO (amx T) tb_g% T.b'30 .nil aL (aj (pv 7) (aj (Ho yG (bC (ixG (aY hr)) (pv 2) (pv 7) (fun _ _=>rfl))) aq)))))))))
   (aC (aW (aD (amN T) tb_g% T.F'76 aL (aj (Vb (aD (amC T) tb_g% T.F'39 tD (aj (pv 5) (aj (pv 6) aq))) T.bW T.zy (amE T) tb_g% T.b'47 .nil tD) (aj (lJ (cl:=[("_law_more",s.heap.objs.size+1)]) (N:=["_law_thing","_law_more"]) (caps:=[2]) (tt:=_) (te:=(ail (CW _ (CW (tOp (Dd K) _ _) ZL)))) rfl (by with_unfolding_all rfl) tb_g% rfl tb_g% ⟨rfl,trivial⟩ (iJ (by with_unfolding_all rfl)) tb_g% rfl rfl rfl (cG.at (k:=1) (show cG _ _ _ _ 1 [2] from ⟨⟨"_law_more",_,rfl,rfl,.inl rfl,.inl rfl,rfl⟩,trivial⟩)) (gj (Mh T.lQ (pv 2) ⟨rfl,rfl⟩ rfl)) (fun _ _ _ _=>iC) (fun _ _ _ _=>(jL (aj (pv 0) (aj (bC (ixG (by exact aY hr)) (pv 1) (pv 0) (fun _ _=>rfl)) aq))))) aq)))))))))))),?_⟩
  refine sq fun R hR=>⟨_,rfl,_,rfl,a,_,rfl,hS,fun z hz=>?_⟩;rw[ecs];refine⟨z,_,rfl,.inl (.inl ak),_,_,rfl,rfl,(by show(0:Int)<1000;decide),_,_,rfl,rfl,?_⟩
  dsimp -proj only
  rw[ep];have s1:=Same.new (o:=.lst (cs.map V.int)) hz;generalize upd H z (.lst (cs.map V.int))=H1 at s1 ⊢;refine hR _ _ (sq fun R hR=>?_);refine⟨_,rfl,_,rfl,a,ns,p,2,rfl,s1.seq hS,by lia,by lia,by decide,fun d c H2 mo lc gd s2=>?_⟩;refine hR _ _ (sq fun R hR=>⟨_,rfl,p,rfl,by lia,by lia,fun l hl=>?_⟩);have s3:=Same.new (o:=.lst ((aaL p).map V.int)) hl;have l3:(upd H2 l (.lst ((aaL p).map V.int))) l=some (.lst ((L4 (iy p)).map V.int)):=ak;have d3:=s3 _ _ gd;generalize upd H2 l (.lst ((aaL p).map V.int))=H3 at s3 l3 d3 ⊢;have lo:=apF (s:=p) tb_g%;have hi:=apC (s:=p) tb_g% tb_g%;have hi:∀z∈L4 (iy p),z<10 ^ 60:=fun z m=>by
   have h1:=hi z m;have h2:((2 ^ 130:Nat):Int)<10 ^ 60:=by decide
   lia
  refine hR _ _ (sq fun R hR=>⟨_,rfl,l,rfl,⟨_,.inl (.inl l3)⟩,fun D hD=>?_⟩);refine jd (K:=K) (a:=l) (xs:=(L4 (iy p)).map V.int) (fun i ys G=>ys=((L4 (z7 hf (iy p))).take i).map V.int/\G D=some (.lst ys)/\Same H3 G) ⟨rfl,ak,Same.new hD⟩ ?_ ?_ ?_ ?_
  ·rintro i ys G hi ⟨rfl,gD,sG⟩;exact⟨.inl (.inl (sG _ _ l3)),gD,bI (by rw[aV,iw];show min i 4<=1000;lia)⟩
  ·rintro i ys G x hx ⟨rfl,gD,sG⟩;have key:∀z,x=.int z->((L4 (z7 hf (iy p))).take (i+1)).map V.int=((L4 (z7 hf (iy p))).take i).map V.int++[.int (hf z)]:=fun z hz=>by
    subst hz;rcases fM hx with⟨rfl,e⟩|⟨rfl,e⟩|⟨rfl,e⟩|⟨rfl,e⟩ <;> cases e <;> rfl
   obtain⟨z,_,rfl⟩:=int_at hx;refine⟨_,rfl,_,_,rfl,rfl,⟨by decide,by decide⟩,_,_,rfl,rfl,gD,(key z rfl).symm,ak,fun b o e=>?_⟩;rw[aB (au e hD)];exact sG b o e
  rotate_left
  ·exact jG (ak2 (bL 0) (vM _)) (vM _)
  rintro ys G ⟨rfl,gD,sG⟩;have gD:G D=some (.lst ((L4 (z7 hf (iy p))).map V.int)):=gD;have nqa:Nq (z7 hf (iy p)) (nOf (z7 hf (iy p))):=amQ fun z m=>by
   rw[abV]at m;obtain⟨y,my,rfl⟩:=jq.mp m;have a1:=lo y my;have a2:=hi y my;unfold hf;lia
  have nqb:Nq (z7 (fun z=>z-hf z) (iy p)) (nOf (z7 (fun z=>z-hf z) (iy p))):=amQ fun z m=>by
   rw[abV]at m;obtain⟨y,my,rfl⟩:=jq.mp m;have a1:=lo y my;have a2:=hi y my;unfold hf;lia
  have eab:addQ (z7 hf (iy p)) (z7 (fun z=>z-hf z) (iy p))=iy p:=Hh (by show hf _+(_-hf _)=_;lia) (by show hf _+(_-hf _)=_;lia) (by show hf _+(_-hf _)=_;lia) (by show hf _+(_-hf _)=_;lia);refine hR _ _ (sq fun R hR=>⟨_,rfl,_,rfl,D,p,_,_,rfl,gD,by lia,p9,nqa,fun x H4 kx ex fx s4=>?_⟩);have l4:=s4 _ _ (sG _ _ l3);have D4:=s4 _ _ gD;refine hR _ _ (sq fun R hR=>⟨_,rfl,4,rfl,by decide,by decide,fun D2 hD2=>?_⟩);refine Z1 (fun i ys J=>ys=((L4 (z7 (fun z=>z-hf z) (iy p))).take i).map V.int/\J D2=some (.lst ys)/\Same H4 J) ⟨rfl,ak,Same.new hD2⟩ ?_ ?_ ?_ ?_
  ·rintro i ys J hi ⟨rfl,gJ,sJ⟩;exact⟨gJ,bI (by rw[aV,iw];show min i 4<=1000;lia)⟩
  ·rintro i ys J hi ⟨rfl,gJ,sJ⟩;obtain⟨z,e1,e2,e3⟩:∃z,atI ((L4 (iy p)).map V.int) (0+(i:Int))=some (.int z)/\atI ((L4 (z7 hf (iy p))).map V.int) (0+(i:Int))=some (.int (hf z))/\((L4 (z7 (fun z=>z-hf z) (iy p))).take (i+1)).map V.int=((L4 (z7 (fun z=>z-hf z) (iy p))).take i).map V.int++[.int (z-hf z)]:=by
    match i,hi with
    |0,_=>exact⟨_,rfl,rfl,rfl⟩
    |1,_=>exact⟨_,rfl,rfl,rfl⟩
    |2,_=>exact⟨_,rfl,rfl,rfl⟩
    |3,_=>exact⟨_,rfl,rfl,rfl⟩
   refine⟨_,rfl,_,rfl,cD (.inl (.inl (sJ _ _ l4))) e1 ⟨_,rfl,_,rfl,cD (.inl (.inl (sJ _ _ D4))) e2 ⟨_,_,rfl,rfl,gJ,e3.symm,ak,fun b o e=>?_⟩⟩⟩;rw[aB (au e hD2)];exact sJ b o e
  rotate_left
  ·exact jG (pq (bL 1) (bL 0)) (pq (bL 2) (bL 0))
  rintro ys J ⟨rfl,gJ,sJ⟩;have gJ:J D2=some (.lst ((L4 (z7 (fun z=>z-hf z) (iy p))).map V.int)):=gJ;refine⟨D2,p,_,_,rfl,gJ,by lia,p9,nqb,fun y H5 ky ey fy s5=>?_⟩;have s45:=sJ.trans s5;have d5:=(sG.trans (s4.trans s45)) _ _ d3;have kx5:=kx.same s45;have dj:∀b∈y.all,b∉x.all:=fun b m m2=>by
   obtain⟨_,_,_,e⟩:=(kx.same sJ).live m2;rw[fy b m]at e;cases e
  refine hR _ _ (sq fun R hR=>⟨_,rfl,d,emb c,keys c,rfl,.inl d5,Li c,by unfold keys;rw[aV];lia,fun lk ks hlk pmk lek=>?_⟩);have lks:ks.length<=2:=by rw[pmk.length_eq];unfold keys;rw[aV];exact lc
  have sk:=Same.new (o:=.lst (ks.map V.int)) hlk;have T0:Two A p (upd H5 lk (.lst (ks.map V.int))) x.k y.k lk d ks c 0 x y:=⟨rfl,rfl,kx5.same sk,ky.same sk,⟨_,_,0,0,Fk.new ex,Fk.new ey,bG _,by rw[eab];exact(dU _).symm⟩,ak,sk _ _ d5,dj⟩;generalize upd H5 lk (.lst (ks.map V.int))=H6 at T0 ⊢;refine⟨lk,rfl,⟨_,.inl (.inl T0.l)⟩,ur (K:=K) (a:=lk) (xs:=ks.map V.int) (fun i σ J=>∃(x1 y1:KS)(y7 y8:Option V),σ=[some (.ref a),some (.int p),some (.ref d),some (.ref l),some (.ref D),some (.ref x.k),some (.ref y.k),y7,y8]/\Two A p J x.k y.k lk d ks c i x1 y1) ⟨x,y,none,none,rfl,T0⟩ (fun i σ J _ ⟨_,_,_,_,_,h⟩=>.inl (.inl h.l)) ?_ ?_⟩
  ·rintro i v σ J hi ⟨x1,y1,y7,y8,rfl,W⟩;obtain⟨k,hk,rfl⟩:=int_at hi;have mk:k∈keys c:=pmk.mem_iff.mp (List.mem_of_getElem? hk);have i9:i<100:=by have:=(gn.mp hk).1;lia
   have lkv:=NQ mk;obtain⟨pc,mpc,epc⟩:=jq.mp mk;have okc:=mo.ok pc mpc;have elow:low c k=pc.2:=by rw[<-epc];exact La mo.nd mpc
   have k0:0<=k/\k<p:=by rw[<-epc];exact⟨okc.1,okc.2.1⟩
   have v0:low c k≠0/\(low c k).natAbs<=999999999999:=by rw[elow];exact okc.2.2
   have okP:0<low c k->(⟨0,k,low c k⟩:R3).ok/\prQ p ⟨0,k,low c k⟩=(k,low c k):=fun h=>⟨⟨iW _,by show(0:Int)<=2;decide,k0.1,by show k<1152921504606846976;lia,by show 1<=low c k;lia,by show low c k<=1000000000000;lia⟩,by unfold prQ;dsimp only;rw[if_pos k0.2,if_pos rfl]⟩;have okT:¬ 0<low c k->(⟨1,k,-low c k⟩:R3).ok/\prQ p ⟨1,k,-low c k⟩=(k,low c k):=fun h=>⟨⟨by show(0:Int)<=1;decide,by show(1:Int)<=2;decide,k0.1,by show k<1152921504606846976;lia,by show 1 <= -low c k;lia,by show -low c k<=1000000000000;lia⟩,by unfold prQ;dsimp only;rw[if_pos k0.2,if_neg (by decide),if_pos rfl,agA]⟩;refine⟨_,rfl,_,_,rfl,rfl,(by show(0:Int)<2;decide),rfl,_,rfl,fO (fun _=>⟨_,rfl,?_⟩) (fun _=>⟨_,rfl,?_⟩)⟩
   ·skip
    have kX:=W.kx;have oX:=kX.o;rw[W.ex]at oX;obtain⟨qx,qy,nx,ny,f1,_,f3',_⟩:=W.f;refine⟨_,rfl,_,rfl,Hu (.inl W.d) lkv ⟨_,_,rfl,rfl,_,rfl,fO (fun h=>?_) (fun h=>?_)⟩⟩
    ·have h:0<low c k:=of_decide_eq_true h;refine⟨_,rfl,_,_,_,rfl,oX,kfN tb_g%,_,rfl,_,rfl,_,rfl,Hu (.inl W.d) lkv ⟨x1,nx,k,low c k,by rw[W.ex];rfl,kX,f1.kh,by lia,k0.1,by lia,(okP h).1.w1,(okP h).1.w2,fun x3 G3 k3 s3 f3 _=>?_⟩⟩;have OKK:=okP h;have SRR:SR ⟨0,k,low c k⟩ x1 x3:=by unfold SR;rw[if_pos rfl];exact s3
     exact⟨_,_,_,_,rfl,(W.left i9 hk OKK.1 OKK.2 SRR k3 f3)⟩
    ·have h:¬ 0<low c k:=fun z=>h (decide_eq_true z);refine⟨_,rfl,_,_,_,rfl,oX,kfN tb_g%,_,rfl,_,rfl,_,rfl,Hu (.inl W.d) lkv ⟨_,rfl,x1,nx,k,-low c k,by rw[W.ex];rfl,kX,f1.kh,by lia,k0.1,by lia,(okT h).1.w1,(okT h).1.w2,fun x3 G3 k3 s3 f3 _=>?_⟩⟩;have OKK:=okT h;have SRR:SR ⟨1,k,-low c k⟩ x1 x3:=by unfold SR;rw[if_neg (show ¬ (1:Int)=0 by decide),if_pos rfl];exact s3
     exact⟨_,_,_,_,rfl,(W.left i9 hk OKK.1 OKK.2 SRR k3 f3)⟩
   ·skip
    have kX:=W.swap.kx;have oX:=kX.o;rw[W.swap.ex]at oX;obtain⟨qx,qy,nx,ny,f1,_,f3',_⟩:=W.swap.f;refine⟨_,rfl,_,rfl,Hu (.inl W.swap.d) lkv ⟨_,_,rfl,rfl,_,rfl,fO (fun h=>?_) (fun h=>?_)⟩⟩
    ·have h:0<low c k:=of_decide_eq_true h;refine⟨_,rfl,_,_,_,rfl,oX,kfN tb_g%,_,rfl,_,rfl,_,rfl,Hu (.inl W.swap.d) lkv ⟨y1,nx,k,low c k,by rw[W.swap.ex];rfl,kX,f1.kh,by lia,k0.1,by lia,(okP h).1.w1,(okP h).1.w2,fun x3 G3 k3 s3 f3 _=>?_⟩⟩;have OKK:=okP h;have SRR:SR ⟨0,k,low c k⟩ y1 x3:=by unfold SR;rw[if_pos rfl];exact s3
     exact⟨_,_,_,_,rfl,(W.swap.left i9 hk OKK.1 OKK.2 SRR k3 f3).swap⟩
    ·have h:¬ 0<low c k:=fun z=>h (decide_eq_true z);refine⟨_,rfl,_,_,_,rfl,oX,kfN tb_g%,_,rfl,_,rfl,_,rfl,Hu (.inl W.swap.d) lkv ⟨_,rfl,y1,nx,k,-low c k,by rw[W.swap.ex];rfl,kX,f1.kh,by lia,k0.1,by lia,(okT h).1.w1,(okT h).1.w2,fun x3 G3 k3 s3 f3 _=>?_⟩⟩;have OKK:=okT h;have SRR:SR ⟨1,k,-low c k⟩ y1 x3:=by unfold SR;rw[if_neg (show ¬ (1:Int)=0 by decide),if_pos rfl];exact s3
     exact⟨_,_,_,_,rfl,(W.swap.left i9 hk OKK.1 OKK.2 SRR k3 f3).swap⟩
  ·rintro σ J ⟨x1,y1,y7,y8,rfl,W⟩;refine hR _ _ ?_;obtain⟨qx,qy,nx,ny,f1,f2,f3,f4⟩:=W.f;rw[aV]at f3;rw[aV,m9]at f4;have du:=mo.du pmk lek;have ni:=du.nice mo (by rw[aV];exact lks);have al:Alk x1 y1 nx ny:=⟨f2.hroom.trans f1.hroom.symm,f2.wu.trans f1.wu.symm,f2.rZ.trans f1.rZ.symm,f1.kh,f2.kh,by lia,f1.nd,f2.nd⟩;refine⟨_,rfl,_,rfl,.inl ⟨x1,y1,nx,ny,by rw[W.ex,W.ey];rfl,W.kx,W.ky,al,fun z3 J2 kz kp _ _ s7=>?_⟩⟩;have er:subQ z3.ba.q (iy z3.span)=cg (ks.map fun k=>(k,low c k)):=by
    rw[kp.ba,f1.q,f2.q,f4,kp.span,f1.rZ,abO]
   have sps:z3.span=p:=kp.span.trans f1.rZ;refine⟨z3.k,z3.dk,_,rfl,kz.o,kfN tb_g%,z3,rfl,kz,z3.ba.p,z3.ba.dx,z3.ba.l,z3.span,z3.ba.q,rfl,kz.ba,by lia,by lia,by rw[er,pK du.pm];exact mo.sm tb_g% tb_g%,fun o ps J3 nc _ e u hp s8 ho=>?_,fun h _ _=>absurd er.symm (h _ ni.1 (by rw[sps];exact ni.2))⟩;have d8:=(s7.trans s8) _ _ W.d;refine⟨_,rfl,d,emb c,keys c,rfl,.inl d8,Li c,by unfold keys;rw[aV];lia,fun lk2 ks2 hlk2 pmk2 lek2=>?_⟩;have du2:=mo.du pmk2 lek2;have lks2:ks2.length<=2:=by rw[pmk2.length_eq];unfold keys;rw[aV];exact lc
   have ni2:=du2.nice mo (by rw[aV];exact lks2);have s9:=Same.new (o:=.lst (ks2.map V.int)) hlk2;have l9:(upd J3 lk2 (.lst (ks2.map V.int))) lk2=_:=ak;have d9:=s9 _ _ d8;have hp:=hp.same s9;generalize upd J3 lk2 (.lst (ks2.map V.int))=J4 at s9 l9 d9 hp ⊢;refine⟨lk2,rfl,⟨_,.inl (.inl l9)⟩,fun E2 hE=>?_⟩;refine jd (K:=K) (a:=lk2) (xs:=ks2.map V.int) (fun i ys G=>∃qs:List Po,ys=(qs.map fun p=>V.ref p.1)/\Mk8 J4 G E2 c ks2 i qs) ⟨[],rfl,Same.new hE,⟨ak,fun _ m=>(nomatch m)⟩,rfl⟩ ?_ ?_ ?_ ?_
   ·rintro i ys G hi ⟨qs,rfl,M⟩;have:=congrArg mC M.e;unfold po at this;rw[aV,aV,iw]at this;exact⟨.inl (.inl (M.s _ _ l9)),M.d.l,bI (by rw[aV];lia)⟩
   ·rintro i ys G v hv ⟨qs,rfl,M⟩;obtain⟨k,hk,rfl⟩:=int_at hv;refine⟨_,rfl,_,rfl,_,rfl,Hu (.inl (M.s _ _ d9)) (NQ (pmk2.mem_iff.mp (List.mem_of_getElem? hk))) ⟨by show 2<=sizeLine;decide,fun t ht=>?_⟩⟩;have M2:=M.step hE ht hk;exact⟨M2.1,_,by rw[cM];rfl,M2.2⟩
   ·rintro ys G ⟨qs,rfl,M⟩;have me:=M.e;rw[aV,m9]at me;refine⟨o,E2,ps,qs,rfl,hp.same M.s,M.d,?_,q _⟩;rw[me];exact(u _ ni2.1 (by rw[er,pK du.pm,pK du2.pm])).symm
   ·exact LR (jf (bL 0) (jf (pq (bL 1) (bL 0)) uG))
open MK
theorem apH{β:Type}(C:α->β->Prop){G:α->β->Prop}(f:(∀x y,C x y->G x y)->R)(k:∀x y,C x y->G x y):R:=f k
theorem ok'81(T:Tx K mg A):bZ P w K mg base CX0 14 A.ahe A.ame ["_law_script"] (ajO K):=by
 k_dat (T.F'81.ok,G9) "a"
 ·obtain⟨a,ns,rfl,_⟩:=h;rfl
 ·obtain⟨a,ns,rfl,hS,hlen,q⟩:=h;obtain⟨cs,ecs,_,_⟩:=Dr ns none (some 1);obtain⟨p,ep⟩:∃p:Nat,(2+cs.sum % 59:Int)=p:=⟨(2+cs.sum % 59:Int).toNat,by lia⟩;have p1:2<=p:=by lia
  have p9:p<=60:=by lia
  refine ⟨_,(ao (psS 1 G9.nd (aH bM aA (aH eU (aO (pJ rfl) (by rfl) T.PK Gb (aj (jz m8 (pv 0) iB (dW aA)) aq)) aA)))
   (ao (Gm (i:=2) G9.nd rfl (Or.inr rfl) (aD (amM T) tb_g% T.F'72 aL (aj (pv 0) (aj (pv 1) (aj aA aq)))))
   (ao (psS 3 G9.nd (aD (ok'73 T) tb_g% T.F'73 aL (aj (pv 0) (aj (pv 1) (aj (pv 2) aq)))))
   (ao (psS 4 G9.nd (aD (ok'75 T) tb_g% T.F'75 aL (aj (aD (ok'74 T) tb_g% T.F'74 aL (aj (pv 0) (aj (pv 3) (aj (pv 1) aq)))) aq)))
   (ao (mU (i:=5) (cl:=[("_law_more",s.heap.objs.size+1)]) (N:=["_law_thing","_law_more"]) (caps:=[2]) (tt:=_) (te:=(ail (CW _ (CW (tOp (Dd K) _ _) ZL)))) G9.nd rfl (Or.inl rfl) rfl (by with_unfolding_all rfl) tb_g% rfl tb_g% ⟨rfl,trivial⟩ (iJ (by with_unfolding_all rfl)) tb_g% rfl rfl rfl (cG.at (k:=1) (show cG _ _ _ _ 1 [2] from ⟨⟨"_law_more",_,rfl,rfl,.inl rfl,.inl rfl,rfl⟩,trivial⟩)) (gj (Mh T.lQ (pv 2) ⟨rfl,rfl⟩ rfl)) (fun _ _ _ _=>iC) (fun _ _ _ _=>(jL (aj (pv 0) (aj (bC (ixG (by exact aY hr)) (pv 1) (pv 0) (fun _ _=>rfl)) aq)))))
   (ao (cU (PW.pt (pw_and (aN pZ (aO bA (by rfl) T.eF dZ (aj (pv 5) aq)) aA (aM _)) (pw_and1 (PW.pt (pw_or (j8 (bC (ixG (aY hr)) (pv 4) aA (fun _ _=>rfl))) (pw_or1 (lE (j8 (aD (amN T) tb_g% T.F'76 aL (aj (bC (ixG (aY hr)) (pv 4) aA (fun _ _=>rfl)) (aj (pv 5) aq))))))))))) (aC (aW kZ)) bJ)
   (ao (cU (PW.pt (pw_and (aN oO (aO bA (by rfl) T.eF dZ (aj (pv 5) aq)) aA (aM _)) (pw_and (lE (j8 (bC (ixG (aY hr)) (pv 4) aA (fun _ _=>rfl)))) (pw_and1 (aN (aoR hr.units) (bC (ixG (aY hr)) (pv 4) aA (fun _ _=>rfl)) (jL (aj (dG aq) (aj (pv 5) aq))) (by with_unfolding_all rfl)))))) (aC (aW kZ)) bJ)
   (aC (aW (aD (ok'78 T) tb_g% T.F'78 aL (aj (pv 0) aq))))))))))),?_⟩
  refine⟨_,rfl,_,rfl,a,_,rfl,hS,fun z hz=>?_⟩;rw[ecs];refine⟨z,_,rfl,.inl (.inl ak),_,_,rfl,rfl,(by show(0:Int)<59;decide),_,_,rfl,rfl,?_⟩
  dsimp -proj only
  rw[ep];have s1:=Same.new (o:=.lst (cs.map V.int)) hz;generalize upd H z (.lst (cs.map V.int))=H1 at s1 ⊢;refine⟨_,rfl,_,rfl,a,ns,p,3,rfl,s1.seq hS,by lia,by lia,by decide,fun d c H2 mo lc gd s2=>?_⟩;have s12:=s1.trans s2;refine⟨_,rfl,_,rfl,_,rfl,a,d,ns,p,c,rfl,s12.seq hS,hlen,by lia,by lia,gd,mo,fun R ps H3 W lp s3=>?_⟩;have s13:=s12.trans s3;refine⟨_,rfl,_,rfl,_,rfl,a,R,ns,ps,p,_,rfl,s13.seq hS,hlen,W,lp,fun x H4 kx es eq s4=>?_⟩;have s14:=s13.trans s4;have d4:=(s3.trans s4) _ _ gd;have er:x.rest=cg c:=by
   show subQ x.ba.q (iy x.span)=_;rw[eq,es,abO]
  apply apH (fun(t:Addr) (H5:Hp)=>Same H4 H5/\((∃(y:Addr)(ps:List Po),Hg (po ps)/\cg (po ps)=cg c/\(∀M,Hg M->cg M=cg c->M=po ps)/\Pos H5 y ps/\H5 t=some (.tup [.ref y,.bl false]))\/(∀L,Hg L->In p L->cg L≠cg c)/\H5 t=some (.tup [.non,.bl true])))
  ·intro key;refine⟨x,rfl,kx,by lia,by lia,by rw[er];exact mo.sm tb_g% lc,fun t y ps H5 nc e u hp ht s5=>?_,fun h t H5 ht s5=>?_⟩
   ·rw[er]at e u;exact key t H5 ⟨s5,.inl ⟨y,ps,nc,e,u,hp,ht⟩⟩
   ·rw[er,es]at h;exact key t H5 ⟨s5,.inr ⟨h,ht⟩⟩
  intro t H5 ⟨s5,hC⟩;have d5:=s5 _ _ d4;refine⟨_,rfl,d,emb c,keys c,rfl,.inl d5,Li c,by unfold keys;rw[aV];lia,fun lk ks hlk pmk lek=>?_⟩;have du:=mo.du pmk lek;have ed:cg (ks.map fun k=>(k,low c k))=cg c:=pK du.pm;have lks:ks.length<=3:=by rw[pmk.length_eq];unfold keys;rw[aV];exact lc
  have s6:=Same.new (o:=.lst (ks.map V.int)) hlk;have l6:(upd H5 lk (.lst (ks.map V.int))) lk=_:=ak;have d6:=s6 _ _ d5;have s16:=s14.trans (s5.trans s6);generalize upd H5 lk (.lst (ks.map V.int))=H6 at s6 l6 d6 s16 ⊢;refine⟨lk,rfl,⟨_,.inl (.inl l6)⟩,fun D hD=>?_⟩;refine jd (K:=K) (a:=lk) (xs:=ks.map V.int) (fun i ys G=>∃qs:List Po,ys=(qs.map fun p=>V.ref p.1)/\Mk8 H6 G D c ks i qs) ⟨[],rfl,Same.new hD,⟨ak,fun _ m=>(nomatch m)⟩,rfl⟩ ?_ ?_ ?_ ?_
  ·rintro i ys G hi ⟨qs,rfl,M⟩;have:=congrArg mC M.e;unfold po at this;rw[aV,aV,iw]at this;exact⟨.inl (.inl (M.s _ _ l6)),M.d.l,bI (by rw[aV];lia)⟩
  ·rintro i ys G v hv ⟨qs,rfl,M⟩;obtain⟨k,hk,rfl⟩:=int_at hv;refine⟨_,rfl,_,rfl,_,rfl,Hu (.inl (M.s _ _ d6)) (NQ (pmk.mem_iff.mp (List.mem_of_getElem? hk))) ⟨by show 2<=sizeLine;decide,fun t ht=>?_⟩⟩;have M2:=M.step hD ht hk;exact⟨M2.1,_,by rw[cM];rfl,M2.2⟩
  ·rintro ys G ⟨qs,rfl,M⟩;have me:=M.e;rw[aV,m9]at me;have ml:qs.length=ks.length:=by
    have:=congrArg mC me;unfold po at this
    rwa [aV,aV]at this
   have sG:=s16.trans M.s;have s7:=s6.trans M.s;have ll:((qs.map fun p=>V.ref p.1).length:Int)=(ks.length:Int):=by rw[aV,ml]
   have lD:SqL K G D (qs.map fun p=>V.ref p.1):=.inl (.inl M.d.l);refine⟨_,rfl,cX lD ⟨_,_,rfl,rfl,_,rfl,fO (fun h=>?_) (fun h=>?_)⟩⟩
   ·have h:((qs.map fun p=>V.ref p.1).length:Int)<3:=of_decide_eq_true h;have ni:=du.nice mo (by rw[aV];lia);rcases hC with⟨y,ps,nc,e,u,hp,ht⟩|⟨hn,_⟩;rotate_left
    ·exact absurd ed (hn _ ni.1 ni.2)
    have tt:SqT K G t [.ref y,.bl false]:=.inl (.inl (s7 _ _ ht));refine⟨_,rfl,jA tt (v:=.bl false) rfl ⟨_,rfl,uz ?_⟩⟩;refine⟨_,rfl,jA tt (v:=.ref y) rfl ⟨_,rfl,y,D,ps,qs,rfl,hp.same s7,M.d,?_,?_⟩⟩
    ·rw[me];exact(u _ ni.1 ed).symm
    refine⟨_,rfl,uz ?_⟩;refine⟨_,rfl,cX lD ⟨_,_,rfl,rfl,_,rfl,fO (fun h2=>?_) (fun h2=>?_)⟩⟩
    ·exact absurd (of_decide_eq_true h2) (by show ¬ ((qs.map fun p=>V.ref p.1).length:Int)>2;lia)
    exact⟨_,rfl,a,ns,rfl,sG.seq hS,q⟩
   ·have h:¬ ((qs.map fun p=>V.ref p.1).length:Int)<3:=fun z=>h (decide_eq_true z);have l3:ks.length=3:=by lia
    refine⟨_,rfl,cX lD ⟨_,_,rfl,rfl,_,rfl,fO (fun h2=>?_) (fun h2=>?_)⟩⟩;rotate_left
    ·exact⟨_,rfl,a,ns,rfl,sG.seq hS,q⟩
    rcases hC with⟨y,ps,nc,e,u,hp,ht⟩|⟨hn,ht⟩;rotate_left
    ·have tt:SqT K G t [.non,.bl true]:=.inl (.inl (s7 _ _ ht));exact⟨_,rfl,jA tt (v:=.bl true) rfl ⟨_,rfl,uz ⟨_,rfl,a,ns,rfl,sG.seq hS,q⟩⟩⟩
    have tt:SqT K G t [.ref y,.bl false]:=.inl (.inl (s7 _ _ ht));have hp7:=hp.same s7;refine⟨_,rfl,jA tt (v:=.bl false) rfl ⟨_,rfl,nO ?_⟩⟩;refine⟨_,rfl,jA tt (v:=.ref y) rfl ⟨by show 0<=sizeLine;decide,fun N hN=>⟨_,rfl,by show 2<=sizeLine;decide,fun v hv=>?_⟩⟩⟩;have sN:=Same.new (o:=.lst []) hN;have sV:=Same.new (o:=.tup [.ref N,.ref D]) hv;have lps:ps.length<=2:=by have:=nc.two;unfold po at this;rwa [aV]at this
    refine⟨y,v,N,D,rfl,rfl,ak,⟨?_,[],ps.map (fun p=>V.ref p.1),.inl (.inl (sV _ _ ak)),.inl (.inl (sV _ _ (sN _ _ hp7.l))),?_⟩,⟨?_,qs.map (fun p=>V.ref p.1),ps.map (fun p=>V.ref p.1),.inl (.inl (sV _ _ (sN _ _ M.d.l))),.inl (.inl (sV _ _ (sN _ _ hp7.l))),?_⟩,_,rfl,uz ?_⟩
    ·exact aX (au hp7.l hN)
    ·rw[aV];intro z;have:ps=[]:=z8.mp z.symm;rw[this]at e;exact du.three mo (by rw[aV];exact l3) (by rw[ed,<-e];rfl)
    ·exact aX (au (s6 _ _ hp.l) hD)
    ·rw[aV,aV];lia
    exact⟨_,rfl,a,ns,rfl,(sG.trans (sN.trans sV)).seq hS,q⟩
  ·exact LR (jf (bL 0) (jf (pq (bL 1) (bL 0)) uG))
theorem qL{x q:Str}(F:Fun K x q st f fd)(h:∀(kV dc pm:Value)(an:Option Addr)(cd ct u0:Value),Fz (oh x q (m7 st) (jU st) (aF st) .none kV dc pm an cd ct) ⟨[u0],[]⟩=pure [(p0,u0)]):Binds K fd [p0] []:=
 F.binds fun _ _ _ _ _ _ us hl=>match us,hl with | [u0],_=>h _ _ _ _ _ _ u0
theorem jm{x q:Str}{p1:Str}(F:Fun K x q st f fd)(h:∀(kV dc pm:Value)(an:Option Addr)(cd ct u0 u1:Value),Fz (oh x q (m7 st) (jU st) (aF st) .none kV dc pm an cd ct) ⟨[u0,u1],[]⟩=pure [(p0,u0),(p1,u1)]):Binds K fd [p0,p1] []:=
 F.binds fun _ _ _ _ _ _ us hl=>match us,hl with | [u0,u1],_=>h _ _ _ _ _ _ u0 u1
theorem tZ{x q:Str}{p1 p2:Str}(F:Fun K x q st f fd)(h:∀(kV dc pm:Value)(an:Option Addr)(cd ct u0 u1 u2:Value),Fz (oh x q (m7 st) (jU st) (aF st) .none kV dc pm an cd ct) ⟨[u0,u1,u2],[]⟩=pure [(p0,u0),(p1,u1),(p2,u2)]):Binds K fd [p0,p1,p2] []:=
 F.binds fun _ _ _ _ _ _ us hl=>match us,hl with | [u0,u1,u2],_=>h _ _ _ _ _ _ u0 u1 u2
theorem bOf4{x q:Str}{p1 p2 p3:Str}(F:Fun K x q st f fd)(h:∀(kV dc pm:Value)(an:Option Addr)(cd ct u0 u1 u2 u3:Value),Fz (oh x q (m7 st) (jU st) (aF st) .none kV dc pm an cd ct) ⟨[u0,u1,u2,u3],[]⟩=pure [(p0,u0),(p1,u1),(p2,u2),(p3,u3)]):Binds K fd [p0,p1,p2,p3] []:=
 F.binds fun _ _ _ _ _ _ us hl=>match us,hl with | [u0,u1,u2,u3],_=>h _ _ _ _ _ _ u0 u1 u2 u3
theorem LK.fn{n q:Str}{s:Stmt}(h:LK K n q s f):∃fd,Fun K n q s f fd:=by
 obtain⟨oc,od,an,sl,kV,dc,pm,cd,ct,l,c,k⟩:=h;exact⟨_,aoz l c k⟩
noncomputable def fdOf{K:bB}{n q:Str}{s:Stmt}{f:Addr}(h:LK K n q s f):FuncData:=agS h.fn
theorem dB{n q:Str}{s:Stmt}(h:LK K n q s f):Fun K n q s f (fdOf h):=agR h.fn
theorem CK.cl{C:Addr}(h:CK K C):Cls K C:=⟨h.1,h.2.1,h.2.2.1,h.2.2.2.1⟩
theorem CK.mk{C:Addr}{q:Str}{s:Stmt}(h:CK K C)(m:MeK K C "__init__" q s f):Mk K C f:=⟨h.2.2.2.2.1,m.1,m.2.1,h.2.2.2.2.2⟩
theorem MeK.mt{C:Addr}{n q:Str}{s:Stmt}(m:MeK K C n q s f)(F:Fun K n q s f fd):Meth K C n f:=⟨m.1,m.2.1,F.kp⟩
theorem gOf{h:Heap}{mg:Str->Option Value}{x:Str}{ps:List Str}(X:K.In h)(G:h.Ns dH mg)(a:GK K x st f)(b:Fun K x x st f (fdOf a.2)->Binds K (fdOf a.2) ps []):Fg K mg x st f (fdOf a.2) ps:=⟨dB a.2,b (dB a.2),jN X G a.1⟩
noncomputable def RR(w:World)(K:bB)(mg:Str->Option Value)(fa:Addr):Prop:=∃fd:FuncData,(∀(s:Shared)(v:Value),FN s fd ⟨[v],[]⟩ [("_law_script",v)])/\∀base:Heap,K.In base->base.Ns dH mg->bZ Hl.prog w K mg base CX0 14 fa fd ["_law_script"] (ajO K)
theorem all_mk:ahd RR:=by
 intro w K h mg fa cV gY gR gB sY iH Gj zX f'0 f'1 f'2 f'3 f'4 f'5 f'6 f'7 f'8 f'9 Ul Ze Zf Zg ab0 ab1 Um ab2 Zh Zi Uo ab3 ab4 Zj Zk ab5 Uq Zm Zn Zo Zq Ur ab6 ab7 ab8 ab9 acd ace acf acg ach aci acj acn aco acp Zr Zt acq acr acs acu acv acw acy acz acA acB acC acD acE acF acG acH acI acJ acK acL acM acN acO acP acQ acR acS acT acU acV acW acX acY ahe X G hfa aaT yu Cz aaU uh zL aaV nF qW aaW nH qX aaX pQ vD aaY nJ qY aaZ aa0 jy jF fB fC fH a'0 a'1 a'2 a'3 a'4 a'5 a'6 a'7 a'8 a'9 R4 Us Ut Uu ahf ahg R5 ahh Uv Uw R6 ahi ahj Ux Uy ahk R7 Uz UG UJ UL R9 ahl ahm ahn aho ahp ahq ahr ahs aht ahu ahv ahw ahx ahy UW U0 ahz ahA ahB ahC ahD ahE ahF ahG ahH ahI ahJ ahK ahL ahM ahN ahO ahP ahQ ahR ahS ahT ahU ahV ahW ahX ahY ahZ ah0 ah1 ah2 ah3 ah4 ah5 U3 zk KN zM Af oR U4 Jb aa1 Sg wC lC um jV Ag oU Ah oW CG qZ CJ rm Ow CN;have e:=hfa.symm.trans (jN X G U3.1);cases e;obtain⟨DK,wM,Aw,Ax,qC,HS,HW,yV,_⟩:=Cz;obtain⟨DN,DQ,jM,qD,_⟩:=zL;obtain⟨tM,tO,lO,mW,_⟩:=qW;obtain⟨qF,tQ,tR,yW,_⟩:=qX;obtain⟨tU,oK,_⟩:=vD;obtain⟨yX,yZ,tV,za,zc,zf,zj,vU,zm,tW,_⟩:=qY;obtain⟨z_all,apI,apJ,z_int,Uk,z_len,apK,z_max,z_min,alV,aaO,z_set,akm,z_str,z_sum,alW,z_zip,_⟩:=zk;have T:Tx K mg ⟨cV,gY,gR,gB,sY,iH,Gj,zX,f'0,fdOf a'0.2,f'1,fdOf a'1.2,f'2,fdOf a'2.2,f'3,fdOf a'3.2.2,f'4,fdOf a'4.2.2,f'5,fdOf a'5.2,f'6,fdOf a'6.2,f'7,fdOf a'7.2.2,f'8,fdOf a'8.2.2,f'9,fdOf a'9.2,Ul,fdOf R4.2.2,Ze,fdOf Us.2.2,Zf,fdOf Ut.2.2,Zg,fdOf Uu.2.2,ab0,fdOf ahf.2,ab1,fdOf ahg.2,Um,fdOf R5.2.2,ab2,fdOf ahh.2,Zh,fdOf Uv.2.2,Zi,fdOf Uw.2.2,Uo,fdOf R6.2.2,ab3,fdOf ahi.2,ab4,fdOf ahj.2,Zj,fdOf Ux.2.2,Zk,fdOf Uy.2.2,ab5,fdOf ahk.2,Uq,fdOf R7.2.2,Zm,fdOf Uz.2.2,Zn,fdOf UG.2.2,Zo,fdOf UJ.2.2,Zq,fdOf UL.2.2,Ur,fdOf R9.2.2,ab6,fdOf ahl.2,ab7,fdOf ahm.2,ab8,fdOf ahn.2,ab9,fdOf aho.2,acd,fdOf ahp.2,ace,fdOf ahq.2,acf,fdOf ahr.2,acg,fdOf ahs.2,ach,fdOf aht.2,aci,fdOf ahu.2,acj,fdOf ahv.2,acn,fdOf ahw.2,aco,fdOf ahx.2,acp,fdOf ahy.2,Zr,fdOf UW.2.2,Zt,fdOf U0.2.2,acq,fdOf ahz.2,acr,fdOf ahA.2,acs,fdOf ahB.2,acu,fdOf ahC.2,acv,fdOf ahD.2,acw,fdOf ahE.2,acy,fdOf ahF.2,acz,fdOf ahG.2,acA,fdOf ahH.2,acB,fdOf ahI.2,acC,fdOf ahJ.2,acD,fdOf ahK.2,acE,fdOf ahL.2,acF,fdOf ahM.2,acG,fdOf ahN.2,acH,fdOf ahO.2,acI,fdOf ahP.2,acJ,fdOf ahQ.2,acK,fdOf ahR.2,acL,fdOf ahS.2,acM,fdOf ahT.2,acN,fdOf ahU.2,acO,fdOf ahV.2,acP,fdOf ahW.2,acQ,fdOf ahX.2,acR,fdOf ahY.2,acS,fdOf ahZ.2,acT,fdOf ah0.2,acU,fdOf ah1.2,acV,fdOf ah2.2,acW,fdOf ah3.2,acX,fdOf ah4.2,acY,fdOf ah5.2,fa,fdOf U3.2⟩:=⟨yu.cl,jN X G aaT,yu.mk a'7,DK,wM,Aw,Ax,qC,HS,HW,yV,uh.cl,jN X G aaU,uh.mk R4,DN,DQ,jM,qD,nF.cl,jN X G aaV,nF.mk R5,tM,tO,lO,mW,nH.cl,jN X G aaW,nH.mk R6,qF,tQ,tR,yW,pQ.cl,jN X G aaX,pQ.mk R7,tU,oK,nJ.cl,jN X G aaY,nJ.mk R9,yX,yZ,tV,za,zc,zf,zj,vU,zm,tW,jN X G aaZ,jN X G aa0,jy,jF,⟨fB,fC,fH⟩,gOf X G a'0 fun F=>tZ F (by intros;rfl),gOf X G a'1 fun F=>qL F (by intros;rfl),gOf X G a'2 fun F=>jm F (by intros;rfl),dB a'3.2.2,jm (dB a'3.2.2) (by intros;rfl),a'3.mt (dB a'3.2.2),dB a'4.2.2,jm (dB a'4.2.2) (by intros;rfl),a'4.mt (dB a'4.2.2),gOf X G a'5 fun F=>jm F (by intros;rfl),gOf X G a'6 fun F=>jm F (by intros;rfl),dB a'7.2.2,jm (dB a'7.2.2) (by intros;rfl),a'7.mt (dB a'7.2.2),dB a'8.2.2,tZ (dB a'8.2.2) (by intros;rfl),a'8.mt (dB a'8.2.2),gOf X G a'9 fun F=>jm F (by intros;rfl),dB R4.2.2,tZ (dB R4.2.2) (by intros;rfl),R4.mt (dB R4.2.2),dB Us.2.2,jm (dB Us.2.2) (by intros;rfl),Us.mt (dB Us.2.2),dB Ut.2.2,jm (dB Ut.2.2) (by intros;rfl),Ut.mt (dB Ut.2.2),dB Uu.2.2,jm (dB Uu.2.2) (by intros;rfl),Uu.mt (dB Uu.2.2),gOf X G ahf fun F=>qL F (by intros;rfl),gOf X G ahg fun F=>qL F (by intros;rfl),dB R5.2.2,jm (dB R5.2.2) (by intros;rfl),R5.mt (dB R5.2.2),gOf X G ahh fun F=>jm F (by intros;rfl),dB Uv.2.2,jm (dB Uv.2.2) (by intros;rfl),Uv.mt (dB Uv.2.2),dB Uw.2.2,jm (dB Uw.2.2) (by intros;rfl),Uw.mt (dB Uw.2.2),dB R6.2.2,jm (dB R6.2.2) (by intros;rfl),R6.mt (dB R6.2.2),gOf X G ahi fun F=>jm F (by intros;rfl),gOf X G ahj fun F=>jm F (by intros;rfl),dB Ux.2.2,jm (dB Ux.2.2) (by intros;rfl),Ux.mt (dB Ux.2.2),dB Uy.2.2,tZ (dB Uy.2.2) (by intros;rfl),Uy.mt (dB Uy.2.2),gOf X G ahk fun F=>tZ F (by intros;rfl),dB R7.2.2,jm (dB R7.2.2) (by intros;rfl),R7.mt (dB R7.2.2),dB Uz.2.2,tZ (dB Uz.2.2) (by intros;rfl),Uz.mt (dB Uz.2.2),dB UG.2.2,tZ (dB UG.2.2) (by intros;rfl),UG.mt (dB UG.2.2),dB UJ.2.2,tZ (dB UJ.2.2) (by intros;rfl),UJ.mt (dB UJ.2.2),dB UL.2.2,tZ (dB UL.2.2) (by intros;rfl),UL.mt (dB UL.2.2),dB R9.2.2,bOf4 (dB R9.2.2) (by intros;rfl),R9.mt (dB R9.2.2),gOf X G ahl fun F=>jm F (by intros;rfl),gOf X G ahm fun F=>jm F (by intros;rfl),gOf X G ahn fun F=>jm F (by intros;rfl),gOf X G aho fun F=>jm F (by intros;rfl),gOf X G ahp fun F=>jm F (by intros;rfl),gOf X G ahq fun F=>jm F (by intros;rfl),gOf X G ahr fun F=>qL F (by intros;rfl),gOf X G ahs fun F=>jm F (by intros;rfl),gOf X G aht fun F=>qL F (by intros;rfl),gOf X G ahu fun F=>qL F (by intros;rfl),gOf X G ahv fun F=>qL F (by intros;rfl),gOf X G ahw fun F=>jm F (by intros;rfl),gOf X G ahx fun F=>qL F (by intros;rfl),gOf X G ahy fun F=>tZ F (by intros;rfl),dB UW.2.2,qL (dB UW.2.2) (by intros;rfl),UW.mt (dB UW.2.2),dB U0.2.2,qL (dB U0.2.2) (by intros;rfl),U0.mt (dB U0.2.2),gOf X G ahz fun F=>jm F (by intros;rfl),gOf X G ahA fun F=>jm F (by intros;rfl),gOf X G ahB fun F=>jm F (by intros;rfl),gOf X G ahC fun F=>tZ F (by intros;rfl),gOf X G ahD fun F=>jm F (by intros;rfl),gOf X G ahE fun F=>tZ F (by intros;rfl),gOf X G ahF fun F=>jm F (by intros;rfl),gOf X G ahG fun F=>qL F (by intros;rfl),gOf X G ahH fun F=>qL F (by intros;rfl),gOf X G ahI fun F=>jm F (by intros;rfl),gOf X G ahJ fun F=>qL F (by intros;rfl),gOf X G ahK fun F=>qL F (by intros;rfl),gOf X G ahL fun F=>qL F (by intros;rfl),gOf X G ahM fun F=>qL F (by intros;rfl),gOf X G ahN fun F=>qL F (by intros;rfl),gOf X G ahO fun F=>jm F (by intros;rfl),gOf X G ahP fun F=>tZ F (by intros;rfl),gOf X G ahQ fun F=>tZ F (by intros;rfl),gOf X G ahR fun F=>tZ F (by intros;rfl),gOf X G ahS fun F=>tZ F (by intros;rfl),gOf X G ahT fun F=>tZ F (by intros;rfl),gOf X G ahU fun F=>qL F (by intros;rfl),gOf X G ahV fun F=>tZ F (by intros;rfl),gOf X G ahW fun F=>qL F (by intros;rfl),gOf X G ahX fun F=>tZ F (by intros;rfl),gOf X G ahY fun F=>tZ F (by intros;rfl),gOf X G ahZ fun F=>tZ F (by intros;rfl),gOf X G ah0 fun F=>qL F (by intros;rfl),gOf X G ah1 fun F=>jm F (by intros;rfl),gOf X G ah2 fun F=>jm F (by intros;rfl),gOf X G ah3 fun F=>qL F (by intros;rfl),gOf X G ah4 fun F=>qL F (by intros;rfl),gOf X G ah5 fun F=>jm F (by intros;rfl),gOf X G U3 fun F=>qL F (by intros;rfl),nu X G z_all,nu X G apI,nu X G apJ,nu X G z_int,nu X G Uk,nu X G z_len,nu X G apK,nu X G z_max,nu X G z_min,nu X G alV,nu X G aaO,nu X G z_set,nu X G akm,nu X G z_str,nu X G z_sum,nu X G alW,nu X G z_zip,⟨_,jN X G zM,_,rfl⟩,⟨_,jN X G oR,_,rfl⟩,⟨_,jN X G Jb,_,rfl⟩,⟨_,jN X G Sg,_,rfl⟩,⟨_,jN X G lC,_,rfl⟩,⟨_,jN X G jV,_,rfl⟩,⟨_,jN X G oU,_,rfl⟩,⟨_,jN X G oW,_,rfl⟩,⟨_,jN X G qZ,_,rfl⟩,⟨_,jN X G rm,_,rfl⟩,⟨_,jN X G CN,_,rfl⟩,yI _ _ (by decide),aoF (by decide) tb_g% tb_g%,yI _ _ (by decide),yI _ _ (by decide)⟩;refine⟨fdOf U3.2,fun s v=>?_,fun base _ _=>ok'81 T⟩;obtain⟨_,_,_,_,_,_,_,_,_,e,_⟩:=(dB U3.2).ex;rw[e];exact .of_eq rfl
theorem walk{q:bh}{loose:List Str}{XP:(Str->Option Value)->Heap->Prop}{YP:World->Heap->Prop}{d:QW}{K:FQ->bB}(hn:Hl.most=some 63)(hdf:d.params.defaults=[])(hY:∀(w:World)(h:Heap),YP w h->(K w.params).In h)(F:∀(w:World)(mg:Str->Option Value)(fa:Addr)(h:Heap),(K w.params).In h->h.Ns dH mg->mg d.name=some (.ref fa)->RR w (K w.params) mg fa):Yc q loose XP YP Hl.row.toRowW d [] (fun f vs=>QG f vs):=
 L2.akE (n:=63) (k:=14) (x := "_law_script") (CX:=fun _=>CX0) (sp:=fun w=>ajO (K w.params)) hn (by decide) hdf ⟨rfl,by decide,by decide⟩ hY F (fun _ _ a ns hl _ hS=>⟨a,ns,rfl,hS,hl,fun _=>rfl⟩) fun _ _ _ _ _ z=>z
end My
theorem PySem.Challenge.cw_sketchbounds_k48_whole_holes_and_doubles_holds : PySem.Challenge.rw_sketchbounds_k48_whole_holes_and_doubles.Holds := by
  exact My.head My.RR My.all_mk My.walk

