import PyProof.Rows.All
import Wide.All
import OpenK.AllK
import Wide.FinOn
import Lean
import PyProof.EqAt
import PyProof.EqKinds
import PyProof.TupleCall
import PyProof.NeKinds
import PyProof.ZipIter
import PyProof.Rows.SumAny
import PyProof.Rows.Range3
import PyProof.AutoIntG2
import KE.KRevIter
import KE.KSortTup
import PyProof.Rows.SetFrom
import PyProof.SetRoads
import PyProof.CollectIter
import PyProof.ForAny
import PyProof.ListRange
import PyProof.ListIndex
import PySem.Challenge.RW_sketchbounds_k42_whole_bounds_through_po
set_option compiler.extract_closed false
local macro_rules|`($x⁻¹)=>`(($x).heap.get?)
local macro_rules|`(~~~$x)=>`(($x).heap.objs.size)
def mw:=@if_neg
def mB:=@if_pos
def mI:=@absurd
def mM:=@congrArg
def mN:=@decide_eq_true
def mP:=@of_decide_eq_true
def mS:=@decide_eq_false
def xj:=@beq_eq_false_iff_ne
abbrev Q3:List PySem.Str:=["self","thing","weight"]
abbrev Q10:List PySem.Str:=["self","thing"]
abbrev Q11:List PySem.Str:=["one","other"]
abbrev Q12:List PySem.Str:=["self"]
abbrev Q13:List PySem.Str:=["self","many"]
abbrev Q14:List PySem.Str:=["self","room"]
abbrev Q15:List PySem.Str:=["_law_cell"]
abbrev Q16:List PySem.Str:=["thing"]
abbrev Q17:List PySem.Str:=["self","k"]
abbrev Q18:List PySem.Str:=["_law_keepsake","_law_rows","_law_cell"]
abbrev Q19:List PySem.Str:=["self","part","whole"]
abbrev Q20:List PySem.Str:=["self","stands_for"]
abbrev Q21:List PySem.Str:=["self","room","reach"]
abbrev Q22:List PySem.Str:=["self","room","reach","span"]
abbrev Q23:List PySem.Str:=["_law_cell","_law_factor","_law_prime"]
abbrev Q24:List PySem.Str:=["_law_keepsake","_law_row"]
abbrev Q25:List PySem.Str:=["_law_weights_here","_law_thing"]
abbrev Q26:List PySem.Str:=["_law_found","_law_true"]
abbrev Q27:List PySem.Str:=["_law_keepsake","_law_rows","_law_k"]
abbrev Q28:List PySem.Str:=["_law_keepsake","_law_rows","_law_part","_law_whole_here"]
set_option linter.defProp false
open List renaming length_map->aC,map_append->bM,mem_cons_self->cJ,mem_cons_of_mem->cV,getElem?_eq_getElem->eU,length_append->dw,getElem?_eq_some_iff->dh,mem_append->bO,mem_cons->aX,mem_singleton->cC,size_toArray->cN,getElem?_map->dG,length_take->dN,length_cons->fu,map_cons->cX,length_filter_le->iV,not_mem_nil->fH,pairwise_cons->gC,take_of_length_le->jD,append_assoc->gD,getD_eq_getElem?_getD->oN,filter_append->iM,append_nil->gk,mem_map->dU,take_length->gZ,pairwise_append->lW,filter_cons_of_neg->qX,take_add_one->jE,getElem?_append_right->xZ,nodup_cons->iW,mem_filter->jA,filter_cons_of_pos->wJ,mem_or_eq_of_mem_set->Bw,mem_append_right->wK,length_set->kO,getElem?_eq_none->wL,map_map->g8,filter_eq_nil_iff->Gg,length_eq_zero_iff->Mi,getElem?_append_left->PK,nodup_nil->qY,length->jF,sum_cons->qZ,drop_eq_getElem_cons->Ji,extract_eq_take_drop->Jj,pairwise_iff_getElem->Jk,eq_nil_of_length_eq_zero->PL,filterMap_cons->yc,reverse_append->yd,length_reverse->yg,mem_map_of_mem->yh,take_append_drop->Cv,pairwise_map->uQ,sum_append->rK,mem_iff_getElem->Cw,filter_cons->uR,map_congr_left->Cy,length_replicate->Jl,mem_reverse->yj,map_reverse->yp,getElem?_set_ne->Jm,pairwise_singleton->PN,range->jG,reverse_cons->Cz,nodup_append->CG,length_range->CJ,find?_cons->yq,perm_ext_iff_of_nodup->Xu,length_drop->CN,getElem_mem->CP,reverse_reverse->PX,mem_of_mem_drop->Qa,mem_range->CQ,getElem?_set_self->Xv,any_cons->CT,mem_append_left->Xw,getElem?_eq_none_iff->ac2,getElem?_cons_succ->ac3,drop_of_length_le->ac4,lookup->CV,take_sublist->Xx,foldl_append->Xy,length_filterMap_eq_countP->ajl,replicate->Qc,getElem?_toArray->ac5,all_eq_true->Xz,drop_length->XC,mem_of_mem_take->ac6,filter_eq_self->ac7,foldl_cons->XD,drop_set_of_lt->ac8,take_succ_cons->ac9,filter_reverse->ada,length_eraseIdx_of_lt->ajm,map_nil->Qd,take_zero->XF,getElem_drop->adb,getElem_take->ade,getElem?_replicate->ajn,pairwise_mergeSort->ajo,getLast?_cons_cons->ajp,take_nil->XH,map_drop->XJ,lookup_cons->adf,perm_middle->adg,cons_ne_nil->adh,reverse_singleton->ajq,pairwise_lt_range->ajr,nil_append->adi,of_mem_zip->adk,perm_append_comm->ajs,singleton_append->ajt,range_succ->adl,getElem?_reverse->aju,filter_map->adn,mem_of_mem_tail->ajv,mergeSort_perm->ajw,drop_succ_cons->ajx,take_set_of_le->ajy,mem_filterMap->ajz,map_filterMap->ajA,filterMap_map->ajB,any_eq_true->ajC,cons_append->ajD,map_snd_zip->ajE,getElem_map->ajF,length_nil->ajG,map_id->ado,drop_drop->ajH,drop_left->ajI,drop_zero->ajJ,foldl->adp,all_cons->ajK,nil_perm->ajL,map_id'->ajM
open PySem.W renaming Frag->aH,mg_none_of->oO,findIn->lY,kia_one->oR,emptyDict->uT,kitOne->oU,mg_of->oW,fnOf->kZ,nsIn->lg,keepIn->rM,instObj->yu,plainGet->Jo,hasDictIn->Qe,plainOver->XM,codeIn->Qf,makesIn->XQ,plainGet_of->adq,isFn->Qg,callWith_K->adt,lookIn->XR,methodObj->adu,cellsFrom_some->ajN,takerIn->adw,methodCall_KW->ajO,callWith_K0->ajP,kdu_collect->ajQ,WalkO->adx,kdl_values->ajR,specialIn->ajS,kitx_list->ajT,kitx_dict->ajU,handedIn->ajV,kdl_dict->ajW,kitMeta->ajX,kIn_of->arU,KdlSrc->ajY
open PySem renaming wpAny_bind->aB,wpAny_pure->aN,Program->aK,mainGlobals->eE,starEach->cD,Around->aY,wpAny_holding->oX,wpAny_mono->iY,wpAny_call_entry->rN,wpAny_Call_Name_kw->yw,sliceBounds->jr,SetTable->eV,compareOp->gq,foldedSetIterable->yx,codeAny_builtin->uU,wpAny_ite_split->uV,Builtin->dO,plainId_quiet->rO,wpAny_truthy_bool->CW,wpAny_newObj_type->CZ,mem_of_lookup->Jp,wpAny_setField_rec->Jq,wpAny_passesOwn->Dc,wpAny_setState_of->Jr,fits_of_scanBound->Js,attributeBase->yC,evalArgs_none->Qh,wpAny_callSpecial?_slot->XS,wpAny_setEntries_of->Qi,wpAny_askSetting->Jt,wpAny_rule->oY,intKind->gM,codeAny->gO,codeAny_mono->yD,wpAny_of_eq->uW,builtinLookup_eq_fast->X5,wpAny_updateSeq->Ju,sysModules->rP,binaryOp->jH,wpAny_Call_method->Qj,wpAny_seqItems->Jv,bootBuiltins->Dd,importedModules->Qk,backTo->fV,tupleKind_room_in1->X6,wpAny_tryCatch->Ql,wpAny_isInstance->X7,wpAny_pyIter_revIter->ady,wpAny_newList->Qm,wpAny_attempt->Qn,treeTable->yE,wpAny_execs_nil->X8,letOwnedTupleGo->Yb,keywordEach->Jw,wpAny_specialOf->Yc,relabel->mU,typeLookup_type->Yd,argBest->mV,method_meetsIn->Ye,setAddHashedIn->Yg,isSubtype_type->Yh,wpAny_fieldsOf->Yi,swapsWith->Df,assignEach->Jx,slot_list_getitem->adz,wpAny_getItem_list_slice->ajZ,wpAny_pyIter_slot->adA,wpAny_comprehension_free->aj0,behindInMarks->Yj,relayAll->yF,wpAny_letGo->Qo,pyNext->lA,tupleKind->Jy,bindArgs->Dg,NameKind->Dh,entryFor->Dj,storeSet->Dl,intItems->Dm,wpAny_loadName_local->aj1,codeAny_call_builtin->aj2,codeAny_extend_loopS->aj3,rawInt->oZ,Result->o8,entryFor_alias->adB,wpAny_loadName_cell->aj4,holding->yG,sizeLine_eq->Yk,Keyword->yH,wpAny_standAt->adC,getMethod->Qp,backToKw->Jz,slicePick->Qq,call_reversed_list->aj5,call->Yl,wpAny_assign_Name->aj6,wpAny_pyIter_list->aj7,wpAny_call->Ym,typeLookup->Yn,valueAt->Dp,callerA->Dq,checkCount->Yo,meets_dict_values->aj8,wpAny_storeSet_of->aj9,setsByText->Yp,wpAny_setEpoch_of->akb,Within->adD,assign->uX,seqIndex_neg->adE,wpAny_typeOf->adF,wpAny_eqBool_int->akc,wpAny_execs_cons->akd,checkBuiltinCall->ake,wpAny_pyIter_zip->akf,BindsTo->JB,seqIndex_of->adG,subscripted->adH,pickOrder->Yq,codeAny_of_tree->akg,argsOk->yI,unsupported->adI,intItems_at->adJ,wpAny_newTuple->akh,wpAny_runValue->aki,firstArgMember->akj,isSubtype_stop->akk,builtinsNs->adK,wpAny_Name->adL,pyIter->Dr,standAt->Qs,intBits_le_64->akl,evalPart_none->akm,call_list_seq->akn,Comprehension->ako,relayAll_perm->akp,relayAll_fits->akq,nums_intItems->akr,Params->JC,storeName->adM,PassesOwn->adN,cellsFrom->adO,call_meetsIn->aks,DictEntry->adP,setAddHashed->akt,newFields->adQ,updateSeq->adR,getItem->Yr,ElemsOf->Ys,isTrue->Qt,Operator->adS,IntMulOk->adT,callWith->adU,layNew->Qu,Thread->Yt,DefRec->Yu
open PySem.Heap renaming get?_push_of_some->dH,get?_push_size->dW,lt_size->bQ,get?_update_other->Bx,get?_update_self->Ds,size_push->Dt,SameBut->yJ,get?_update_ne->aku,get?_push_ne->akv
open Nat renaming le_refl->bC,lt_of_lt_of_le->cY,zero_le->bF,ne_of_lt->cF,le_trans->cH,le_of_lt->eF,lt_of_le_of_ne->jJ,le_add_right->iZ,le_sub_one_of_lt->BJ,le_of_not_lt->tM,lt_succ_of_lt->yK,lt_or_ge->lZ,lt_of_le_of_lt->BK,pos_of_ne_zero->BL,zero_add->oE,lt_irrefl->q9,min_eq_left->rQ,add_assoc->o9,pow_le_pow_right->JD,add_sub_cancel_left->Qv,pow_succ->pA,add_le_add_left->JF,lt_succ_self->Du,le_succ->pC,mul_le_mul_right->Qw,add_zero->uY,add_sub_cancel'->Qx,exists_eq_add_of_le->Yv,mul_add->rR,eq_zero_of_not_pos->Yw,ne_of_gt->yL,strongRecOn->JG,le_of_succ_le->Qy,mul_assoc->Dv,lt_of_add_lt_add_left->adV,one_pos->yM,add_lt_add_left->Yx,le_of_eq->Dw,mul_zero->Dy,mul_comm->Dz,sub_lt->yN,le_succ_of_le->Yy,lt_trans->JH,add_lt_of_lt_sub'->adW,le_of_sub_eq_zero->adX,not_le->DG,le_antisymm->Yz,not_lt_zero->YB,sub_self->Qz,eq_zero_or_pos->adY,le_of_add_le_add_left->akx,add_le_add->YC,lt_of_succ_lt->adZ,sub_pos_of_lt->ad0,lt_add_of_pos_right->aky,not_lt->QB,mul_le_mul->ad1,mul_le_mul_left->akz,sub_add_cancel->akA,add_right_comm->akB,lt_trichotomy->akC,zero_lt_of_lt->akD,succ_pos->ad2,add_comm->ad3,pow_zero->ad4,succ_le_succ->akE,lt_of_not_le->akF,le_add_left->akG,log2_lt->ad5,lt_min->akH,sub_le->akI,mod_lt->akJ
open Option.some renaming inj->cA,injEq->ad6
open PyProof.Rows renaming wpS_bind->aL,wpS_pure->aR,pendingOf->cZ,boot_sorted->Gh,wpS_forRange->kW,callWith_type1->Wh,boot_max->DK,wpS_mono->fC,seqObj->cR,wpS_modify->mW,callWith_builtin1->ad7,getElem?_mirror_all->QC,boot_isinstance->ad8,setArr->d8,boot_min->YD,boot_list->ad9,failedOf->pD,boot_sum->aea,reverseSlice'_eq->YF,entry_list_sort->YG,slot_list_sort->YH,size_push'->JK,expectedOf->akK,plainGoodE->akL,plainGoodD->akM,subscriptTail->YJ,wpS_get->rT,reverseSlice'->YK,gallopOf->yO,subscriptTail_builtinR->akN,boot_dict->akO,plain_sorted->YL,entry_sorted->YM,pairsOf_size->YQ,wpS_lift->DN,drecsOf->akP,sortedHeap_old->aeb,args_list_sort->aec,AllBare->yP,kind_sorted->YS,mirror_perm->YT,pairsOf->yQ,sortedHeap_at->aed,listUpdate_at->aee,sortedHeap->YW,floordiv_int->aef,envOfC->uZ,args_sorted1->aeg,getElem?_bubble->akQ,seqEpoch_at->aeh,list_sort_tree->akR,pairsOf_toList->akS,Subscript_->aei,mirror->DQ,Constant_bool->akT,sortedAll_old->akU,boot_reversed->akV,boot_tuple->arV,boot_bool->arW,sortedAll_at->akW,mem_zip_self->akX,boot_set->arX,boot_int->arY,lt_int->arZ
open Int renaming le_refl->bR,mul_le_mul_of_nonneg_right->wM,le_trans->gn,mul_le_mul_of_nonneg_left->QD,zero_add->kY,natCast_add->tO,pow_succ->mj,emod_lt_of_pos->BP,mul_assoc->jK,le_of_lt->jt,mul_add->iT,add_zero->jL,emod_nonneg->rW,fdiv_eq_ediv_of_nonneg->QF,natAbs_ediv_le_natAbs->QG,natCast_pow->u9,not_lt->jM,add_mul->mX,mul_le_mul->yR,natCast_mul->DR,one_mul->rY,add_assoc->DW,mul_nonneg->JL,mul_comm->DX,natAbs_add_le->YX,add_comm->JM,mul_fdiv_cancel->aej,lt_of_le_of_lt->aek,mul_neg_of_neg_of_pos->akY,pow_pos->QH,add_mul_ediv_right->akZ,pow_zero->YZ,ofNat_lt->Y0,mul_ne_zero->ael,zero_mul->Y4,natAbs_mul->aem,mul_one->Y5,pow_add->Y6,toNat_of_nonneg->ak0,mul_right_comm->ak1,lt_of_lt_of_le->ak2,toNat_natCast->ak3,natAbs_sub_le->ak4,le_antisymm->ak5,ediv_nonneg->ak6,ediv_mul_le->ak7,pow_nonneg->ak8,lt_irrefl->ak9,sub_zero->ala,ne_of_gt->alb,lt_or_le->alc,mul_zero->ald,mul_emod->ale,neg_mul->alf
open Ne renaming symm->aG
open PySem.Challenge renaming rw_sketchbounds_k42_whole_bounds_through_po->Mj,pw_sketchbounds_k42_whole_bounds_through_po->ar0
open Array renaming getElem?_toList->gR,length_toList->iQ,toList_append->wN,toList_push->yS,toList_extract->JN,perm_iff_toList_perm->aen,toList_reverse->Y7,getElem?_eq_some_iff->alg,size_setIfInBounds->alh,getElem?_eq_none->ali,toArray_toList->alj,size_replicate->alm,size_extract->aln,size_map->alo,toList->alp
open Bool renaming false_ne_true->iR,false_eq_true->vd,not_eq_true'->JQ,and_eq_true->Y8,eq_iff_iff->Y9,not_eq_false'->aeo,and_eq_true_iff->alq,or_eq_true->alr,false_or->als
open PySem.SetTable renaming below->jc,grown->DY,has->Za,toList_insertAt->ar3,slot->alu,fits->alv,probeStart->ar4,orStandIn->ar5,sizeAbove->ar6,freeSlot->ar7,insertAt->ar8,layClean->ar9,advance->asa,standIn->asb,relaid->asd,Probe->ase,laid->asf,put->ash
open PySem.Builtin.Int renaming intBits->tQ,intTooBig->alw
open Option renaming map_eq_some_iff->BR,map_map->QJ,isSome_iff_exists->alx,isSome_map->aep,bind_eq_some_iff->aly,getD_none->aer,map_some->aes,map->Zb
open PySem.Obj renaming mapSeq->jd,putSet->Zc
open PySem.Builtin.List renaming listExtendWith->Wj,listLengthHint->Zd,listSameRef->Ze,listItems->alz,listUpdate->asi
open PySem.Around renaming under_plainId->yU,under->aeu
open PySem.Calls renaming spliced_cons->yV,spliced_nil->Eb,call_function_entry->aev,callWith_builtin->aew,Name_function_global->alA,evalArgs_plain->alB
open False renaming elim->ju
open PySem.F renaming plainAttrs_dict->QK,slot_dict_values->Zf,slot_dict_get->aex,slot_int_bit_length->alC,args_dict_values_1->alD,entry_dict_values->alE,type_dict_values->alF,args_dict_get_3->alG,slot_dict_items->alH,plainAttrs_list->alI,entry_dict_get->alJ,slot_dict_keys->alK
open List.Perm renaming append_left->QL,append_right->alL,cons_inv->alM,refl->alN,of_eq->asj
open PySem.PassesOwn renaming never->JR
open PySem.Str renaming ofString->Ec,empty->aey
open PySem.SetTable.below renaming go->Zg
open Prod renaming ext->pF,snd->alO
open PyProof.Rows.SortSt renaming mk'->Ed
open PySem.Value renaming isInt->JT,isStrOf->alP
open Decidable renaming byContradiction->alQ
open PyProof renaming noPylong_of_log2->alR
open PySem.SeqAt.RcAt renaming lists->aez,tuples->alS
open PySem.SeqAt.EqAt renaming same->aeA,int_str->alT,str_int->alU,of_refs->alV,none_bool->asl,bool_none->asn,bool_bool->aso,none_int->asp,none_str->asq,bool_int->asr,bool_str->asu,int_none->asv,int_bool->asw,str_none->asx,str_bool->asy,int_int->asz,str_str->asA
open Array.Perm renaming refl->aeB
open Classical renaming choose_spec->alW,choose->alX
open PySem.SeqAt renaming EqAt->QM
open Sum.inl renaming inj->Zh
open PySem.Heap.SameBut renaming update->alY,refl->asB
open PySem.W.Fast renaming te9446332074065402090->asC
open Prod.mk renaming injEq->aeC
open PySem.Paired renaming length->aeD,snoc->aeE
open PySem.Heap.IsSliceOf renaming new->alZ
open List.Nodup renaming sublist->al0
open PySem.SetTable.probe renaming go->al1
open PySem.Code renaming isFrame->aeF,frames->al2
open PySem.AutoIntG2 renaming int_bit_length_int_0->asD
open List.Sublist renaming map->al3
open PySem.Builtin.Frozenset renaming updateFrom->asF,newClass->asG,sizeOf->asH
open Eq renaming trans->QS
open PySem.Builtin.Builtins renaming bindParams->asI
open PySem.EqNone renaming eq_none_none->asJ,eq_none_bool->asK,eq_bool_none->asL,ne_none_none->asM,ne_none_bool->asN,ne_bool_none->asO,eq_none_int->asQ,eq_none_str->asR,eq_int_none->asS,eq_str_none->asT,ne_none_int->asU,ne_none_str->asV,ne_int_none->asW,ne_str_none->asY
open PySem.EqMixed renaming eq_bool_str->asZ,eq_str_bool->as3,ne_bool_str->as4,ne_str_bool->as5,eq_int_str->as6,eq_str_int->as7,ne_int_str->as8,ne_str_int->as9
open PySem.Bind renaming checkArgs->al4
open PySem.SetTable.Met.empty renaming injEq->ata
open PySem.Walks renaming list->aeG
open PySem.Builtin.Range renaming rangeSize->atb
open List.Pairwise renaming filterMap->atc
open PySem.Shared renaming TypeIs->al5
open PySem.Moved renaming eq_with->al6
open Nat.succ renaming inj->al7
open PySem.MeetsSeq renaming list_pop_at->atd
open PySem.W.KatTups renaming cons->ate,nil->atf
open PySem.ItemsOf renaming nil->al8
open PySem.W.Looks renaming here->atg
open PySem.Within renaming cons->ath
open PySem.Heap.Ns1 renaming of_empty->ati
open PySem.DictEntry renaming refKey->atj
open PySem.IsL renaming update->atk
open PySem.Heap.DictOf renaming new->atl
open List.cons renaming injEq->atm,inj->atn
open Int.ofNat renaming inj->ato
set_option hygiene false
local macro_rules | `(term| tb_g%) => `(by first | decide +kernel | lia | exact hr.mono (by decide) | exact wQ hr | exact mP rfl|walk_at "sc")
local macro_rules | `(tactic| k_dat ($x0:ident,$x1:ident) "a") => `(tactic| (extract_lets +onlyGivenNames -underBinder -merge $x0:ident;clear_value ($x1:ident :$x0:ident =_)))
local macro_rules | `(tactic| walk_at "b") => `(tactic| (try dsimp (config:={ zeta:=false }) only))
set_option hygiene true
set_option maxRecDepth 100000
set_option maxHeartbeats 0
theorem mv{a:α}{l:List α}{i:Nat}(h:l[i]? = some a):a∈l:=List.mem_of_getElem? h
local macro_rules|`(tactic|show #[$x,*])=>`(tactic|refine ⟨$x,*⟩)
local macro_rules|`(#[$x,*])=>if x.getElems.isEmpty then Lean.Macro.throwUnsupported else `(⟨$x,*⟩)
namespace L2
open PySem
def inClass(s:Stmt)(j:Nat):Stmt:=match s with
 | .ClassDef _ _ _ body _ _ _ _ _ _ _=>body.getD j (.Pass #[0,0,0,0])
 |_=>.Pass #[0,0,0,0]
def jN(s:Stmt):Arguments:=match s with
 | .FunctionDef _ a _ _ _ _ _ _ _ _=>a
 |_=>{ posonlyargs:=[],args:=[],vararg:=none,kwonlyargs:=[],kw_defaults:=[],kwarg:=none,defaults:=[] }
def jj(s:Stmt):List Stmt:=match s with
 | .FunctionDef _ _ b _ _ _ _ _ _ _=>b
 |_=>[]
def aq(s:Stmt):Scope:=match s with
 | .FunctionDef _ _ _ _ _ _ sc _ _ _=>sc
 |_=>{ kind:=.function,names:=[],isGenerator:=false,isCoroutine:=false }
end L2
namespace My
open PySem PySem.W PyProof.Rows
def rm(tb:String->Option dO)(p:aK)(w:World)(n₀:Nat)(ann:Option Value):Nat->SharedT->Yt->Option SharedT
 |0,_,_=>none
 |n+1,s,t=>match through t with
  |true=>some s
  |false=>match stepOk n₀ ann t with
   |false=>none
   |true=>match stepT (denote tb) p w s t with
    |some (s',t')=>rm tb p w n₀ ann n s' t'
    |none=>none
theorem QT:∀{n:Nat}{s s':SharedT}{t:Yt},rm tb p w n₀ ann n s t=some s'->topRun tb p w n₀ ann n s.abs t=some s'.abs
 |0,_,_,_,h=>by cases h
 |n+1,s,s',t,h=>by
  unfold rm at h;unfold topRun;cases ht:through t with
  |true =>
   rw[ht]at h;obtain rfl:=cA h;rfl
  |false =>
   rw[ht]at h;dsimp only at h ⊢;cases hs:stepOk n₀ ann t with
   |false=>rw[hs]at h;cases h
   |true =>
    rw[hs]at h;dsimp only at h ⊢;cases hq:stepT (denote tb) p w s t with
    |none=>rw[hq]at h;cases h
    |some x =>
     obtain⟨s2,t2⟩:=x;rw[hq]at h;rw[stepT_spec hq];exact QT h
def treeOf:List Obj->Nat->BT->Option BT
 |[],_,t=>some t
 |o::r,n,t=>match ((t.ins n o).get n).isSome with
  |true=>treeOf r (n+1) (t.ins n o)
  |false=>none
theorem Wl:∀{l:List Obj}{n:Nat}{t t':BT},treeOf l n t=some t'->absHeap t' (n+l.length) life=#[((t.list n)++l).toArray,life]
 |[],n,t,t',h=>by
  obtain rfl:=cA h;rw[gk];rfl
 |o::r,n,t,t',h=>by
  unfold treeOf at h;cases g:((t.ins n o).get n).isSome with
  |false=>rw[g]at h;cases h
  |true =>
   rw[g]at h;have e:=Wl (life:=life) h;rw[show n+(o::r).length=n+1+r.length by rw[fu];lia,e];have e2:=absHeap_ins (life:=life) g;have e3:(t.ins n o).list (n+1)=t.list n++[o]:=by
    have:=mM (fun h:Heap=>h.objs.toList) e2;simpa[absHeap,Heap.push]using this
   rw[e3,gD];rfl
def Zi(h:Heap):Option BT:=treeOf h.objs.toList 0 .nil
theorem ahD(e:Zi h=some T):absHeap T h.objs.size h.life=h:=by
 have:=Wl (life:=h.life) e;rw[oE,iQ]at this;rw[this];show Heap.mk (([]++h.objs.toList).toArray) h.life=h;rw[adi]
def ahE(p:aK)(w:World)(N:Nat):Option (Shared × SharedT):=(fencedOpening yE p w N).bind fun s₀ =>
 match s₀.heap.isNs eE && s₀.gens.size == 0 with
 |true=>(Zi s₀.heap).bind fun T=>(rm yE p w (~~~s₀) (s₀.heap.nsMap eE "__annotations__") N #[T,~~~s₀,s₀.heap.life,s₀.gens,s₀.drawn,s₀.toks,s₀.os] (topStub p)).map fun s₁=>(s₀,s₁)
 |false=>none
def okT(p:aK)(x:Shared × SharedT):Bool:=staticsOk (Qk p.main.body) x.1.heap x.2.abs.heap && namesBound p x.2.abs.heap && gensDone x.2.abs && laidKept x.1.heap x.2.abs.heap
abbrev JV(p q:aK)(Xt:Shared->Bool)(x:Shared × SharedT):=openSeen q [] (Qk p.main.body) Xt true x.2.abs
theorem aps(h:ahE p w N=some x)(ok:okT p x=true):openEnds yE p w N=some x.2.abs:=by
 unfold ahE at h;obtain⟨s₀,e0,e1⟩:=aly.mp h;unfold openEnds;rw[e0];show topFrom yE p w N s₀=_;unfold topFrom;cases g:(s₀.heap.isNs eE && s₀.gens.size == 0)with
 |false=>rw[g]at e1;cases e1
 |true =>
  rw[g]at e1;dsimp only at e1 ⊢;obtain⟨T,eT,e2⟩:=aly.mp e1;obtain⟨s₁,e3,e4⟩:=BR.mp e2;subst e4;have r:=QT e3;have ab:(SharedT.mk T (~~~s₀) s₀.heap.life s₀.gens s₀.drawn s₀.toks s₀.os).abs=s₀:=by
   show Shared.mk (absHeap T (~~~s₀) s₀.heap.life) _ _ _ _=s₀;rw[ahD eT]
  rw[ab]at r;rw[r]
  show (match staticsOk (Qk p.main.body) s₀.heap s₁.abs.heap && namesBound p s₁.abs.heap && gensDone s₁.abs && laidKept s₀.heap s₁.abs.heap with
   |true=>some s₁.abs
   | false=>none)=_
  have ok':(staticsOk (Qk p.main.body) s₀.heap s₁.abs.heap && namesBound p s₁.abs.heap && gensDone s₁.abs && laidKept s₀.heap s₁.abs.heap)=true:=ok;rw[ok']
def Look(p:aK)(N:Nat){β:Type}(f:Shared × SharedT->β)(b:World->β):Prop:=∀w:World,(ahE p w N).map f=some (b w)
theorem Look.at{p:aK}{N:Nat}{β:Type}{f:Shared × SharedT->β}{b:World->β}(h:Look p N f b){w:World}{x:Shared × SharedT}(e:ahE p w N=some x):f x=b w:=by
 have:=h w;rw[e]at this;exact cA this
theorem apt{p q:aK}{Xt:Shared->Bool}{α:Type}{Yf:Shared->α}{Ya:World->α}{N:Nat}
  (h0:Look p N (okT p) fun _=>true)
  (h1:Look p N (fun x=>(JV p q Xt x).1) fun _=>(openGood q []).1)
  (h2:Look p N (fun x=>(JV p q Xt x).2.1) fun _=>(openGood q []).2.1)
  (h3:Look p N (fun x=>(JV p q Xt x).2.2.1) fun _=>(openGood q []).2.2.1)
  (h4:Look p N (fun x=>(JV p q Xt x).2.2.2.1) fun _=>(openGood q []).2.2.2.1)
  (h5:Look p N (fun x=>(JV p q Xt x).2.2.2.2.1) fun _=>(openGood q []).2.2.2.2.1)
  (h6:Look p N (fun x=>(JV p q Xt x).2.2.2.2.2.1) fun _=>(openGood q []).2.2.2.2.2.1)
  (h7:Look p N (fun x=>(JV p q Xt x).2.2.2.2.2.2.1) fun _=>(openGood q []).2.2.2.2.2.2.1)
  (h8:Look p N (fun x=>(JV p q Xt x).2.2.2.2.2.2.2.1) fun _=>(openGood q []).2.2.2.2.2.2.2.1)
  (h9:Look p N (fun x=>(JV p q Xt x).2.2.2.2.2.2.2.2) fun _=>(openGood q []).2.2.2.2.2.2.2.2)
  (hY:Look p N (fun x=>Yf x.2.abs) Ya):LeftO p q [] Xt Yf Ya N:=fun w=>by
 obtain⟨x,e,_⟩:=BR.mp (h0 w);show(openEnds yE p w N).map _=_;rw[aps e (h0.at e)];show some (JV p q Xt x,Yf x.2.abs)=some (openGood q [],Ya w);have a:=hY.at e;have b:JV p q Xt x=openGood q []:=pF (h1.at e) (pF (h2.at e) (pF (h3.at e) (pF (h4.at e) (pF (h5.at e) (pF (h6.at e) (pF (h7.at e) (pF (h8.at e) (h9.at e))))))));rw[b];exact mM some (pF rfl a)
def al9(s:SharedT):List Addr->Option (List (Option Obj))
 |[]=>some []
 |a::r=>match Nat.blt a s.n with
  |true=>match s.tree.get a with
   |some o=>match al9 s r with
    |some l=>some (alive o::l)
    |none=>none
   |none=>none
  |false=>none
theorem ago:∀{as:List Addr} {l:List (Option Obj)},al9 s as=some l->as.map s.abs.heap.get? = l
 |[],l,h=>cA h
 |a::r,l,h=>by
  unfold al9 at h;cases hb:Nat.blt a s.n with
  |false=>rw[hb]at h;cases h
  |true =>
   rw[hb]at h;dsimp only at h;cases ho:s.tree.get a with
   |none=>rw[ho]at h;cases h
   |some o =>
    rw[ho]at h;dsimp only at h;cases hl:al9 s r with
    |none=>rw[hl]at h;cases h
    |some l2 =>
     rw[hl]at h;obtain rfl:=cA h;rw[cX,ago hl];exact mM (· :: l2) (abs_get (Nat.le_of_ble_eq_true hb) ho)
open PySem.W.Fast renaming tw10156331382660048174->ark, te10156331382660048174->ama, tw6613529449190102663->agp, te6613529449190102663->aeH, tw11892475500146522536->agq, te11892475500146522536->aeI, tw14364793385576792824->amb, te14364793385576792824->Wm, tw4187177175401517315->ahF, te4187177175401517315->Zj
noncomputable def amc(w:World)(os:OsState):Shared:=#[boot_heap w.params,Array.mk [],boot_drawn,boot_toks,os]
noncomputable def agr(p:aK)(w:World)(N:Nat)(s₀:Shared):Option (Shared × SharedT):=(Zi s₀.heap).bind fun T=>(rm yE p w (~~~s₀) (s₀.heap.nsMap eE "__annotations__") N #[T,~~~s₀,s₀.heap.life,s₀.gens,s₀.drawn,s₀.toks,s₀.os] (topStub p)).map fun s₁=>(s₀,s₁)
theorem apu(P:JC):(boot_heap P).isNs eE=true:=by kernel_rfl
theorem ahG{p:aK}{N:Nat}(e:opening p=plainProg p.main.scope.names)(hN:Nat.ble 600 N=true)(f:∀s,fenceModules? p s=some s)(w:World):∃os,ahE p w N=agr p w N (amc w os):=by
 obtain⟨s,hs,hv⟩:=BR.mp (boot_open e hN f w);obtain⟨h,g,d,k,os⟩:=s;simp only[aeC]at hv;obtain⟨rfl,rfl,rfl,rfl⟩:=hv;refine⟨os,?_⟩;unfold ahE;rw[hs];show(match (boot_heap w.params).isNs eE && _ with|true=>agr p w N (amc w os)|false=>none)=_;rw[apu];rfl
noncomputable def Gi(p:aK)(w:World)(n₀:Nat)(ann:Option Value):Nat->SharedT->Yt->Option SharedT
 |0,_,_=>none
 |n+1,s,t=>match through t with
  |true=>some s
  |false=>match agp n₀ ann t with
   |false=>none
   |true=>match ark (agq amb) p w s t with
    |some (s',t')=>Gi p w n₀ ann n s' t'
    |none=>none
theorem QV:∀{n:Nat}{s:SharedT}{t:Yt},rm yE p w n₀ ann n s t=Gi p w n₀ ann n s t
 |0,_,_=>rfl
 |n+1,s,t=>by
  have ih:∀s t,rm yE p w n₀ ann n s t=Gi p w n₀ ann n s t:=fun _ _=>QV;rw[Wm]at ih;unfold rm Gi;rw[aeH,ama,aeI,Wm];cases through t with
  |true=>rfl
  |false =>
   dsimp only;cases agp n₀ ann t with
   |false=>rfl
   |true =>
    dsimp only;cases ark (agq amb) p w s t with
    |none=>rfl
    |some x=>exact ih _ _
noncomputable def amd(p:aK)(w:World)(N:Nat)(s₀:Shared):Option (Shared × SharedT):=(Zi s₀.heap).bind fun T=>(Gi p w (~~~s₀) (s₀.heap.nsMap eE "__annotations__") N #[T,~~~s₀,s₀.heap.life,s₀.gens,s₀.drawn,s₀.toks,s₀.os] (topStub p)).map fun s₁=>(s₀,s₁)
theorem ame:agr p w N s₀=amd p w N s₀:=by
 unfold agr amd;exact mM _ (funext fun T=>mM _ QV)
def rA(p:aK)(N:Nat){β:Type}(f:Shared × SharedT->β)(b:World->β):Prop:=∀w os,(amd p w N (amc w os)).map f=some (b w)
noncomputable abbrev Vh(p q:aK)(Xt:Shared->Bool)(x:Shared × SharedT):=ahF q [] (Qk p.main.body) Xt true x.2.abs
theorem apv:JV p q Xt=Vh p q Xt:=by
 funext x
 unfold JV Vh;rw[Zj]
structure Plain(p:aK)(N:Nat):Prop where
 op:opening p=plainProg p.main.scope.names
 n:Nat.ble 600 N=true
 fe:∀s,fenceModules? p s=some s
theorem rA.look{p:aK}{N:Nat}{β:Type}{f:Shared × SharedT->β}{b:World->β}(h:rA p N f b)(P:Plain p N):Look p N f b:=fun w=>by
 obtain⟨os,e⟩:=ahG P.op P.n P.fe w;rw[e,ame];exact h w os
theorem rA.fst{p:aK}{N:Nat}{β γ:Type}{f:Shared × SharedT->β × γ}{b:World->β}{c:World->γ}(h:rA p N f fun w=>(b w,c w)):rA p N (fun x=>(f x).1) b:=fun w os=>by
 have:=mM (Zb Prod.fst) (h w os);rwa[QJ]at this
theorem rA.snd{p:aK}{N:Nat}{β γ:Type}{f:Shared × SharedT->β × γ}{b:World->β}{c:World->γ}(h:rA p N f fun w=>(b w,c w)):rA p N (fun x=>(f x).2) c:=fun w os=>by
 have:=mM (Zb alO) (h w os);rwa[QJ]at this
theorem amf{N:Nat}(P:Plain p N)
  (hA:rA p N (fun x=>(okT p x,(Vh p q Xt x).1,(Vh p q Xt x).2.1,(Vh p q Xt x).2.2.1)) fun _=>(true,akK q,bltViewBooted,true))
  (hB:rA p N (fun x=>(Vh p q Xt x).2.2.2) fun _=>(true,pinGoodD (akP q),akL q (looseW q []),akM q [],wideGood q,clsGoodW q []))
  (hY:rA p N (fun x=>al9 x.2 as) fun w=>some (Ya w)):LeftO p q [] Xt (fun s=>as.map s⁻¹) Ya N:=by
 have h0:rA p N (okT p) fun _=>true:=hA.fst;rw[<-apv]at hA hB;refine apt (h0.look P) (hA.snd.fst.look P) (hA.snd.snd.fst.look P) (hA.snd.snd.snd.look P) (hB.fst.look P) (hB.snd.fst.look P) (hB.snd.snd.fst.look P) (hB.snd.snd.snd.fst.look P) (hB.snd.snd.snd.snd.fst.look P) (hB.snd.snd.snd.snd.snd.look P) fun w=>?_;obtain⟨x,e,_⟩:=BR.mp (h0.look P w);rw[e];exact mM some (ago ((hY.look P).at e))
end My
namespace My
open PySem L2
def top(i:Nat):Stmt:=ar0.main.body.getD i (.Pass #[0,0,0,0])
abbrev vf:Stmt:=top 35
abbrev rZ:Stmt:=top 36
abbrev Zk:Stmt:=top 37
abbrev vg:Stmt:=inClass (top 32) 3
abbrev pG:Stmt:=inClass (top 32) 2
abbrev JW:Stmt:=top 34
abbrev QW:Stmt:=top 33
abbrev vh:Stmt:=inClass (top 32) 0
abbrev yW:Stmt:=inClass (top 32) 1
abbrev QX:Stmt:=top 43
abbrev sy:Stmt:=inClass (top 42) 0
abbrev mY:Stmt:=inClass (top 42) 3
abbrev vm:Stmt:=inClass (top 42) 1
abbrev sE:Stmt:=inClass (top 42) 2
abbrev QZ:Stmt:=top 20
abbrev aeJ:Stmt:=top 21
abbrev mZ:Stmt:=inClass (top 23) 0
abbrev Ef:Stmt:=top 24
abbrev jO:Stmt:=inClass (top 23) 2
abbrev pH:Stmt:=inClass (top 23) 1
abbrev m5:Stmt:=inClass (top 27) 0
abbrev Q5:Stmt:=top 28
abbrev JX:Stmt:=top 29
abbrev pI:Stmt:=inClass (top 27) 2
abbrev pJ:Stmt:=inClass (top 27) 1
abbrev Eh:Stmt:=top 8
abbrev pK:Stmt:=inClass (top 7) 0
abbrev sH:Stmt:=inClass (top 7) 1
abbrev pN:Stmt:=inClass (top 7) 2
abbrev pO:Stmt:=inClass (top 46) 1
abbrev m6:Stmt:=inClass (top 46) 2
abbrev m7:Stmt:=inClass (top 46) 3
abbrev m8:Stmt:=inClass (top 46) 0
abbrev Zm:Stmt:=top 51
abbrev vo:Stmt:=top 52
abbrev vp:Stmt:=top 53
abbrev sI:Stmt:=top 54
abbrev Ei:Stmt:=top 55
abbrev vq:Stmt:=top 57
abbrev Q6:Stmt:=top 56
abbrev jP:Stmt:=top 30
abbrev JZ:Stmt:=top 39
abbrev pP:Stmt:=top 40
abbrev Ej:Stmt:=top 44
abbrev lB:Stmt:=top 15
abbrev jQ:Stmt:=top 25
abbrev vA:Stmt:=top 47
abbrev Q7:Stmt:=top 48
abbrev vB:Stmt:=inClass (top 32) 4
abbrev vC:Stmt:=inClass (top 32) 5
abbrev Ek:Stmt:=top 38
abbrev m9:Stmt:=inClass (top 32) 6
abbrev sO:Stmt:=inClass (top 42) 4
abbrev lC:Stmt:=inClass (top 23) 3
abbrev jR:Stmt:=inClass (top 23) 4
abbrev pQ:Stmt:=inClass (top 27) 3
abbrev ni:Stmt:=inClass (top 27) 4
abbrev lE:Stmt:=inClass (top 27) 5
abbrev El:Stmt:=top 13
abbrev aeK:Stmt:=top 14
abbrev Eo:Stmt:=top 10
abbrev yX:Stmt:=top 11
abbrev yZ:Stmt:=top 9
abbrev aeL:Stmt:=top 12
abbrev sS:Stmt:=inClass (top 7) 3
abbrev pR:Stmt:=inClass (top 46) 4
abbrev jT:Stmt:=inClass (top 46) 5
abbrev lF:Stmt:=inClass (top 46) 6
abbrev jw:Stmt:=inClass (top 46) 7
abbrev nu:Stmt:=inClass (top 46) 8
abbrev iU:Stmt:=inClass (top 46) 9
abbrev pU:Stmt:=inClass (top 46) 10
abbrev J0:Stmt:=top 50
abbrev za:Stmt:=top 58
abbrev J8:Stmt:=top 59
abbrev Q8:Stmt:=top 60
abbrev zc:Stmt:=top 62
abbrev Zn:Stmt:=top 61
abbrev nA:Stmt:=top 63
abbrev pW:Stmt:=top 65
abbrev nF:Stmt:=top 64
abbrev pY:Stmt:=top 66
abbrev vD:Stmt:=top 67
abbrev Ep:Stmt:=top 68
abbrev amg:Stmt:=top 69
def LK(K:aH)(n q:Str)(s:Stmt)(f:Addr):Prop:=∃oc od an sl kV dc pm cd ct,K.lookup f=some #[oc,od,.func (kZ n q (jN s) (jj s) (aq s) .none kV dc pm an cd ct),sl]/\Qf K cd q=true/\rM K (.ref f)=true
def GK(K:aH)(n:Str)(s:Stmt)(f:Addr):Prop:=lg K eE n=some (some (.ref f))/\LK K n n s f
def MeK(K:aH)(C:Addr)(n q:Str)(s:Stmt)(f:Addr):Prop:=lY K (.ref C) n=some (some (.ref f))/\Qg K (.ref f)=true/\LK K n q s f
def CK(K:aH)(C:Addr):Prop:=Jo K C aey=true/\Qe K C=true/\XM K C=true/\lY K (.ref C) "__setattr__" = some (some (.builtin "object.__setattr__"))/\XQ K C=true/\rM K (.ref C)=true
def NK(K:aH)(C:Addr):List Str->Prop
 |[]=>True
 |f::r=>lY K (.ref C) f=some none/\NK K C r
def ZK(K:aH):List Str->Prop
 |[]=>True
 |n::r=>lg K eE n=some none/\ZK K r
def GKs(K:aH):List (Str × Stmt)->Prop
 |[]=>True
 |p::r=>(∃f,GK K p.1 p.2 f)/\GKs K r
def MKs(K:aH)(C:Addr):List (Str × Str × Stmt)->Prop
 |[]=>True
 |p::r=>(∃f,MeK K C p.1 p.2.1 p.2.2 f)/\MKs K C r
theorem GKs.nil{K:aH}:GKs K []:=trivial
theorem GKs.cons{K:aH}{n:Str}{s:Stmt}{r:List (Str × Stmt)}{f:Addr}(a:GK K n s f)(b:GKs K r):GKs K ((n,s)::r):=#[#[f,a],b]
theorem MKs.nil{K:aH}:MKs K C []:=trivial
theorem MKs.cons{K:aH}{C:Addr}{n q:Str}{s:Stmt}{r:List (Str × Str × Stmt)}{f:Addr}(a:MeK K C n q s f)(b:MKs K C r):MKs K C ((n,q,s)::r):=#[#[f,a],b]
theorem LK.of{K:aH}{kV dc pm cd ct:Value}(l:K.lookup f=some #[oc,od,.func (kZ n q (jN s) (jj s) (aq s) .none kV dc pm an cd ct),sl])(c:Qf K cd q=true)(k:rM K (.ref f)=true):LK K n q s f:=#[oc,od,an,sl,kV,dc,pm,cd,ct,l,c,k]
theorem GK.of{K:aH}(a:lg K eE n=some (some (.ref f)))(l:LK K n n s f):GK K n s f:=#[a,l]
theorem MeK.of{K:aH}(a:lY K (.ref C) n=some (some (.ref f)))(i:Qg K (.ref f)=true)(l:LK K n q s f):MeK K C n q s f:=#[a,i,l]
theorem CK.of{K:aH}(a:Jo K C aey=true)(b:Qe K C=true)(c:XM K C=true)(d:lY K (.ref C) "__setattr__" = some (some (.builtin "object.__setattr__")))(e:XQ K C=true)(f:rM K (.ref C)=true):CK K C:=#[a,b,c,d,e,f]
theorem NK.nil{K:aH}:NK K C []:=trivial
theorem NK.cons{K:aH}{C:Addr}{f:Str}{r:List Str}(a:lY K (.ref C) f=some none)(b:NK K C r):NK K C (f::r):=#[a,b]
theorem ZK.nil{K:aH}:ZK K []:=trivial
theorem ZK.cons{K:aH}{f:Str}{r:List Str}(a:lg K eE f=some none)(b:ZK K r):ZK K (f::r):=#[a,b]
abbrev nG:PySem.W.OpenRow:=Mj.row
def view:PySem.Program:={ nG.prog with main:={ nG.prog.main with body:=[top 1,top 2,top 3,top 4,top 5,top 7,top 8,top 9,top 10,top 11,top 12,top 13,top 14,top 15,top 17,top 18,top 19,top 20,top 21,top 23,top 24,top 25,top 27,top 28,top 29,top 30,top 32,top 33,top 34,top 35,top 36,top 37,top 38,top 39,top 40,top 42,top 43,top 44,top 46,top 47,top 48,top 50,top 51,top 52,top 53,top 54,top 55,top 56,top 57,top 58,top 59,top 60,top 61,top 62,top 63,top 64,top 65,top 66,top 67,top 68,top 69] } }
abbrev abd:Shared->Bool:=fun s=>PySem.W.xlAt view [] s && PySem.W.recOk nG.records s
theorem seeP:Plain nG.prog 20000:=#[by kernel_rfl,by kernel_rfl,by intro s;kernel_rfl]
theorem seeW:Mj.wellSaid=true:=by
 rw[asC]
 kernel_rfl
theorem see0:rA nG.prog 20000 (fun x=>(okT nG.prog x,(Vh nG.prog view abd x).1,(Vh nG.prog view abd x).2.1,(Vh nG.prog view abd x).2.2.1)) (fun _=>(true,akK view,bltViewBooted,true)):=by intro w os;kernel_rfl
theorem see1:rA nG.prog 20000 (fun x=>(Vh nG.prog view abd x).2.2.2) (fun _=>(true,pinGoodD (akP view),akL view (PySem.W.looseW view []),akM view [],PySem.W.wideGood view,PySem.W.clsGoodW view [])):=by intro w os;kernel_rfl
def amh(R:World->aH->(Str->Option Value)->Addr->Prop):Prop:=∀{w:World}{K:aH}{h:Heap}{mg:Str->Option Value}{fa C'0 C'1 C'2 C'3 C'4 C'5:Addr}(X:K.In h)(G:h.Ns eE mg) (hfa:mg "law" = some (.ref fa))
(aC'0:lg K eE "Rungs" = some (some (.ref C'0))) (zf:CK K C'0) (Gj:NK K C'0 ["room","total","over","under","turns","least","most","rungs"]) (aC'1:lg K eE "Window" = some (some (.ref C'1))) (tR:CK K C'1) (Al:NK K C'1 ["room","reach","clock","boxes"]) (aC'2:lg K eE "Distinct" = some (some (.ref C'2))) (mq:CK K C'2) (rB:NK K C'2 ["room","arrivals","level","kept"]) (aC'3:lg K eE "Frequent" = some (some (.ref C'3))) (mC:CK K C'3) (rC:NK K C'3 ["room","total","lost","counts"]) (aC'4:lg K eE "Balance" = some (some (.ref C'4))) (pZ:CK K C'4) (vG:NK K C'4 ["span","sums"]) (aC'5:lg K eE "Keepsake" = some (some (.ref C'5))) (mD:CK K C'5) (rD:NK K C'5 ["room","reach","span","came","went","up","down","window","seen","balance"]) (gk0:GKs K [("with_thing",vf),("left_behind",rZ),("risen",Zk),("greater",JW),("lesser",QW),("joined",QX),("spread",QZ),("mark",aeJ),("of_marks",Ef),("cut_of",Q5),("lowered",JX),("with_row",Eh),("_law_mix",Zm),("_law_far_back",vo),("_law_thing_by",vp),("_law_weight_by",sI),("_law_row_by",Ei),("_law_shape_by",vq),("_law_done",Q6),("poured_frequent",jP),("list_at",JZ),("poured_rungs",pP),("followed",Ej),("poured_balance",lB),("poured_distinct",jQ),("empty_like",vA),("poured",Q7),("thing_at",Ek),("due_sums",El),("root",aeK)]) (gk1:GKs K [("one_pair",Eo),("two_pairs",yX),("pairs_for",yZ),("fits",aeL),("_law_whole",J0),("_law_weights",za),("_law_up_to",J8),("_law_last",Q8),("_law_between",zc),("_law_off",Zn),("_law_counts_hold",nA),("_law_rank_holds",pW),("_law_often_holds",nF),("_law_rest_holds",pY),("_law_all_hold",vD),("_law_pieces",Ep),("law",amg)]) (aeM:MKs K C'0 [("turn","Rungs.turn",vg),("settle","Rungs.settle",pG),("__init__","Rungs.__init__",vh),("add","Rungs.add",yW),("near","Rungs.near",vB),("rank","Rungs.rank",vC),("by_rank","Rungs.by_rank",m9)]) (aeN:MKs K C'1 [("__init__","Window.__init__",sy),("settle","Window.settle",mY),("add","Window.add",vm),("idle","Window.idle",sE),("last","Window.last",sO)]) (aeO:MKs K C'2 [("__init__","Distinct.__init__",mZ),("settle","Distinct.settle",jO),("add","Distinct.add",pH),("exact","Distinct.exact",lC),("bounds","Distinct.bounds",jR)]) (aeP:MKs K C'3 [("__init__","Frequent.__init__",m5),("fit","Frequent.fit",pI),("add","Frequent.add",pJ),("low","Frequent.low",pQ),("high","Frequent.high",ni),("often","Frequent.often",lE)]) (aeQ:MKs K C'4 [("__init__","Balance.__init__",pK),("put","Balance.put",sH),("take","Balance.take",pN),("off","Balance.off",sS)]) (aeR:MKs K C'5 [("put","Keepsake.put",pO),("take","Keepsake.take",m6),("idle","Keepsake.idle",m7),("__init__","Keepsake.__init__",m8),("net","Keepsake.net",pR),("ranked","Keepsake.ranked",jT),("often","Keepsake.often",lF),("by_rank","Keepsake.by_rank",jw),("last","Keepsake.last",nu),("distinct","Keepsake.distinct",iU),("off","Keepsake.off",pU)]) (zk:ZK K ["bool","dict","int","isinstance","len","list","max","min","range","reversed","set","sorted","sum","tuple","zip"]) {ags:Tok} (Zo:lg K eE "MOST" = some (some (.int 1152921504606846976 ags))) {tU:Tok} (jk:lg K eE "MOST_HALVINGS" = some (some (.int 60 tU))) {Wo:Tok} (Gk:lg K eE "SPREAD" = some (some (.int 770093176312745717 Wo))),
  R w K mg fa
end My
section
open PySem PySem.W PyProof.Rows L2
local macro_rules
  | `(tactic| o_head $H) => `(tactic|
    (refine holds_open (r := My.nG) (q := My.view) (loose := []) (N := 20000)
        (Xt := My.abd) (XP := XL My.view [])
        (Yf := Hook.obs $H) (Ya := Hook.val $H) (YP := Hook.says $H) ?hl (Hook.of $H) (Hook.keeps $H)
        (fun s e => xl_of s (alq.mp e).1) XL.keeps
        (by rfl) (by rfl) (by rfl)
        (fun s e => recFacts_of (alq.mp e).2) (by rfl)
        (by first | assumption | decide +kernel) tb_g%
        #[rfl, rfl, rfl, rfl, rfl, by decide +kernel] ?hw ?hc;
     (case hl => exact My.amf My.seeP My.see0 My.see1 (by intro w os; kernel_rfl))))
local macro_rules
  | `(tactic| k_is) => `(tactic| first
    | (refine' My.LK.of ?lkl ?lkc ?lkk; (case lkl => k_is); (case lkc => k_is); (case lkk => k_is))
    | (refine' My.GK.of ?gka ?gkl; (case gka => k_is); (case gkl => k_is))
    | (refine' My.MeK.of ?mka ?mki ?mkl; (case mka => k_is); (case mki => k_is); (case mkl => k_is))
    | exact My.NK.nil
    | exact My.ZK.nil
    | exact My.GKs.nil
    | exact My.MKs.nil
    | (refine' My.GKs.cons ?gca ?gcb; (case gca => k_is); (case gcb => k_is))
    | (refine' My.MKs.cons ?mca ?mcb; (case mca => k_is); (case mcb => k_is))
    | (refine' My.NK.cons ?nka ?nkb; (case nka => k_is); (case nkb => k_is))
    | (refine' My.ZK.cons ?zka ?zkb; (case zka => k_is); (case zkb => k_is))
    | (refine' My.CK.of ?ck1 ?ck2 ?ck3 ?ck4 ?ck5 ?ck6; (case ck1 => k_is); (case ck2 => k_is); (case ck3 => k_is); (case ck4 => k_is); (case ck5 => k_is); (case ck6 => k_is))
    | fail)
open My in
set_option maxHeartbeats 0 in
theorem My.head(R:World->aH->(Str->Option Value)->Addr->Prop)(mk:My.amh R)
  (wk:∀{q:aK}{loose:List Str} {XP:(Str->Option Value)->Heap->Prop} {YP:World->Heap->Prop} {d:Yu} {K:JC->aH},Mj.most=some 63->d.params.defaults=[]->(∀(w:World)(h:Heap),YP w h->(K w.params).In h)->(∀(w:World)(mg:Str->Option Value)(fa:Addr)(h:Heap),(K w.params).In h->h.Ns eE mg->mg d.name=some (.ref fa)->R w (K w.params) mg fa)->adx q loose XP YP Mj.row.toRowW d [] (fun f vs=>Yl f vs)):Mj.Holds:=by
 w_on;refine PySem.W.holds_law My.seeW fun said=>?_;k_head;(case hw=>w_witness2)
 k_fill
 refine wk rfl rfl (fun w h Y=>arU Y) ?F
 case F =>
  intro w mg fa h KX G hmg;refine' mk KX G hmg ?aC'0 ?zf ?Gj ?aC'1 ?tR ?Al ?aC'2 ?mq ?rB ?aC'3 ?mC ?rC ?aC'4 ?pZ ?vG ?aC'5 ?mD ?rD ?gk0 ?gk1 ?aeM ?aeN ?aeO ?aeP ?aeQ ?aeR ?zk ?Zo ?jk ?Gk
  (case aC'0=>k_is)
  (case zf=>k_is)
  (case Gj=>k_is)
  (case aC'1=>k_is)
  (case tR=>k_is)
  (case Al=>k_is)
  (case aC'2=>k_is)
  (case mq=>k_is)
  (case rB=>k_is)
  (case aC'3=>k_is)
  (case mC=>k_is)
  (case rC=>k_is)
  (case aC'4=>k_is)
  (case pZ=>k_is)
  (case vG=>k_is)
  (case aC'5=>k_is)
  (case mD=>k_is)
  (case rD=>k_is)
  (case gk0=>k_is)
  (case gk1=>k_is)
  (case aeM=>k_is)
  (case aeN=>k_is)
  (case aeO=>k_is)
  (case aeP=>k_is)
  (case aeQ=>k_is)
  (case aeR=>k_is)
  (case zk=>k_is)
  (case Zo=>k_is)
  (case jk=>k_is)
  (case Gk=>k_is)
end
set_option Elab.async false
set_option linter.all false
namespace L2
open PySem PySem.Spec PyProof.Rows
noncomputable abbrev Key:=Sum Int Str
noncomputable def Q9:Key->Value->Bool
 | .inl k,v=>JT k v
 | .inr x,v=>alP x v
noncomputable def keyH(w:World):Key->Int
 | .inl k=>hashInt k
 | .inr x=>hashStr w x
theorem eG:∀{k:Key}{v:Value},Q9 k v=true->(∃i t,k=Sum.inl i/\v=Value.int i t)\/(∃x t,k=Sum.inr x/\v=Value.str x t)
 | .inl i,v,h=>by
  obtain⟨t,e⟩:=Value.isInt_shape (k:=i) (v:=v) h;exact .inl #[i,t,rfl,e]
 | .inr x,v,h=>by
  obtain⟨t,e⟩:=Value.isStrOf_shape (x:=x) (v:=v) h;exact .inr #[x,t,rfl,e]
theorem ahH(i:Int)(t:Tok):Q9 (.inl i) (.int i t)=true:=by simp[Q9,JT]
theorem ahI(x:Str)(t:Tok):Q9 (.inr x) (.str x t)=true:=by simp[Q9,alP]
theorem atp(a b:Int):decide ((Sum.inl a:Key)=Sum.inl b)=(a == b):=by
 by_cases e:a=b
 ·subst e;simp
 ·have h:¬ (Sum.inl a:Key)=Sum.inl b:=fun q=>e (Zh q);rw[mS h];exact(xj.mpr e).symm
theorem atq(a b:Str):decide ((Sum.inr a:Key)=Sum.inr b)=decide (a=b):=by
 by_cases e:a=b
 ·subst e;simp
 ·have h:¬ (Sum.inr a:Key)=Sum.inr b:=fun q=>e (Sum.inr.inj q);rw[mS h,mS e]
theorem atr(a:Int)(b:Str):decide ((Sum.inl a:Key)=Sum.inr b)=false:=mS (fun q=>nomatch q)
theorem atu(a:Str)(b:Int):decide ((Sum.inr a:Key)=Sum.inl b)=false:=mS (fun q=>nomatch q)
noncomputable def cu(prog:aK)(w:World):PySem.KeyKind prog w Key where
 is:=Q9
 hash:=keyH w
 inj:=fun v a b ha hb=>by
  rcases eG ha with⟨i,t,rfl,rfl⟩|⟨x,t,rfl,rfl⟩
  ·rcases eG hb with⟨j,u,rfl,e⟩|⟨y,u,rfl,e⟩
   ·injection e with e1 _;rw[e1]
   ·exact nomatch e
  ·rcases eG hb with⟨j,u,rfl,e⟩|⟨y,u,rfl,e⟩
   ·exact nomatch e
   ·injection e with e1 _;rw[e1]
 byValue:=fun k v h=>by
  rcases eG h with⟨i,t,rfl,rfl⟩|⟨x,t,rfl,rfl⟩ <;> rfl
 pyHash:=fun hv h=>by
  rcases eG hv with⟨i,t,rfl,rfl⟩|⟨x,t,rfl,rfl⟩
  ·exact wpAny_pyHash_int h
  ·exact wpAny_pyHash_str h
 eqBool:=fun hu hv h=>by
  rcases eG hu with⟨i,t,rfl,rfl⟩|⟨x,t,rfl,rfl⟩
  ·rcases eG hv with⟨j,u,rfl,rfl⟩|⟨y,u,rfl,rfl⟩
   ·rw[atp]at h;exact akc h
   ·rw[atr]at h;exact alT i t y u _ _ _ _ h
  ·rcases eG hv with⟨j,u,rfl,rfl⟩|⟨y,u,rfl,rfl⟩
   ·rw[atu]at h;exact alU x t j u _ _ _ _ h
   ·rw[atq]at h;exact wpAny_eqBool_str h
 «strs» := fun k x t v h=>by
  rcases eG h with⟨i,u,rfl,e⟩|⟨y,u,rfl,e⟩
  ·exact nomatch e
  ·injection e with e1 _;subst e1;cases v <;> rfl
theorem abe(prog:aK)(w:World)(i:Int)(t:Tok):(cu prog w).is (.inl i) (.int i t)=true:=ahH i t
theorem abf(prog:aK)(w:World)(x:Str)(t:Tok):(cu prog w).is (.inr x) (.str x t)=true:=ahI x t
inductive V where
 |non|bl (b:Bool)|int (i:Int)|str (x:Str)|byt (b:Array UInt8)|flt (b:UInt64)|ref (a:Addr)|ty (n:String)
 deriving DecidableEq
noncomputable def RelV:V->Value->Prop
 | .non,u=>u=Value.none
 | .bl b,u=>u=Value.bool b
 | .int i,u=>∃t,u=Value.int i t
 | .str x,u=>∃t,u=Value.str x t
 | .byt b,u=>∃t,u=Value.bytes b t
 | .flt b,u=>∃t,u=Value.float b t
 | .ref a,u=>u=Value.ref a
 | .ty n,u=>u=Value.type n
noncomputable abbrev Vals:List V->List Value->Prop:=Paired RelV
theorem Vals.length(r:Vals xs us):xs.length=us.length:=aeD r
theorem Vals.get:∀{xs:List V}{us:List Value}{i:Nat}{x:V},Vals xs us->xs[i]? = some x->∃u,us[i]? = some u/\RelV x u
 |_,_,_,_,.nil,e=>by simp at e
 |_,_,0,_,.cons r _,e=>by simp at e;subst e;show#[_,rfl,r]
 |_,_,i+1,x,.cons _ t,e=>by
  obtain⟨u,h1,h2⟩:=Vals.get (i:=i) (x:=x) t (by simpa using e);show#[u,by simpa using h1,h2]
theorem Vals.set(r:RelV x u):∀{xs:List V}{us:List Value}(i:Nat),Vals xs us->Vals (xs.set i x) (us.set i u)
 |_,_,_,.nil=>.nil
 |_,_,0,.cons _ t=>.cons r t
 |_,_,i+1,.cons q t=>.cons q (Vals.set r i t)
theorem Vals.append:∀{xs ys:List V}{us ws:List Value},Vals xs us->Vals ys ws->Vals (xs++ys) (us++ws)
 |_,_,_,_,.nil,s=>s
 |_,_,_,_,.cons r t,s=>.cons r (Vals.append t s)
theorem Vals.take:∀{xs:List V}{us:List Value}(n:Nat),Vals xs us->Vals (xs.take n) (us.take n)
 |_,_,0,_=>.nil
 |_,_,_+1,.nil=>.nil
 |_,_,n+1,.cons r t=>.cons r (Vals.take n t)
theorem Vals.drop:∀{xs:List V}{us:List Value}(n:Nat),Vals xs us->Vals (xs.drop n) (us.drop n)
 |_,_,0,r=>r
 |_,_,_+1,.nil=>.nil
 |_,_,n+1,.cons _ t=>Vals.drop n t
theorem Vals.none_of:∀{xs:List V}{us:List Value}{i:Nat},Vals xs us->xs[i]? = none->us[i]? = none:=fun {xs us i} r e=>by
 have h1:=r.length;have h2:xs.length<=i:=ac2.mp e;exact ac2.mpr tb_g%
noncomputable def xV:Option V->Option Value->Prop
 |some v,some u=>RelV v u
 |none,none=>True
 |_,_=>False
noncomputable def KV{κ:Type}:List (κ × V)->List (κ × Value)->Prop:=Paired fun p q=>p.1=q.1/\RelV p.2 q.2
noncomputable def kV:Key->V
 | .inl i=>.int i
 | .inr x=>.str x
inductive HO where
 |lst (xs:List V)
 |tup (xs:List V)
 |dK (kvs:List (Key × V))|dT (kvs:List (List Key × V))
 |set (S:Int->Bool) (n:Nat)
 |ins (C dx:Addr) (fs:List (Str × V))
 |own (x:Addr)
 |xd (fs:List (Str × V))
 |met (f x:Addr)
 |rng (lo hi:Int)
 |frz (o:Obj) (u:HO)
 |tbl (ps:Array Value)
 |ext (φ:Heap->Prop)
noncomputable abbrev Hp:=Addr->Option HO
noncomputable def upd(H:Hp)(a:Addr)(o:HO):Hp:=fun b=>if b=a then some o else H b
theorem aj:upd H a o a=some o:=by unfold upd;rw[mB rfl]
theorem ao(h:b≠a):upd H a o b=H b:=by unfold upd;rw[mw h]
theorem cB:upd (upd H a o) a u=upd H a u:=by
 funext b;unfold upd;split <;> rfl
theorem fU{H:Hp}{a b:Addr}{o u:HO}(h:H a=some o)(h':H b=some u)(d:o≠u):a≠b:=by
 intro e;subst e;rw[h]at h';exact d (cA h')
theorem ak{H:Hp}{a b:Addr}{o:HO}(h:H a=some o)(h':H b=none):a≠b:=by
 intro e;subst e;rw[h]at h';cases h'
section
variable(P:aK)(w:World)
noncomputable def cT(H:Hp)(h:Heap)(a:Addr):HO->Prop
 | .lst xs=>xs.length<=sizeLine/\∃(its:List Value)(n:Nat),Vals xs its/\h.get? a=some { cls:=.type "list",data:=.seq its.toArray n }
 | .tup xs=>xs.length<=sizeLine/\∃its:List Value,Vals xs its/\IsTup h a its.toArray
 | .dK kvs=>kvs.length<=sizeLine/\(a == rP)=false/\∃vs,KV kvs vs/\h.DictOf (cu P w) a vs
 | .dT kvs=>kvs.length<=sizeLine/\(a == rP)=false/\∃xs:List (List Key × Addr × Value),
   Paired (fun(p:List Key × V) (q:List Key × Addr × Value)=>p.1=q.1/\H q.2.1=some (.tup (p.1.map kV))/\RelV p.2 q.2.2) kvs xs /\
   ∃o es ep,h.get? a=some o/\o.ExactDict/\o.data=.dict es ep/\es.toList=xs.map (entryOfKey (Jy (cu P w)))/\(xs.map (·.1)).Nodup
 | .set S n=>h.SetOf (gM P w) a S n
 | .ins C dx fs=>H dx=some (.own a)/\fs.length<=1000/\dx≠a/\h.get? a=some (yu C dx) /\
   ∃mA,h.Ns1 dx mA/\(∀f,xV (fs.lookup f) (mA f))/\adD mA (fs.map (·.1))
 | .own _=>∃o,h.get? a=some o
 | .xd fs=>∃mA,h.Ns1 a mA/\∀f,xV (fs.lookup f) (mA f)
 | .rng lo hi=>∃t u v,h.get? a=some { cls:=.type "range",data:=.fields [.int lo t,.int hi u,.int 1 v].toArray }
 | .frz o u=>h.get? a=some o/\cT H h a u
 | .tbl ps=>h.get? a=some { cls:=.none,data:=.fields ps }
 | .met f x=>h.get? a=some (adu (.ref f) (.ref x))
 | .ext φ=>φ h/\(∃o,h.get? a=some o)/\∀h1 h2:Heap,φ h1->(∀o,h1.get? a=some o->h2.get? a=some o)->φ h2
noncomputable def HOk(H:Hp)(h:Heap):Prop:=∀a o,H a=some o->cT P w H h a o
end
section
variable{P:aK}{w:World}{H H':Hp}{h h':Heap}{a:Addr}{o:HO}
theorem cT.lt(x:cT P w H h a o):a<h.objs.size:=by
 cases o with
 |lst xs=>obtain⟨_,_,_,_,e⟩:=x;exact bQ e
 |tup xs=>obtain⟨_,_,_,p⟩:=x;exact p.lt
 |dK kvs=>obtain⟨_,_,_,_,o,_,_,e,_⟩:=x;exact bQ e
 |dT kvs=>obtain⟨_,_,_,_,o,_,_,e,_⟩:=x;exact bQ e
 |set S n=>obtain⟨o,_,_,_,e,_⟩:=x;exact bQ e
 |ins C dx fs=>obtain⟨_,_,_,e,_⟩:=x;exact bQ e
 |own y=>obtain⟨_,e⟩:=x;exact bQ e
 |xd fs=>obtain⟨_,⟨_,_,_,e,_⟩,_⟩:=x;exact bQ e
 |rng lo hi=>obtain⟨_,_,_,e⟩:=x;exact bQ e
 |frz ob u=>obtain⟨e,_⟩:=x;exact bQ e
 |tbl ps=>exact bQ (show h.get? a=some _ from x)
 |met f y=>exact bQ (show h.get? a=some _ from x)
 |ext φ=>obtain⟨_,⟨_,e⟩,_⟩:=x;exact bQ e
theorem Paired.mapP:∀{l₁:List α}{l₂:List β},Paired F l₁ l₂->(∀a b,F a b->G a b)->Paired G l₁ l₂
 |_,_,.nil,_=>.nil
 |_,_,.cons r t,f=>.cons (f _ _ r) (Paired.mapP t f)
theorem cT.stay(x:cT P w H h a o)(k:∀b u,(b=a\/H b=some (.own a))->h.get? b=some u->h'.get? b=some u)
  (ho:∀b,H b=some (.own a)->H' b=some (.own a)) (ht:∀b xs,H b=some (.tup xs)->H' b=some (.tup xs)):cT P w H' h' a o:=by
 induction o with
 |lst xs=>obtain⟨z,its,n,r,e⟩:=x;show#[z,its,n,r,k _ _ (.inl rfl) e]
 |tup xs=>obtain⟨z,its,r,ob,e,c⟩:=x;show#[z,its,r,ob,k _ _ (.inl rfl) e,c]
 |dK kvs=>obtain⟨z,y,vs,r,ob,es,ep,e,c⟩:=x;show#[z,y,vs,r,ob,es,ep,k _ _ (.inl rfl) e,c]
 |dT kvs =>
  obtain⟨z,y,xs,r,ob,es,ep,e,c⟩:=x;show#[z,y,xs,Paired.mapP r fun p q z=>#[z.1,ht _ _ z.2.1,z.2.2],ob,es,ep,k _ _ (.inl rfl) e,c]
 |set S n=>obtain⟨ob,es,ep,t,e,c⟩:=x;show#[ob,es,ep,t,k _ _ (.inl rfl) e,c]
 |ins C dx fs =>
  obtain⟨d,z,ne,e,mA,⟨od,es,ep,e2,c⟩,r⟩:=x;show#[ho _ d,z,ne,k _ _ (.inl rfl) e,mA,#[od,es,ep,k _ _ (.inr d) e2,c],r]
 |own y=>obtain⟨ob,e⟩:=x;show#[ob,k _ _ (.inl rfl) e]
 |xd fs=>obtain⟨mA,⟨od,es,ep,e,c⟩,r⟩:=x;show#[mA,#[od,es,ep,k _ _ (.inl rfl) e,c],r]
 |rng lo hi=>obtain⟨t,u,v,e⟩:=x;show#[t,u,v,k _ _ (.inl rfl) e]
 |frz ob u ih=>obtain⟨e,q⟩:=x;show#[k _ _ (.inl rfl) e,ih q]
 |tbl ps =>
  have e:h.get? a=some { cls:=.none,data:=.fields ps }:=x;show h'.get? a=some { cls:=.none,data:=.fields ps };exact k a _ (.inl rfl) e
 |met f y =>
  have e:h.get? a=some (adu (.ref f) (.ref y)):=x;show h'.get? a=some (adu (.ref f) (.ref y));exact k a _ (.inl rfl) e
 |ext φ=>obtain⟨p,⟨o,e⟩,st⟩:=x;show#[st _ _ p fun o q=>k _ _ (.inl rfl) q,#[o,k _ _ (.inl rfl) e],st]
theorem HOk.lt(x:HOk P w H h)(e:H a=some o):a<h.objs.size:=(x a o e).lt
theorem HOk.fresh(x:HOk P w H h)(e:h.objs.size<=a):H a=none:=by
 cases q:H a with
 |none=>rfl
 |some u=>exact mI (cY (x.lt q) e) (q9 _)
theorem HOk.kept(x:HOk P w H h)(k:∀b u,h.get? b=some u->h'.get? b=some u):HOk P w H h':=fun a o e =>
 (x a o e).stay (fun b u _ q=>k b u q) (fun _ q=>q) fun _ _ q=>q
theorem HOk.laid(x:HOk P w H h)(k:∀b u,h.get? b=some u->h'.get? b=some u)(hp:h.objs.size<=a)(new:cT P w (upd H a o) h' a o):HOk P w (upd H a o) h':=fun b u e=>by
 have hn:=x.fresh hp;by_cases hb:b=a
 ·subst hb;rw[aj]at e;cases e;exact new
 ·rw[ao hb]at e;exact(x b u e).stay (fun c v _ q=>k c v q) (fun c q=>by rwa[ao (ak q hn)]) fun c xs q=>by rwa[ao (ak q hn)]
end
noncomputable def Rd(H:Hp)(a:Addr)(u:HO):Prop:=H a=some u\/∃o,H a=some (.frz o u)
theorem Rd.ok{P:aK}(r:Rd H a u)(x:HOk P w H h):cT P w H h a u:=by
 rcases r with r|⟨o,r⟩
 ·exact x a u r
 ·obtain⟨_,q⟩:=x a _ r;exact q
noncomputable def Mut:Option HO->Prop
 |some (.lst _)=>True
 |some (.dK _)=>True
 |some (.dT _)=>True
 |some (.set _ _)=>True
 |some (.ins _ _ _)=>True
 |some (.ext _)=>True
 |_=>False
section
variable{P:aK}{h h':Heap}
theorem HOk.write(ok:HOk P w H h)(mu:Mut (H x))(he:e=x\/H e=some (.own x))(k:∀b u,b≠e->h.get? b=some u->h'.get? b=some u)(heo:∃u,h'.get? e=some u)
  (new:cT P w (upd H x o') h' x o'):HOk P w (upd H x o') h':=fun b u q=>by
 have nown:∀c y,H c=some (.own y)->c≠x:=fun c y r z=>by subst z;rwa[r]at mu
 have ntup:∀c xs,H c=some (.tup xs)->c≠x:=fun c xs r z=>by subst z;rwa[r]at mu
 by_cases hb:b=x
 ·subst hb;rw[aj]at q;cases q;exact new
 ·rw[ao hb]at q;by_cases hbe:b=e
  ·have q':H b=some (.own x):=by
    rcases he with z|z
    ·exact mI (hbe.trans z) hb
    ·rwa[hbe]
   rw[q]at q';cases q';obtain⟨v,hv⟩:=heo;show#[v,by rwa[hbe]]
  ·refine(ok b u q).stay (fun c v hc r=>k c v ?_ r) (fun c r=>by rwa[ao (nown c b r)]) fun c xs r=>by rwa[ao (ntup c xs r)]
   rcases hc with rfl|hc
   ·exact hbe
   ·rintro rfl;rcases he with z|z
    ·exact nown c b hc z
    ·rw[hc]at z;cases z;exact hb rfl
end
structure Un(fs ex:List Addr)(H H':Hp)(h h':Heap):Prop where
 keep:∀b o,h.get? b=some o->H b=none->b∉fs->b∉ex->h'.get? b=some o
 slot:∀b o,h.get? b=some o->H b=none->b∈fs->b∉ex->∃sl,h'.get? b=some { o with slots:=sl }
 free:∀b o,h.get? b=some o->H b=none->b∉ex->H' b=none
 there:∀b o,h.get? b=some o->b∉ex->∃o',h'.get? b=some o'
 tups:∀b xs,H b=some (.tup xs)->H' b=some (.tup xs)
 J9:∀b o u,H b=some (.frz o u)->H' b=some (.frz o u)
 Ra:∀b ps,H b=some (.tbl ps)->∃more,H' b=some (.tbl (ps++more))
section
variable{fs fs' ex ex':List Addr}{H H1 H2:Hp}{h h1 h2 h':Heap}{a x e:Addr}{o:HO}
theorem Un.any(u:Un fs ex H H1 h h1){b:Addr}{ob:Obj}(q:h.get? b=some ob)(n:H b=none)(hx:b∉ex):∃sl,h1.get? b=some { ob with slots:=sl }:=by
 by_cases hb:b∈fs
 ·exact u.slot b ob q n hb hx
 ·show#[ob.slots,u.keep b ob q n hb hx]
theorem Un.kept(k:∀b u,h.get? b=some u->h'.get? b=some u):Un fs ex H H h h':=
 #[fun b ob q _ _ _=>k b ob q,fun b ob q _ _ _=>#[ob.slots,k b ob q],fun _ _ _ n _=>n,fun b ob q _=>#[ob,k b ob q],fun _ _ q=>q,fun _ _ _ q=>q,fun _ ps q=>#[#[],by rw[q];simp]]
theorem Un.refl:Un fs ex H H h h:=Un.kept fun _ _ q=>q
theorem Un.laid(k:∀b u,h.get? b=some u->h'.get? b=some u)(hp:h.objs.size<=a)(hn:H a=none):Un fs ex H (upd H a o) h h' where
 keep:=fun b u q _ _ _=>k b u q
 slot:=fun b u q _ _ _=>#[u.slots,k b u q]
 free:=fun b u q n _=>by rwa[ao (cF (cY (bQ q) hp))]
 there:=fun b u q _=>#[u,k b u q]
 tups:=fun b xs q=>by rwa[ao (ak q hn)]
 J9:=fun b u xs q=>by rwa[ao (ak q hn)]
 Ra:=fun b ps q=>#[#[],by rw[ao (ak q hn),q];simp]
theorem Un.write(mu:Mut (H x))(he:e=x\/H e=some (.own x))(k:∀b u,b≠e->h.get? b=some u->h'.get? b=some u)(heo:∃u,h'.get? e=some u):Un fs ex H (upd H x o) h h':=by
 have hx:∀b,H b=none->b≠x:=fun b n z=>by subst z;rwa[n]at mu
 have hb:∀b,H b=none->b≠e:=fun b n z=>by
  subst z;rcases he with r|r
  ·exact hx b n r
  ·rw[n]at r;cases r
 have hm:∀b u,H b=some u->¬ Mut (some u)->b≠x:=fun b u q nm z=>by subst z;rw[q]at mu;exact nm mu
 show#[fun b u q n _ _=>k b u (hb b n) q,fun b u q n _ _=>#[u.slots,k b u (hb b n) q],fun b u q n _=>by rw [ao (hx b n)];exact n,fun b u q _=>?_,
  fun b xs q=>by rw [ao (hm b _ q fun z=>z)];exact q,fun b u xs q=>by rw [ao (hm b _ q fun z=>z)];exact q,fun b ps q=>#[#[],by rw [ao (hm b _ q fun z=>z),q];simp]]
 by_cases hbe:b=e
 ·subst hbe;exact heo
 ·show#[u,k b u hbe q]
end
noncomputable def trk(h:Heap)(H:Hp):List Addr:=(jG h.objs.size).filter fun a=>(H a).isSome
noncomputable def Zq(h:Heap)(H:Hp):Heap:=PySem.W.hideAll h (trk h H)
theorem ahJ(h:Heap)(H:Hp):(Zq h H).objs.size=h.objs.size:=PySem.W.hideAll_size _ _
theorem ami{h:Heap}(e:h.get? b=some o)(n:H b=none):(Zq h H).get? b=some o:=
 PySem.W.hideAll_get _ e fun hm=>by
  have q:(H b).isSome=true:=(jA.mp hm).2;rw[n]at q;simp at q
theorem apw(e:(Zq h H).get? b=some o):h.get? b=some o/\H b=none:=by
 have e':h.get? b=some o:=PySem.W.of_hideAll (trk h H) e;show#[e',?_];cases q:H b with
 |none=>rfl
 |some x =>
  have hm:b∈trk h H:=jA.mpr #[CQ.mpr (bQ e'),by simp[q]];have z:(Zq h H).get? b=none:=PySem.W.hideAll_none (trk h H) hm;rw[z]at e;cases e
noncomputable def apx(g h:Heap)(L:Addr):List (Addr × Obj):=(jG h.objs.size).filterMap fun a=>if a=L\/(g.get? a).isSome=true then none else(h.get? a).map fun o=>(a,o)
noncomputable def rest(g h:Heap)(L d:Addr):List (Addr × Obj):=(apx g h L).filter fun p=>decide (p.1≠d)
structure Mod(K:aH)(mg:Str->Option Value)(base:Heap):Prop where
 kin:K.In base
 glob:base.Ns eE mg
 blt:∃mb,base.Ns adK mb/\∀x:Str,x ≠ "__name__" -> mb x=Dd x
 nolimit:base.NoLimit
structure Cx where
 prog:aK
 w:World
 K:aH
 mg:Str->Option Value
 base:Heap
 A:aY
 N:List Str
 s₀:Shared
 H₀:Hp
 env:Env
 outer:List Env
 stack:List Env
 ex:List Addr
 fn:Str->Bool
 calm:Bool
 pn:List (Addr × Obj)
 xe:Value->Shared->Prop
noncomputable def frs(l:List Env):List Addr:=l.filterMap (·.frame)
noncomputable abbrev Cx.fs(X:Cx):List Addr:=frs X.outer
noncomputable def Vis(sc:Scope)(x:Str):Prop:=sc.names.lookup x=some .local\/sc.names.lookup x=some .cell\/sc.names.lookup x=some .free
noncomputable def Loc(sc:Scope)(x:Str):Prop:=sc.names.lookup x=some .local\/sc.names.lookup x=some .cell
noncomputable def Look(env:Env)(h:Heap)(m:Str->Option Value)(x:Str)(u:Value):Prop:=
 (env.kindOf x=some .local/\m x=some u)\/((env.kindOf x=some .cell\/env.kindOf x=some .free)/\∃c,env.cells.lookup x=some c/\h.IsCell c (some u))
structure Cx.Ok(X:Cx):Prop where
 mod:Mod X.K X.mg X.base
 kind:X.env.scope.kind=.function
 glob:X.env.globals=eE
 blt:X.env.builtins=adK
 above:X.s₀.heap.objs.size<=X.env.locals
 inj:∀x y c,X.env.cells.lookup x=some c->X.env.cells.lookup y=some c->x=y
 has:∀x,(X.env.kindOf x=some .cell\/X.env.kindOf x=some .free)->∃c,X.env.cells.lookup x=some c
 cab:∀x c,X.fn x=true->X.env.cells.lookup x=some c->X.s₀.heap.objs.size<=c
 hd:X.calm=true->X.A.handled=none
 frames:X.A.frames=some X.stack
 stk:X.stack=X.outer\/(X.stack=X.env::X.outer/\X.env.frame=some X.env.locals)
 exf:∀b∈X.ex,b≠X.env.locals/\∀x c,X.env.cells.lookup x=some c->c≠b
 bs:∀b o,X.base.get? b=some o->X.s₀.heap.get? b=some o/\X.H₀ b=none
 bsz:X.base.objs.size<=X.s₀.heap.objs.size
 amj:∀b o,X.base.get? b=some o->b∉X.ex
 exfs:∀b∈X.ex,b∉X.fs
 Ka:X.s₀.heap.FunFrames X.base X.outer
 frf:∀b∈X.fs,X.H₀ b=none
structure Inv(X:Cx)(pins:List (Addr × Obj))(σ:List (Option V))(H:Hp)(s:Shared):Prop where
 ok:X.Ok
 os:s.os=X.s₀.os
 bare:yP s.gens
 base:Un X.fs X.ex X.H₀ H X.s₀.heap s.heap
 loc:∃m,s.heap.Ns X.env.locals m/\∀(i:Nat)(x:Str)(v:V),X.N[i]? = some x->σ[i]? = some (some v)->Vis X.env.scope x->∃u,RelV v u/\Look X.env s.heap m x u
 cell:∀x c,X.env.cells.lookup x=some c->∃v,s.heap.IsCell c v
 free:H X.env.locals=none
 wO:∀x c,X.env.cells.lookup x=some c->H c=none
 pin:∀p∈X.pn++pins,s⁻¹ p.1=some p.2/\H p.1=none/\p.1≠X.env.locals/\p.1∉X.fs/\∀v,p.2.data≠.cell v
 hok:HOk X.prog X.w H s.heap
 len:σ.length=X.N.length
section
variable{X:Cx}{pins:List (Addr × Obj)}{σ:List (Option V)}{H H':Hp}{s:Shared}{h':Heap}
theorem Cx.Ok.nofr(ok:X.Ok){b:Addr}{o:Obj}(e:X.base.get? b=some o):b∉X.fs:=fun hb=>by
 have:=(ok.Ka.mem hb).1;rw[e]at this;cases this
theorem Inv.bs(I:Inv X pins σ H s):∀b o,X.base.get? b=some o->s⁻¹ b=some o/\H b=none:=fun b o e =>
 #[I.base.keep b o (I.ok.bs b o e).1 (I.ok.bs b o e).2 (I.ok.nofr e) (I.ok.amj b o e),I.base.free b o (I.ok.bs b o e).1 (I.ok.bs b o e).2 (I.ok.amj b o e)]
theorem Inv.bk(I:Inv X pins σ H s):∀b o,X.base.get? b=some o->s⁻¹ b=some o:=fun b o e=>(I.bs b o e).1
theorem Inv.mod(I:Inv X pins σ H s):Mod X.K X.mg X.base:=I.ok.mod
theorem Inv.kIn(I:Inv X pins σ H s):X.K.In s.heap:=I.ok.mod.kin.keeps I.bk
theorem Inv.nolimit(I:Inv X pins σ H s):s.heap.NoLimit:=I.ok.mod.nolimit.keeps I.bk
theorem Inv.lt(I:Inv X pins σ H s):X.env.locals< ~~~s:=let ⟨_,hn,_⟩:=I.loc;hn.lt
theorem Inv.sz(I:Inv X pins σ H s):X.s₀.heap.objs.size<= ~~~s:=cH I.ok.above (eF I.lt)
theorem Inv.nofs(I:Inv X pins σ H s){a:Addr}(h: ~~~s<=a):a∉X.fs:=fun hb=>by
 obtain⟨_,o,ho,_⟩:=I.ok.Ka.mem hb;exact mI (cY (bQ ho) (cH I.sz h)) (q9 _)
theorem Inv.cne(I:Inv X pins σ H s):∀x c,X.env.cells.lookup x=some c->c≠X.env.locals:=fun x c e z=>by
 obtain⟨v,o,ho,hd⟩:=I.cell x c e;obtain⟨m,⟨o',es,ep,ho',hd',_⟩,_⟩:=I.loc;rw[z,ho']at ho;cases ho;rw[hd']at hd;cases hd
theorem Inv.Ka(I:Inv X pins σ H s):s.heap.FunFrames X.base X.outer:=by
 have all:∀(l:List Env),(∀b∈frs l,b∈X.fs)->X.s₀.heap.FunFrames X.base l->s.heap.FunFrames X.base l:=by
  intro l
  induction l with
  |nil=>intro _ _;trivial
  |cons env r ih =>
   intro hs hl;obtain⟨hk,⟨L,o,hf,hn,ho,hd⟩,hr⟩:=hl;have hL:L∈X.fs:=hs L (by unfold frs;rw[yc,hf];exact cJ);obtain⟨sl,e⟩:=I.base.slot L o ho (I.ok.frf L hL) hL fun z=>I.ok.exfs L z hL;show#[hk,#[L,_,hf,hn,e,hd],ih (fun b hb=>hs b (by unfold frs;rw[yc,hf];exact cV _ hb)) hr]
 exact all X.outer (fun _ hb=>hb) I.ok.Ka
theorem Inv.stack(I:Inv X pins σ H s):s.heap.FunFrames X.base X.stack:=by
 rcases I.ok.stk with e|⟨e,hf⟩
 ·rw[e];exact I.Ka
 ·rw[e];obtain⟨m,hn,_⟩:=I.loc;refine .cons (by rw[I.ok.kind];decide) hf hn ?_ I.Ka;exact Heap.get?_none_of_le (cH I.ok.bsz I.ok.above)
theorem Inv.Zr(I:Inv X pins σ H s):∀b∈frs X.stack,b∈X.env.locals::X.fs:=fun b hb=>by
 rcases I.ok.stk with e|⟨e,hf⟩
 ·rw[e]at hb;exact cV _ hb
 ·rw[e]at hb;unfold frs at hb;rwa[yc,hf]at hb
theorem Inv.agt(I:Inv X pins σ H s):∀b∈frs X.stack,H b=none:=fun b hb=>by
 rcases aX.mp (I.Zr b hb)with e|hb
 ·rw[e];exact I.free
 ·obtain⟨_,o,ho,_⟩:=I.ok.Ka.mem hb;exact I.base.free b o ho (I.ok.frf b hb) fun z=>I.ok.exfs b z hb
theorem Inv.step{g':Array GenState}{t':Nat}{d':Drawn}{ch:List Addr}(I:Inv X pins σ H s)
  (hch:∀b∈ch,(b∈X.ex\/X.s₀.heap.objs.size<=b)/\b≠X.env.locals/\(∀x c,X.env.cells.lookup x=some c->c≠b)/\∀p∈X.pn++pins,p.1≠b)
  (keep:∀b o,b≠X.env.locals->b∉X.fs->b∉ch->s⁻¹ b=some o->H b=none->h'.get? b=some o)
  (slot:∀b o,b≠X.env.locals->b∈X.fs->b∉ch->s⁻¹ b=some o->H b=none->∃sl,h'.get? b=some { o with slots:=sl }) (free:∀b o,b∉ch->s⁻¹ b=some o->H b=none->H' b=none)
  (there:∀b o,b∉ch->s⁻¹ b=some o->∃o',h'.get? b=some o')
  (tups:∀b xs,H b=some (.tup xs)->H' b=some (.tup xs)) (J9:∀b o u,H b=some (.frz o u)->H' b=some (.frz o u)) (Ra:∀b ps,H b=some (.tbl ps)->∃more,H' b=some (.tbl (ps++more)))
  (ns:∀m,s.heap.Ns X.env.locals m->h'.Ns X.env.locals m) (hok:HOk X.prog X.w H' h') (hg:yP g'):
  Inv X pins σ H' { s with heap:=h',gens:=g',drawn:=d',toks:=t' }:=by
 have neL:∀b o,X.s₀.heap.get? b=some o->b≠X.env.locals:=fun b o e=>cF (cY (bQ e) I.ok.above);have neC:∀b o,X.s₀.heap.get? b=some o->b∉X.ex->b∉ch:=fun b o e hx hb=>by
  rcases(hch b hb).1 with z|z
  ·exact hx z
  ·exact mI (cY (bQ e) z) (q9 _)
 have cellK:∀x c,X.env.cells.lookup x=some c->∀v,s.heap.IsCell c v->h'.IsCell c v:=fun x c e v ⟨o,ho,hd⟩=>by
  have nch:c∉ch:=fun z=>(hch c z).2.2.1 x c e rfl;by_cases hc:c∈X.fs
  ·obtain⟨sl,q⟩:=slot c o (I.cne x c e) hc nch ho (I.wO x c e);show#[_,q,hd]
  ·show#[o,keep c o (I.cne x c e) hc nch ho (I.wO x c e),hd]
 show#[I.ok,I.os,hg,#[fun b o e n hb hx=>?_,fun b o e n hb hx=>?_,fun b o e n hx=>?_,fun b o e hx=>?_,fun b xs e=>tups b xs (I.base.tups b xs e),fun b o xs e=>J9 b o xs (I.base.J9 b o xs e),fun b ps e=>?_],?_,fun x c e=>?_,?_,fun x c e=>?_,fun p hp=>?_,hok,I.len]
 ·exact keep b o (neL b o e) hb (neC b o e hx) (I.base.keep b o e n hb hx) (I.base.free b o e n hx)
 ·obtain⟨sl,e1⟩:=I.base.slot b o e n hb hx;obtain⟨sl',e2⟩:=slot b _ (neL b o e) hb (neC b o e hx) e1 (I.base.free b o e n hx);show#[sl',e2]
 ·obtain⟨o',e1⟩:=I.base.there b o e hx;exact free b o' (neC b o e hx) e1 (I.base.free b o e n hx)
 ·obtain⟨o',e1⟩:=I.base.there b o e hx;exact there b o' (neC b o e hx) e1
 ·obtain⟨m1,e1⟩:=I.base.Ra b ps e;obtain⟨m2,e2⟩:=Ra b _ e1;show#[m1++m2,by rw[e2,Array.append_assoc]]
 ·obtain⟨m,hn,hl⟩:=I.loc;show#[m,ns m hn,fun i x v e1 e2 e3=>?_];obtain⟨u,r,l⟩:=hl i x v e1 e2 e3;show#[u,r,?_];rcases l with l|⟨k,c,e,z⟩
  ·exact .inl l
  ·exact .inr #[k,c,e,cellK x c e _ z]
 ·obtain⟨v,z⟩:=I.cell x c e;show#[v,cellK x c e v z]
 ·obtain⟨m,⟨o,_,_,ho,_⟩,_⟩:=I.loc;exact free _ o (fun z=>(hch _ z).2.1 rfl) ho I.free
 ·obtain⟨v,o,ho,hd⟩:=I.cell x c e;exact free c o (fun z=>(hch c z).2.2.1 x c e rfl) ho (I.wO x c e)
 ·obtain⟨e,n,ne,nf,d⟩:=I.pin p hp;have nch:p.1∉ch:=fun z=>(hch p.1 z).2.2.2 p hp rfl;show#[keep p.1 p.2 ne nf nch e n,free p.1 p.2 nch e n,ne,nf,d]
theorem Inv.un(I:Inv X pins σ H s)(u:Un X.fs [] H H' s.heap h')(hok:HOk X.prog X.w H' h'):Inv X pins σ H' { s with heap:=h',toks:=t' }:=by
 obtain ⟨m,⟨o,es,ep,ho,r⟩,_⟩:=id I.loc;obtain ⟨sl,hL⟩:=u.any ho I.free (by simp);exact I.step (g':=s.gens) (d':=s.drawn) (ch:=[]) (fun _ z=>nomatch z) (fun b o _ hb _ e n=>u.keep b o e n hb (by simp)) (fun b o _ hb _ e n=>u.slot b o e n hb (by simp)) (fun b o _ e n=>u.free b o e n (by simp)) (fun b o _ e=>u.there b o e (by simp)) u.tups u.J9 u.Ra (fun m' hm=>by
  obtain ⟨o',es',ep',ho',r'⟩:=hm;rw [ho] at ho';cases ho';show#[_,es',ep',hL,r']) hok I.bare
theorem Inv.call(I:Inv X pins σ H s)(u:Un (frs X.stack) ch H H' s.heap h')(hok:HOk X.prog X.w H' h')(hg:yP g')
  (hch:∀b∈ch,(b∈X.ex\/X.s₀.heap.objs.size<=b)/\b≠X.env.locals/\(∀x c,X.env.cells.lookup x=some c->c≠b)/\∀p∈X.pn++pins,p.1≠b):
  Inv X pins σ H' { s with heap:=h',gens:=g',drawn:=d',toks:=t' }:=by
 obtain ⟨m,⟨o,es,ep,ho,r⟩,_⟩:=id I.loc;obtain ⟨sl,hL⟩:=u.any ho I.free fun z=>(hch _ z).2.1 rfl;exact I.step (ch:=ch) hch (fun b o hL hb hc e n=>u.keep b o e n (fun z=>(aX.mp (I.Zr b z)).elim hL hb) hc) (fun b o _ _ hc e n=>u.any e n hc) (fun b o hc e n=>u.free b o e n hc) (fun b o hc e=>u.there b o e hc) u.tups u.J9 u.Ra (fun m' hm=>by
  obtain ⟨o',es',ep',ho',r'⟩:=hm;rw [ho] at ho';cases ho';show#[_,es',ep',hL,r']) hok hg
theorem Inv.turned(I:Inv X pins σ H s)(k:∀b o,b≠it->s⁻¹ b=some o->h'.get? b=some o)(hn:H it=none)(hL:it≠X.env.locals)
  (h1:it∈X.ex\/X.s₀.heap.objs.size<=it) (h2:∀x c,X.env.cells.lookup x=some c->c≠it) (h3:∀p∈X.pn++pins,p.1≠it):Inv X pins σ H { s with heap:=h',toks:=t' }:=by
 have nit:∀b u,H b=some u->b≠it:=fun b u e z=>by rw[z,hn]at e;cases e
 refine I.step (g':=s.gens) (d':=s.drawn) (ch:=[it]) (fun b hb=>?_) (fun b o _ _ hc e _=>k b o (fun z=>hc (by simp[z])) e) (fun b o _ _ hc e _=>#[o.slots,k b o (fun z=>hc (by simp[z])) e]) (fun _ _ _ _ n=>n)
  (fun b o hc e=>#[o,k b o (fun z=>hc (by simp[z])) e]) (fun _ _ e=>e) (fun _ _ _ e=>e) (fun b ps e=>#[#[],by rw[e];simp]) (fun m hm=>?_) (fun b u e=>?_) I.bare
 ·have e:b=it:=by simpa using hb
  subst e;show#[h1,hL,h2,h3]
 ·obtain⟨o,es,ep,ho,r⟩:=hm;show#[o,es,ep,k _ o (aG hL) ho,r]
 ·refine(I.hok b u e).stay (fun c v hc q=>k c v ?_ q) (fun _ q=>q) fun _ _ q=>q;rcases hc with z|z
  ·rw[z];exact nit b u e
  ·exact nit c _ z
theorem Inv.tok(I:Inv X pins σ H s)(t:Nat):Inv X pins σ H { s with toks:=t }:=I.un (h':=s.heap) (t':=t) Un.refl I.hok
theorem Inv.kept(I:Inv X pins σ H s)(k:∀b u,s⁻¹ b=some u->h'.get? b=some u):Inv X pins σ H { s with heap:=h',toks:=t' }:=I.un (Un.kept k) (I.hok.kept k)
theorem Inv.laid{a:Addr}{o:HO}{t':Nat}(I:Inv X pins σ H s)(k:∀b u,s⁻¹ b=some u->h'.get? b=some u)(hp: ~~~s<=a)(new:cT X.prog X.w (upd H a o) h' a o):
  Inv X pins σ (upd H a o) { s with heap:=h',toks:=t' }:=I.un (Un.laid k hp (I.hok.fresh hp)) (I.hok.laid k hp new)
theorem Inv.write(I:Inv X pins σ H s)(mu:Mut (H x))(he:e=x\/H e=some (.own x))(k:∀b u,b≠e->s⁻¹ b=some u->h'.get? b=some u)(heo:∃u,h'.get? e=some u)
  (new:cT X.prog X.w (upd H x o) h' x o):Inv X pins σ (upd H x o) { s with heap:=h',toks:=t' }:=I.un (Un.write mu he k heo) (I.hok.write mu he k heo new)
theorem Inv.agu(I:Inv X pins σ H s)(h:∀p∈agv,s⁻¹ p.1=some p.2/\H p.1=none/\p.1≠X.env.locals/\p.1∉X.fs/\∀v,p.2.data≠.cell v):Inv X agv σ H s:=
 #[I.ok,I.os,I.bare,I.base,I.loc,I.cell,I.free,I.wO,fun p hp=>(bO.mp hp).elim (fun z=>I.pin p (Xw _ z)) (h p),I.hok,I.len]
theorem abg{N:List Str}(hN:N.Nodup){i j:Nat}{x:Str}(a:N[i]? = some x)(b:N[j]? = some x):i=j:=by
 obtain⟨h1,e1⟩:=dh.mp a;obtain⟨h2,e2⟩:=dh.mp b;exact(List.getElem_inj hN).mp (e1.trans e2.symm)
theorem Wq{M:Model}(I:Inv X pins σ H s)(hN:X.N.Nodup)(hi:X.N[i]? = some x)(hx:Loc X.env.scope x)(r:RelV v u)
  (h:∀s',Inv X pins (σ.set i (some v)) H s'->(∃a,yJ a s.heap s'.heap/\(a=X.env.locals\/X.env.cells.lookup x=some a))->Q () s') (hf:X.fn x=true\/X.env.scope.names.lookup x=some .local:=by first|exact .inl rfl|exact .inr rfl|assumption):wpAny M A (adM X.env x u) Q E s:=by
 obtain⟨m,hn,hl⟩:=id I.loc;have hcls:(X.env.scope.kind == .class || (X.env.scope.kind == .module && X.env.locals != X.env.globals))=false:=by rw[I.ok.kind];rfl
 have hiσ:i<σ.length:=by rw[I.len];exact(dh.mp hi).1
 have cne:=I.cne;have tracked:∀{a:Addr}{h':Heap},(∃o,s⁻¹ a=some o/\H a=none)->yJ a s.heap h'->HOk X.prog X.w H h':=fun {a h'} ha hs b ob e=>by
  obtain⟨_,_,hfree⟩:=ha;refine(I.hok b ob e).stay (fun c w' hc q=>(hs.2 c ?_).trans q) (fun _ q=>q) fun _ _ q=>q;rintro rfl;rcases hc with rfl|hc
  ·rw[hfree]at e;cases e
  ·rw[hfree]at hc;cases hc
 rcases hx with hk|hk
 ·refine wpAny_storeName_local hk hn (fun h' hn' hs=>?_) hcls;obtain⟨oL,_,_,hoL,_⟩:=id hn;refine h _ #[I.ok,I.os,I.bare,#[fun b o e n hb hx=>?_,fun b o e n hb hx=>?_,I.base.free,fun b o e hx=>?_,I.base.tups,I.base.J9,I.base.Ra],#[_,hn',fun j y v' e1 e2 e3=>?_],fun y c e=>?_,I.free,I.wO,fun p hp=>?_,tracked #[oL,hoL,I.free] hs,by simpa using I.len] #[_,hs,.inl rfl]
  ·exact(hs.2 b (cF (cY (bQ e) I.ok.above))).trans (I.base.keep b o e n hb hx)
  ·obtain⟨sl,e1⟩:=I.base.slot b o e n hb hx;show#[sl,(hs.2 b (cF (cY (bQ e) I.ok.above))).trans e1]
  ·obtain⟨o',e1⟩:=I.base.there b o e hx;show#[o',(hs.2 b (cF (cY (bQ e) I.ok.above))).trans e1]
  ·by_cases hj:j=i
   ·subst hj;rw[hi]at e1;cases e1;rw[Xv hiσ]at e2;cases e2;show#[u,r,.inl #[hk,by simp]]
   ·rw[Jm (aG hj)]at e2;obtain⟨u',r',q⟩:=hl j y v' e1 e2 e3;show#[u',r',?_];rcases q with⟨k,e⟩|⟨k,c,e,z⟩
    ·refine .inl #[k,?_];have:y≠x:=fun e=>hj (abg hN e1 (e ▸ hi));simp[this,e]
    ·exact .inr #[k,c,e,z.sameBut hs (cne y c e)]
  ·obtain⟨w',z⟩:=I.cell y c e;show#[w',z.sameBut hs (cne y c e)]
  ·obtain⟨e,n,ne,nf,d⟩:=I.pin p hp;show#[(hs.2 p.1 ne).trans e,n,ne,nf,d]
 ·have hfn:X.fn x=true:=by
   rcases hf with z|z
   ·exact z
   ·rw[z]at hk;cases hk
  obtain⟨c,hc⟩:=I.ok.has x (.inl hk);obtain⟨w',z⟩:=I.cell x c hc;refine wpAny_storeName_cell I.ok.kind hk hc z (fun h' hc' hs=>?_);obtain⟨oc,hoc,hocd⟩:=id z;refine h { s with heap:=h' } #[I.ok,I.os,I.bare,#[fun b o e n hb hx=>?_,fun b o e n hb hx=>?_,I.base.free,fun b o e hx=>?_,I.base.tups,I.base.J9,I.base.Ra],#[m,hn.sameBut hs (aG (cne x c hc)),fun j y v' e1 e2 e3=>?_],fun y c' e=>?_,I.free,I.wO,fun p hp=>?_,tracked #[oc,hoc,I.wO x c hc] hs,by simpa using I.len] #[c,hs,.inr hc]
  ·exact(hs.2 b (cF (cY (bQ e) (I.ok.cab x c hfn hc)))).trans (I.base.keep b o e n hb hx)
  ·obtain⟨sl,e1⟩:=I.base.slot b o e n hb hx;show#[sl,(hs.2 b (cF (cY (bQ e) (I.ok.cab x c hfn hc)))).trans e1]
  ·obtain⟨o',e1⟩:=I.base.there b o e hx;show#[o',(hs.2 b (cF (cY (bQ e) (I.ok.cab x c hfn hc)))).trans e1]
  ·by_cases hj:j=i
   ·subst hj;rw[hi]at e1;cases e1;rw[Xv hiσ]at e2;cases e2;show#[u,r,.inr #[.inl hk,c,hc,hc']]
   ·rw[Jm (aG hj)]at e2;obtain⟨u',r',q⟩:=hl j y v' e1 e2 e3;show#[u',r',?_];rcases q with q|⟨k,c',e,z'⟩
    ·exact .inl q
    ·refine .inr #[k,c',e,z'.sameBut hs ?_];rintro rfl;exact hj (abg hN e1 (I.ok.inj _ _ _ e hc ▸ hi))
  ·by_cases hcc:c'=c
   ·subst hcc;show#[_,hc']
   ·obtain⟨w2,z2⟩:=I.cell y c' e;show#[w2,z2.sameBut hs hcc]
  ·obtain⟨e,n,ne,nf,d⟩:=I.pin p hp;show#[(hs.2 p.1 ?_).trans e,n,ne,nf,d];intro q;rw[q,hoc]at e;have q':oc=p.2:=cA e;exact d w' (by rwa[<-q'])
theorem Rb{M:Model}(I:Inv X pins σ H s)(hN:X.N.Nodup)(hi:X.N[i]? = some x)(hx:Loc X.env.scope x)(r:RelV v u)
  (h:∀s',Inv X pins (σ.set i (some v)) H s'->Q () s') (hf:X.fn x=true\/X.env.scope.names.lookup x=some .local:=by first|exact .inl rfl|exact .inr rfl|assumption):wpAny M A (adM X.env x u) Q E s:=
 Wq I hN hi hx r (fun s' I' _=>h s' I') hf
end
noncomputable abbrev XK:=Value->Option Addr->Hp->Prop
noncomputable abbrev St:=List (Option V)
noncomputable abbrev VK:=V->Hp->Prop
noncomputable abbrev TE:=St->Hp->VK->Prop
noncomputable abbrev TT:=St->Hp->(Bool->Hp->Prop)->Prop
noncomputable abbrev TA:=St->Hp->(List V->Hp->Prop)->Prop
structure Ends where
 nx:St->Hp->Prop
 rt:VK
 bk:St->Hp->Prop:=fun _ _=>False
 ct:St->Hp->Prop:=fun _ _=>False
noncomputable abbrev TS:=Ends->St->Hp->Prop
noncomputable def EP(X:Cx)(pins:List (Addr × Obj))(σ:St)(Q:VK)(u:Value)(s':Shared):Prop:=∃v H',Inv X pins σ H' s'/\RelV v u/\Q v H'
noncomputable def TP(X:Cx)(pins:List (Addr × Obj))(σ:St)(Q:Bool->Hp->Prop)(b:Bool)(s':Shared):Prop:=∃H',Inv X pins σ H' s'/\Q b H'
noncomputable def AP(X:Cx)(pins:List (Addr × Obj))(σ:St)(Q:List V->Hp->Prop)(us:List Value)(s':Shared):Prop:=∃vs H',Inv X pins σ H' s'/\Vals vs us/\Q vs H'
noncomputable def SP(X:Cx)(pins:List (Addr × Obj))(D:Ends)(f:Flow)(s':Shared):Prop:=
 match f with
 | .next=>∃σ' H',Inv X pins σ' H' s'/\D.nx σ' H'
 | .brk=>∃σ' H',Inv X pins σ' H' s'/\D.bk σ' H'
 | .cont=>∃σ' H',Inv X pins σ' H' s'/\D.ct σ' H'
 | .ret u=>∃v σ' H',Inv X pins σ' H' s'/\RelV v u/\D.rt v H'
noncomputable def PE(X:Cx)(e:Expr)(t:TE):Prop:=
 ∀(pins:List (Addr × Obj)) (s:Shared) (σ:St) (H:Hp) (Q:VK),Inv X pins σ H s->t σ H Q->wpAny (model X.prog X.w) X.A (eval e X.env) (EP X pins σ Q) X.xe s
noncomputable def PT(X:Cx)(e:Expr)(t:TT):Prop:=
 ∀(pins:List (Addr × Obj)) (s:Shared) (σ:St) (H:Hp) (Q:Bool->Hp->Prop),Inv X pins σ H s->t σ H Q->wpAny (model X.prog X.w) X.A (Qt e X.env (eval e X.env)) (TP X pins σ Q) X.xe s
noncomputable def PW(X:Cx)(e:Expr)(t:TT):Prop:=
 ∀(whole:Sem Value) (pins:List (Addr × Obj)) (s:Shared) (σ:St) (H:Hp) (Q:Bool->Hp->Prop),Inv X pins σ H s->t σ H Q->wpAny (model X.prog X.w) X.A (Qt e X.env whole) (TP X pins σ Q) X.xe s
theorem PW.pt(h:PW X e t):PT X e t:=h _
noncomputable def PA(X:Cx)(es:List Expr)(t:TA):Prop:=
 ∀(pos:Pos) (pins:List (Addr × Obj)) (s:Shared) (σ:St) (H:Hp) (Q:List V->Hp->Prop),Inv X pins σ H s->t σ H Q->wpAny (model X.prog X.w) X.A (spliced (fV pos (cD es X.env))) (AP X pins σ Q) X.xe s
noncomputable def PS(X:Cx)(st:Stmt)(t:TS):Prop:=
 ∀(pins:List (Addr × Obj)) (s:Shared) (σ:St) (H:Hp) (D:Ends),Inv X pins σ H s->t D σ H->wpAny (model X.prog X.w) X.A (exec st X.env) (SP X pins D) X.xe s
noncomputable def PSs(X:Cx)(st:List Stmt)(t:TS):Prop:=
 ∀(pins:List (Addr × Obj)) (s:Shared) (σ:St) (H:Hp) (D:Ends),Inv X pins σ H s->t D σ H->wpAny (model X.prog X.w) X.A (execs st X.env) (SP X pins D) X.xe s
theorem thn{α:Type}{t:Sem α}{Q Q':α->Shared->Prop}{M:Model}{A:aY}{E:Value->Shared->Prop}{s:Shared}(h:wpAny M A t Q E s)(hQ:∀a s,Q a s->Q' a s):wpAny M A t Q' E s:=iY h hQ fun _ _ x=>x
section
variable{X:Cx}
inductive RV (o:Option (Option V)) (H:Hp) (Q:VK):Prop
 |k (v:V):o=some (some v)->Q v H->RV o H Q
@[reducible] noncomputable def tVar(i:Nat):TE:=fun σ H Q=>RV σ[i]? H Q
@[reducible] noncomputable def tC(v:V):TE:=fun _ H Q=>Q v H
theorem atv{i:Nat}{x:Str}{pos:Pos}(hN:X.N[i]? = some x)(hv:Vis X.env.scope x)(hd:(x == ("__debug__" : Str))=false:=by decide)(hcd:(x == ("__classdict__" : Str))=false:=by decide):PE X (.Name x pos) (tVar i):=by
 intro pins s σ H Q I h;obtain⟨v,e,h⟩:=h;obtain⟨m,hn,hl⟩:=I.loc;obtain⟨u,r,l⟩:=hl i x v hN e hv;have fin:EP X pins σ Q u s:=#[v,H,I,r,h];rcases l with⟨hk,hm⟩|⟨hk,c,hc,hcell⟩
 ·exact adL (aj1 I.ok.kind hk hn hm fin) hd
 ·rcases hk with hk|hk
  ·exact adL (aj4 I.ok.kind hk hc hcell fin) hd
  ·exact adL (wpAny_loadName_free I.ok.kind hk hc hcell fin hcd) hd
theorem cI{i j pos}:PE X (.Constant (.int i) j pos) (tC (.int i)):=fun _ _ _ H _ I h=>wpAny_Constant_int #[.int i,H,I.tok _,#[_,rfl],h]
theorem pe_bl{b j pos}:PE X (.Constant (.bool b) j pos) (tC (.bl b)):=fun _ _ _ H _ I h=>akT #[.bl b,H,I,rfl,h]
theorem Zt{j pos}:PE X (.Constant .none j pos) (tC .non):=fun _ _ _ H _ I h=>Constant_none #[.non,H,I,rfl,h]
noncomputable def Gl(X:Cx)(x:Str):Prop:=X.env.kindOf x=some .globalImplicit
theorem O5{s:Shared}{σ:St}{H:Hp}{x:Str}{u:Value}{pos:Pos}{Q:Value->Shared->Prop}(I:Inv X pins σ H s)(hg:Gl X x)(hm:X.mg x=some u)(h:Q u s)
  (hd:(x == ("__debug__" : Str))=false:=by decide):wpAny (model X.prog X.w) X.A (eval (.Name x pos) X.env) Q E s:=
 alA I.ok.kind hg (Calls.loadGlobal_global (by rw[I.ok.glob];exact I.mod.glob.keeps I.bk) hm h) hd
theorem nH{E:Value->Shared->Prop}{pins:List (Addr × Obj)}{s:Shared}{σ:St}{H:Hp}{x:Str}{u:Value}{pos:Pos}{Q:Value->Shared->Prop}(I:Inv X pins σ H s)(hg:Gl X x)(hm:X.mg x=none)(hv:Dd x=some u)(h:Q u s)
  (hn:x ≠ "__name__" := by decide) (hd:(x == ("__debug__" : Str))=false:=by decide):wpAny (model X.prog X.w) X.A (eval (.Name x pos) X.env) Q E s:=by
 obtain⟨mb,h1,h2⟩:=I.mod.blt;exact alA I.ok.kind hg (Calls.loadGlobal_builtin (by rw[I.ok.glob];exact I.mod.glob.keeps I.bk) hm (by rw[I.ok.blt];exact h1.keeps I.bk) ((h2 x hn).trans hv) h) hd
theorem O6(hg:Gl X x)(hm:X.mg x=some u)(r:RelV v u)(hd:(x == ("__debug__" : Str))=false:=by decide):PE X (.Name x pos) (tC v):=
 fun _ _ _ H _ I h=>O5 I hg hm #[v,H,I,r,h] hd
theorem O7{x:Str}{v:V}{u:Value}{pos:Pos}(hg:Gl X x)(hm:X.mg x=none)(hv:Dd x=some u)(r:RelV v u)(hn:x ≠ "__name__" := by decide)(hd:(x == ("__debug__" : Str))=false:=by decide):PE X (.Name x pos) (tC v):=
 fun _ _ _ H _ I h=>nH I hg hm hv #[v,H,I,r,h] hn hd
@[reducible] noncomputable def tB(t:TE):TT:=fun σ H Q=>t σ H fun x H1=>∃c,x=.bl c/\Q c H1
theorem atw(h:PE X e t)(he:∀whole,Qt e X.env whole=(do let v <-whole;Qs e.pos;yG [v] (truthy v)):=by intro _;rfl):PT X e (tB t):=by
 intro pins s σ H Q I hw;refine isTrue_plain (thn (h pins s σ H _ I hw) fun v s1 zq=>?_) (he _);obtain⟨x,H1,I1,r1,q1⟩:=zq;obtain⟨d,rfl,q⟩:=q1;cases r1;exact CW #[H1,I1,q]
variable{rest:List Expr}
@[reducible] noncomputable def tAnd(t u:TT):TT:=fun σ H Q=>t σ H fun c H1=>if c=true then u σ H1 Q else Q false H1
@[reducible] noncomputable def tOr(t u:TT):TT:=fun σ H Q=>t σ H fun c H1=>if c=true then Q true H1 else u σ H1 Q
@[reducible] noncomputable def tNot(t:TT):TT:=fun σ H Q=>t σ H fun c H1=>Q (!c) H1
theorem pw_and1(ha:PT X a tA):PW X (.BoolOp .And [a] pos) tA:=by
 intro wh pins s σ H Q I h;refine isTrue_and (thn (ha pins s σ H Q I h) fun c s1 e=>?_);cases c with
 |true=>exact isTrue_and_nil e
 |false=>exact e
theorem pw_or1(ha:PT X a tA):PW X (.BoolOp .Or [a] pos) tA:=by
 intro wh pins s σ H Q I h;refine isTrue_or (thn (ha pins s σ H Q I h) fun c s1 e=>?_);cases c with
 |false=>exact isTrue_or_nil e
 |true=>exact e
theorem pw_and(ha:PT X a tA)(hb:PW X (.BoolOp .And (b::rest) pos) tB'):PW X (.BoolOp .And (a::b::rest) pos) (tAnd tA tB'):=by
 intro wh pins s σ H Q I h;refine isTrue_and (thn (ha pins s σ H _ I h) fun c s1 zq=>?_);obtain⟨H1,I1,q1⟩:=zq;cases c with
 |true=>exact hb wh pins s1 σ H1 Q I1 q1
 |false=>show#[H1,I1,q1]
theorem pw_or(ha:PT X a tA)(hb:PW X (.BoolOp .Or (b::rest) pos) tB'):PW X (.BoolOp .Or (a::b::rest) pos) (tOr tA tB'):=by
 intro wh pins s σ H Q I h;refine isTrue_or (thn (ha pins s σ H _ I h) fun c s1 zq=>?_);obtain⟨H1,I1,q1⟩:=zq;cases c with
 |true=>show#[H1,I1,q1]
 |false=>exact hb wh pins s1 σ H1 Q I1 q1
theorem atx(ha:PT X a tA):PT X (.UnaryOp .Not a pos) (tNot tA):=by
 intro pins s σ H Q I h;exact isTrue_not (ha pins s σ H (fun c H1=>Q (!c) H1) I h)
@[reducible] noncomputable def tAndV(ta tb:TE):TE:=fun σ H Q=>ta σ H fun x H1=>∃c,x=.bl c/\if c=true then tb σ H1 Q else Q (.bl false) H1
@[reducible] noncomputable def tOrV(ta tb:TE):TE:=fun σ H Q=>ta σ H fun x H1=>∃c,x=.bl c/\if c=true then Q (.bl true) H1 else tb σ H1 Q
@[reducible] noncomputable def tNotV(ta:TE):TE:=fun σ H Q=>ta σ H fun x H1=>∃c,x=.bl c/\Q (.bl (!c)) H1
theorem aty{op}(h:PE X a t):PE X (.BoolOp op [a] pos) t:=fun pins s σ H Q I hw=>BoolOp_one (h pins s σ H Q I hw)
theorem atz(ha:PE X a ta)(hb:PE X (.BoolOp .And (b::rest) pos) tb):PE X (.BoolOp .And (a::b::rest) pos) (tAndV ta tb):=by
 intro pins s σ H Q I h;refine BoolOp_and (thn (ha pins s σ H _ I h) fun v s1 zq=>?_);obtain⟨x,H1,I1,r1,q1⟩:=zq;obtain⟨c,rfl,q1⟩:=q1;cases r1;refine CW ?_;cases c with
 |true=>exact hb pins s1 σ H1 Q I1 q1
 |false=>show#[.bl false,H1,I1,rfl,q1]
theorem pe_or(ha:PE X a ta)(hb:PE X (.BoolOp .Or (b::rest) pos) tb):PE X (.BoolOp .Or (a::b::rest) pos) (tOrV ta tb):=by
 intro pins s σ H Q I h;refine BoolOp_or (thn (ha pins s σ H _ I h) fun v s1 zq=>?_);obtain⟨x,H1,I1,r1,q1⟩:=zq;obtain⟨c,rfl,q1⟩:=q1;cases r1;refine CW ?_;cases c with
 |false=>exact hb pins s1 σ H1 Q I1 q1
 |true=>show#[.bl true,H1,I1,rfl,q1]
theorem atA(ha:PE X a ta):PE X (.UnaryOp .Not a pos) (tNotV ta):=by
 intro pins s σ H Q I h;refine UnaryOp_ (thn (ha pins s σ H _ I h) fun v s1 zq=>?_);obtain⟨x,H1,I1,r1,q1⟩:=zq;obtain⟨c,rfl,q1⟩:=q1;cases r1;exact not_of (CW #[.bl (!c),H1,I1,rfl,q1])
noncomputable def tIf(t:TT)(ta tb:TE):TE:=fun σ H Q=>t σ H fun c H1=>if c=true then ta σ H1 Q else tb σ H1 Q
theorem abh(hc:PT X c tA)(ha:PE X a ta)(hb:PE X b tb):PE X (.IfExp c a b pos) (tIf tA ta tb):=by
 intro pins s σ H Q I h;refine wpAny_IfExp (thn (hc pins s σ H _ I h) fun d s1 zq=>?_);obtain⟨H1,I1,q1⟩:=zq;cases d with
 |true=>exact ha pins s1 σ H1 Q I1 q1
 |false=>exact hb pins s1 σ H1 Q I1 q1
end
noncomputable def SqL(K:aH)(H:Hp)(a:Addr)(xs:List V):Prop:=
 Rd H a (.lst xs) \/
  ∃o its n,K.lookup a=some o/\o.cls=.type "list" /\ o.dict=none/\o.data=.seq its n/\its.size<=sizeLine/\Vals xs its.toList
noncomputable def SqT(K:aH)(H:Hp)(a:Addr)(xs:List V):Prop:=
 Rd H a (.tup xs) \/
  ∃o its n,K.lookup a=some o/\o.cls=.type "tuple" /\ o.data=.seq its n/\its.size<=sizeLine/\Vals xs its.toList
noncomputable def absV:Value->Option V
 | .none=>some .non
 | .bool b=>some (.bl b)
 | .int i _=>some (.int i)
 | .str x _=>some (.str x)
 | .bytes b _=>some (.byt b)
 | .float b _=>some (.flt b)
 | .ref a=>some (.ref a)
 | .type n=>some (.ty n)
 |_=>none
theorem RelV.abs(r:RelV x u):absV u=some x:=by
 cases x with
 |non=>cases r;rfl
 |bl _=>cases r;rfl
 |int _=>obtain⟨t,rfl⟩:=r;rfl
 |str _=>obtain⟨t,rfl⟩:=r;rfl
 |byt _=>obtain⟨t,rfl⟩:=r;rfl
 |flt _=>obtain⟨t,rfl⟩:=r;rfl
 |ref _=>cases r;rfl
 |ty _=>cases r;rfl
theorem RelV.inj(r:RelV x u)(q:RelV y u):x=y:=cA (r.abs.symm.trans q.abs)
theorem Vals.inj:∀{xs ys:List V}{us:List Value},Vals xs us->Vals ys us->xs=ys
 |_,_,_,.nil,.nil=>rfl
 |_,_,_,.cons r t,.cons r' t'=>by rw[r.inj r',Vals.inj t t']
section
variable{X:Cx}{pins:List (Addr × Obj)}{σ:St}{H:Hp}{s:Shared}{a:Addr}{xs ys:List V}
theorem Inv.list(I:Inv X pins σ H s)(h:SqL X.K H a xs):∃its:List Value,Vals xs its/\PlainL s.heap a its.toArray/\xs.length<=sizeLine:=by
 rcases h with h|⟨o,its,n,hk,hc,hd,hs,hz,r⟩
 ·obtain⟨z,its,n,r,e⟩:=h.ok I.hok;show#[its,r,#[_,n,e,rfl,rfl,rfl],z]
 ·show#[its.toList,r,#[o,n,I.kIn a o hk,hc,hd,by simpa using hs],?_];have e:=r.length;simp only[iQ]at e;lia
theorem Inv.tuple(I:Inv X pins σ H s)(h:SqT X.K H a xs):∃its:List Value,Vals xs its/\IsTup s.heap a its.toArray/\xs.length<=sizeLine:=by
 rcases h with h|⟨o,its,n,hk,hc,hs,hz,r⟩
 ·obtain⟨z,its,r,p⟩:=h.ok I.hok;show#[its,r,p,z]
 ·show#[its.toList,r,#[o,I.kIn a o hk,hc,n,by simpa using hs],?_];have e:=r.length;simp only[iQ]at e;lia
theorem Inv.abj(I:Inv X pins σ H s)(h:SqL X.K H a xs)(h':SqL X.K H a ys):xs=ys:=by
 obtain⟨its,r,⟨o,n,e,_,_,d⟩,_⟩:=I.list h;obtain⟨its',r',⟨o',n',e',_,_,d'⟩,_⟩:=I.list h';rw[e]at e';cases e';rw[d]at d';injection d' with d1 _;have:its=its':=by simpa using mM alp d1
 subst this;exact r.inj r'
theorem Inv.ahK(I:Inv X pins σ H s)(h:SqT X.K H a xs)(h':SqT X.K H a ys):xs=ys:=by
 obtain⟨its,r,⟨o,e,_,n,d⟩,_⟩:=I.tuple h;obtain⟨its',r',⟨o',e',_,n',d'⟩,_⟩:=I.tuple h';rw[e]at e';cases e';rw[d]at d';injection d' with d1 _;have:its=its':=by simpa using mM alp d1
 subst this;exact r.inj r'
end
noncomputable abbrev Cx.wish(X:Cx)(E:Value->Shared->Prop):Cx:={ X with xe:=E }
noncomputable abbrev Cx.nox(X:Cx):Cx:=X.wish fun _ _=>False
theorem Cx.Ok.wish{X:Cx}(ok:X.Ok)(E:Value->Shared->Prop):(X.wish E).Ok:=
 #[ok.mod,ok.kind,ok.glob,ok.blt,ok.above,ok.inj,ok.has,ok.cab,ok.hd,ok.frames,ok.stk,ok.exf,ok.bs,ok.bsz,ok.amj,ok.exfs,ok.Ka,ok.frf]
theorem Cx.Ok.sU{X:Cx}(ok:(X.wish E).Ok):X.Ok:=
 #[ok.mod,ok.kind,ok.glob,ok.blt,ok.above,ok.inj,ok.has,ok.cab,ok.hd,ok.frames,ok.stk,ok.exf,ok.bs,ok.bsz,ok.amj,ok.exfs,ok.Ka,ok.frf]
section
variable{X:Cx}{pins:List (Addr × Obj)}{σ:St}{H:Hp}{s:Shared}{E:Value->Shared->Prop}
theorem Inv.wish(I:Inv X pins σ H s)(E:Value->Shared->Prop):Inv (X.wish E) pins σ H s:=#[I.ok.wish E,I.os,I.bare,I.base,I.loc,I.cell,I.free,I.wO,I.pin,I.hok,I.len]
theorem Inv.sU(I:Inv (X.wish E) pins σ H s):Inv X pins σ H s:=#[I.ok.sU,I.os,I.bare,I.base,I.loc,I.cell,I.free,I.wO,I.pin,I.hok,I.len]
theorem SP.sU(h:SP (X.wish E) pins D f s'):SP X pins D f s':=by
 cases f with
 |next=>obtain⟨σ',H',I,q⟩:=h;show#[σ',H',I.sU,q]
 |brk=>obtain⟨σ',H',I,q⟩:=h;show#[σ',H',I.sU,q]
 |cont=>obtain⟨σ',H',I,q⟩:=h;show#[σ',H',I.sU,q]
 |ret u=>obtain⟨v,σ',H',I,r,q⟩:=h;show#[v,σ',H',I.sU,r,q]
theorem PE.nox(h:PE X.nox e t):PE X e t:=fun pins s σ H Q I hw =>
 iY (h pins s σ H Q (I.wish _) hw) (fun _ _ ⟨v,H',I',r,q⟩=>#[v,H',I'.sU,r,q]) fun _ _ z=>ju z
theorem PT.nox(h:PT X.nox e t):PT X e t:=fun pins s σ H Q I hw =>
 iY (h pins s σ H Q (I.wish _) hw) (fun _ _ ⟨H',I',q⟩=>#[H',I'.sU,q]) fun _ _ z=>ju z
theorem PSs.nox{st:List Stmt}{t:TS}(h:PSs X.nox st t):PSs X st t:=fun pins s σ H D I hw =>
 iY (h pins s σ H D (I.wish _) hw) (fun _ _ q=>q.sU) fun _ _ z=>ju z
end
section
variable{X:Cx}{st:Stmt}{rest:List Stmt}{t u:TS}{pos:Pos}
@[reducible] noncomputable def arl:TS:=fun D σ H=>D.nx σ H
@[reducible] noncomputable def Ng(t u:TS):TS:=fun D σ H=>t { D with nx:=u D } σ H
theorem Zu:PSs X [] arl:=fun _ _ σ H _ I h=>X8 #[σ,H,I,h]
theorem fJ(h1:PS X st t)(h2:PSs X rest u):PSs X (st::rest) (Ng t u):=by
 intro pins s σ H D I h;refine akd (thn (h1 pins s σ H { D with nx:=u D } I h) fun f s1 q=>?_);cases f with
 |next =>
  obtain⟨σ',H',I',q⟩:=q;exact h2 pins s1 σ' H' D I' q
 |ret v=>exact q
 |brk=>exact q
 |cont=>exact q
theorem vH(h1:PS X st t):PSs X [st] t:=by
 intro pins s σ H D I h;refine akd (thn (h1 pins s σ H D I h) fun f s1 q=>?_);cases f with
 |next=>exact X8 q
 |ret v=>exact q
 |brk=>exact q
 |cont=>exact q
theorem Inv.quiet{σ:St}{H:Hp}{s:Shared}(I:Inv X pins σ H s):interactive X.env=false:=by simp[interactive,I.ok.kind]
@[reducible] noncomputable def tDrop(te:TE):TS:=fun D σ H=>te σ H fun _ H1=>D.nx σ H1
theorem apy(he:PE X e te)(hs:Df e none pos.line X.env=pure false:=by rfl):PS X (.Expr e pos) (tDrop te):=by
 intro pins s σ H D I h;exact wpAny_Expr_any (thn (he pins s σ H _ I h) fun v s1 ⟨x,H1,I1,r1,q1⟩=>#[σ,H1,I1,q1]) I.quiet hs
@[reducible] noncomputable def tRet(te:TE):TS:=fun D σ H=>te σ H D.rt
theorem Rf(he:PE X e te):PS X (.Return (some e) pos) (tRet te):=by
 intro pins s σ H D I h;exact wpAny_Return_some (thn (he pins s σ H _ I h) fun v s1 ⟨x,H1,I1,r1,q1⟩=>#[x,σ,H1,I1,r1,q1])
@[reducible] noncomputable def tIfS(c:TT)(t u:TS):TS:=fun D σ H=>c σ H fun b H1=>if b=true then t D σ H1 else u D σ H1
theorem amk(hc:PT X c tc)(ha:PSs X a t)(hb:PSs X b u):PS X (.If c a b pos) (tIfS tc t u):=by
 intro pins s σ H D I h;refine wpAny_If (thn (hc pins s σ H _ I h) fun d s1 zq=>?_);obtain⟨H1,I1,q1⟩:=zq;cases d with
 |true=>exact ha pins s1 σ H1 D I1 q1
 |false=>exact hb pins s1 σ H1 D I1 q1
noncomputable def atB:TS:=fun _ _ _=>False
theorem aml:PS X st atB:=fun _ _ _ _ _ _ h=>h.elim
end
noncomputable abbrev TG:=V->St->Hp->(St->Hp->Prop)->Prop
noncomputable abbrev TGs:=List V->St->Hp->(St->Hp->Prop)->Prop
noncomputable def PG(X:Cx)(target:Expr)(t:TG):Prop:=
 ∀(pins:List (Addr × Obj)) (s:Shared) (σ:St) (H:Hp) (v:V) (u:Value) (Q:St->Hp->Prop),Inv X pins σ H s->RelV v u->t v σ H Q ->
  wpAny (model X.prog X.w) X.A (uX target X.env u) (fun _ s'=>∃σ' H',Inv X pins σ' H' s'/\Q σ' H') X.xe s
noncomputable def PGs(X:Cx)(ts:List Expr)(t:TGs):Prop:=
 ∀(pins:List (Addr × Obj)) (s:Shared) (σ:St) (H:Hp) (vs:List V) (us:List Value) (Q:St->Hp->Prop),Inv X pins σ H s->Vals vs us->t vs σ H Q ->
  wpAny (model X.prog X.w) X.A (assignInOrder ((Jx ts X.env).map (·.2)) us) (fun _ s'=>∃σ' H',Inv X pins σ' H' s'/\Q σ' H') X.xe s
noncomputable abbrev TSet:=V->V->V->Hp->(Hp->Prop)->Prop
noncomputable def PSet(X:Cx)(t:TSet):Prop:=
 ∀(pins:List (Addr × Obj)) (s:Shared) (σ:St) (H:Hp) (o i v:V) (ov iv u:Value) (Q:Hp->Prop),Inv X pins σ H s->RelV o ov->RelV i iv->RelV v u->t o i v H Q ->
  wpAny (model X.prog X.w) X.A (setItem ov iv u) (fun _ s'=>∃H',Inv X pins σ H' s'/\Q H') X.xe s
noncomputable abbrev TIp:=V->V->Hp->VK->Prop
noncomputable def PIp(X:Cx)(op:adS)(t:TIp):Prop:=
 ∀(pins:List (Addr × Obj)) (s:Shared) (σ:St) (H:Hp) (x y:V) (v u:Value) (Q:VK),Inv X pins σ H s->RelV x v->RelV y u->t x y H Q ->
  wpAny (model X.prog X.w) X.A (inplaceOp op v u) (EP X pins σ Q) X.xe s
section
variable{X:Cx}{pos:Pos}
@[reducible] noncomputable def mF(i:Nat):TG:=fun v σ H Q=>Q (σ.set i (some v)) H
theorem vI(hN:X.N.Nodup)(hi:X.N[i]? = some x)(hx:Loc X.env.scope x)(hf:X.fn x=true\/X.env.scope.names.lookup x=some .local:=by first|exact .inl rfl|exact .inr rfl|assumption):PG X (.Name x pos) (mF i):=by
 intro pins s σ H v u Q I r h;exact aj6 (Rb I hN hi hx r (fun s' I'=>#[_,H,I',h]) hf)
noncomputable def amm:TGs:=fun vs σ H Q=>vs=[]/\Q σ H
noncomputable def Gm(t:TG)(u:TGs):TGs:=fun vs σ H Q=>∃v r,vs=v::r/\t v σ H fun σ' H'=>u r σ' H' Q
theorem Zv:PGs X [] amm:=by
 intro pins s σ H vs us Q I r h;obtain⟨e,h⟩:=h;subst e;cases r;exact assignInOrder_nil #[σ,H,I,h]
theorem zj(h1:PG X e t)(h2:PGs X es u)
  (hs:(Jx (e::es) X.env).map (·.2)=uX e X.env::(Jx es X.env).map (·.2):=by rfl):PGs X (e::es) (Gm t u):=by
 intro pins s σ H vs us Q I r h;obtain⟨v,vr,e1,h⟩:=h;subst e1;cases r with
 |cons r rr =>
  rw[hs];refine assignInOrder_cons (thn (h1 pins s σ H _ _ _ I r h) fun _ s1 zq=>?_);obtain⟨σ1,H1,I1,q1⟩:=zq;exact h2 pins s1 σ1 H1 _ _ Q I1 rr q1
noncomputable def amn(K:aH)(n:Nat)(t:TGs):TG:=fun v σ H Q=>∃a xs,v=.ref a/\SqT K H a xs/\xs.length=n/\t xs σ H Q
theorem aeS{es:List Expr}{k:Nat}{t:TGs}{n:Nat}(hc:X.calm=true)(h:PGs X es t)
  (hn:(Jx es X.env).length=n:=by rfl) (hst:(Jx es X.env).findIdx? (·.1)=none:=by rfl):PG X (.Tuple es k pos) (amn X.K n t):=by
 intro pins s σ H v u Q I r hw;obtain⟨a,xs,e1,hq,hl,hw⟩:=hw;subst e1;cases r;obtain⟨its,rv,ht,hz⟩:=I.tuple hq;refine assign_Tuple_tuple (I.ok.hd hc) ht (by simp[hn,<-hl,rv.length]) hst fun h' hx=>?_;have I1:Inv X pins σ H { s with heap:=h' }:=I.kept (t':=s.toks) fun b o e=>hx b o (cF (bQ e)) e;exact h pins _ σ H xs _ Q I1 (by simpa using rv) hw
@[reducible] noncomputable def gSub(to ti:TE)(t:TSet):TG:=fun v σ H Q=>to σ H fun o H1=>ti σ H1 fun i H2=>t o i v H2 fun H3=>Q σ H3
theorem atD(ho:PE X o to)(hi:PE X i ti)(hs:PSet X t)
  (ha:∀ v,uX (.Subscript o i pos) X.env v=(do
   let ov <-yG [v] (eval o X.env)
   let iv <-yG [v,ov] (eval i X.env)
   Qs pos
   yG [v,ov,iv] (setItem ov iv v)
   release [v,ov,iv] []):=by intro _;rfl):PG X (.Subscript o i pos) (gSub to ti t):=by
 intro pins s σ H v u Q I r h;rw[ha];refine aB (oX (thn (ho pins s σ H _ I h) fun ov s1 zq=>?_));obtain⟨x,H1,I1,r1,q1⟩:=zq;refine aB (oX (thn (hi pins s1 σ H1 _ I1 q1) fun iv s2 zq=>?_));obtain⟨y,H2,I2,r2,q2⟩:=zq;refine aB (adC (aB (oX (thn (hs pins s2 σ H2 x y v ov iv u _ I2 r1 r2 r q2) fun _ s3 zq=>?_))));obtain⟨H3,I3,q3⟩:=zq;exact wpAny_release #[σ,H3,I3,q3]
@[reducible] noncomputable def ahL(te:TE)(g:TG):TS:=fun D σ H=>te σ H fun x H1=>g x σ H1 D.nx
theorem atE(he:PE X e te)(hg:PG X tg g)(hs:swapsWithSole [tg] e pos.line X.env=pure false:=by rfl)(hw:swappedStores [tg] e X.env=pure none:=by rfl)
  (h1:(Jx [tg] X.env).map (·.2)=[uX tg X.env]:=by rfl):PS X (.Assign [tg] e pos) (ahL te g):=by
 intro pins s σ H D I h;refine wpAny_Assign_stores (thn (he pins s σ H _ I h) fun v s1 zq=>?_) hs hw;obtain⟨x,H1,I1,r1,q1⟩:=zq;rw[h1];exact thn (hg pins s1 σ H1 x v _ I1 r1 q1) fun _ s2 q=>q
theorem Zw(hN:X.N.Nodup)(hi:X.N[i]? = some x)(hx:Loc X.env.scope x)(he:PE X e te)(hs:Df e (some (.Name x pos')) pos.line X.env=pure false:=by rfl)(hf:X.fn x=true\/X.env.scope.names.lookup x=some .local:=by first|exact .inl rfl|exact .inr rfl|assumption):
  PS X (.Assign [.Name x pos'] e pos) (ahL te (mF i)):=by
 intro pins s σ H D I h;refine wpAny_Assign_Name (thn (he pins s σ H _ I h) fun v s1 zq=>?_) hs;obtain⟨y,H1,I1,r1,q1⟩:=zq;exact Rb I1 hN hi hx r1 (fun s2 I2=>#[_,H1,I2,q1]) hf
noncomputable def tAug(i:Nat)(te:TE)(ti:TIp):TS:=fun D σ H=>∃x,σ[i]? = some (some x)/\te σ H fun y H1=>ti x y H1 fun z H2=>D.nx (σ.set i (some z)) H2
theorem amo(hN:X.N.Nodup)(hi:X.N[i]? = some x)(hx:Loc X.env.scope x)(he:PE X e te)(ho:PIp X op ti)(hf:X.fn x=true\/X.env.scope.names.lookup x=some .local:=by first|exact .inl rfl|exact .inr rfl|assumption):
  PS X (.AugAssign (.Name x pos') op e pos) (tAug i te ti):=by
 intro pins s σ H D I h;obtain⟨v,e1,h⟩:=h;obtain⟨m,hn,hl⟩:=I.loc;have vis:Vis X.env.scope x:=by rcases hx with k|k;exact .inl k;exact .inr (.inl k)
 obtain⟨u,r,l⟩:=hl i x v hi e1 vis;refine wpAny_AugAssign_Name ?_;have go:wpAny (model X.prog X.w) X.A (eval e X.env) (fun w s₂=>wpAny (model X.prog X.w) X.A (inplaceOp op u w) (fun r s₃=>wpAny (model X.prog X.w) X.A (adM X.env x r) (fun _=>SP X pins D .next) X.xe s₃) X.xe s₂) X.xe s:=by
  refine thn (he pins s σ H _ I h) fun w s1 zq=>?_;obtain⟨y,H1,I1,r1,q1⟩:=zq;refine thn (ho pins s1 σ H1 v y u w _ I1 r r1 q1) fun z s2 zq=>?_;obtain⟨zv,H2,I2,r2,q2⟩:=zq;exact Rb I2 hN hi hx r2 (fun s3 I3=>#[_,H2,I3,q2]) hf
 rcases l with⟨hk,hm⟩|⟨hk,c,hc,hcell⟩
 ·exact aj1 I.ok.kind hk hn hm go
 ·rcases hk with hk|hk
  ·exact aj4 I.ok.kind hk hc hcell go
  ·rcases hx with k|k
   ·have:X.env.scope.names.lookup x=some .free:=hk;rw[k]at this;cases this
   ·have:X.env.scope.names.lookup x=some .free:=hk;rw[k]at this;cases this
noncomputable def ipI(f:Int->Int->Int):TIp:=fun x y H Q=>∃i j,x=.int i/\y=.int j/\Q (.int (f i j)) H
theorem atF:PIp X .Add (ipI fun i j=>i+j):=by
 intro pins s σ H x y v u Q I r1 r2 h;obtain⟨i,j,e1,e2,q⟩:=h;subst e1;subst e2;obtain⟨t,rfl⟩:=r1;obtain⟨t',rfl⟩:=r2;exact iadd_int #[.int _,H,I.tok _,#[_,rfl],q]
theorem atG:PIp X .Sub (ipI fun i j=>i-j):=by
 intro pins s σ H x y v u Q I r1 r2 h;obtain⟨i,j,e1,e2,q⟩:=h;subst e1;subst e2;obtain⟨t,rfl⟩:=r1;obtain⟨t',rfl⟩:=r2;exact isub_int #[.int _,H,I.tok _,#[_,rfl],q]
noncomputable def Rg(c:TT)(tb:TS):TS:=fun D σ H=>∃W:Nat->St->Hp->Prop,(∃m,W m σ H)/\∀m σ H,W m σ H ->
 c σ H fun b H1=>if b=true then ∃N:St->Hp->Prop,(∀σ' H',N σ' H'->∃m',m'<m/\W m' σ' H')/\tb { D with nx:=N,ct:=N,bk:=D.nx } σ H1 else D.nx σ H1
theorem abk(hp:adN (model X.prog X.w) X.A X.env X.xe)(hc:PT X c tc)(hb:PSs X body tb):PS X (.While c body [] pos) (Rg tc tb):=by
 intro pins s σ H D I h;obtain⟨W,⟨m0,w0⟩,turn⟩:=h;refine wpAny_While (codeAny_whileLoop (fun n s'=>∃σ' H',Inv X pins σ' H' s'/\W n σ' H') ?_ m0 #[σ,H,I,w0]);rintro n s1 ⟨σ1,H1,I1,w1⟩;refine Dc hp (thn (hc pins s1 σ1 H1 _ I1 (turn n σ1 H1 w1)) fun b s2 zq=>?_);obtain⟨H2,I2,q2⟩:=zq;cases b with
 |true =>
  obtain⟨N,hN,q2⟩:=q2;rw[mB rfl];refine Dc hp (thn (hb pins s2 σ1 H2 _ I2 q2) fun f s3 q3=>?_);cases f with
  |next =>
   obtain⟨σ3,H3,I3,n3⟩:=q3;obtain⟨m',hm,w3⟩:=hN σ3 H3 n3;show#[m',hm,σ3,H3,I3,w3]
  |cont =>
   obtain⟨σ3,H3,I3,n3⟩:=q3;obtain⟨m',hm,w3⟩:=hN σ3 H3 n3;show#[m',hm,σ3,H3,I3,w3]
  |brk=>exact q3
  |ret v=>exact q3
 |false =>
  rw[mw iR];exact X8 #[σ1,H2,I2,q2]
end
structure It where
 go:Nat->Hp->Prop
 yld:Nat->Hp->V->Hp->Prop
 stop:Nat->Hp->Prop
noncomputable def Kc(X:Cx)(pins:List (Addr × Obj))(H:Hp)(b:Addr):Prop:=
 H b=none/\b≠X.env.locals/\b∉X.fs/\(b∈X.ex\/X.s₀.heap.objs.size<=b)/\(∀x c,X.env.cells.lookup x=some c->c≠b)/\∀p∈X.pn++pins,p.1≠b
theorem Inv.ahM{σ:St}{H H':Hp}{s:Shared}{b:Addr}(I:Inv X pins σ H s)(hb: ~~~s<=b)(hn:H' b=none):Kc X pins H' b:=by
 show#[hn,yL (cY I.lt hb),I.nofs hb,.inr (cH I.sz hb),fun x c e z=>?_,fun p hp z=>?_]
 ·obtain⟨v,q⟩:=I.cell x c e;exact mI (cY q.lt (by rwa[z])) (q9 _)
 ·exact mI (cY (bQ (I.pin p hp).1) (by rwa[z])) (q9 _)
structure Turn(P:aK)(w:World)(K:aH)(tg:Expr)(J:It)(fp:List Addr)(it:Addr)(tn:Nat->Heap->Prop):Prop where
 mem:it∈fp
 obj:∀i h,tn i h->∀b∈fp,∃o,h.get? b=some o/\∀v,o.data≠.cell v
 keep:∀i h h',tn i h->(∀b∈fp,∀o,h.get? b=some o->h'.get? b=some o)->tn i h'
 item:∀(X:Cx),X.prog=P->X.w=w->X.K=K->X.calm=true->∀(i:Nat) (pins:List (Addr × Obj)) (s:Shared) (σ:St) (H:Hp) (E:Value->Shared->Prop),Inv X pins σ H s->(∀b∈fp,Kc X pins H b)->tn i s.heap->J.go i H ->
  wpAny (model P w) X.A (lA (.ref it)) (fun r s1=>∃ u,r=some u /\
   wpAny (model P w) X.A (Yb tg (.ref it) u) (fun _ s2=>∃ x H',Inv X pins σ H' s2/\RelV x u/\J.yld i H x H'/\tn (i+1) s2.heap/\∀ b∈fp,H' b=none) E s1) E s
 done:∀(X:Cx),X.prog=P->X.w=w->X.K=K->X.calm=true->∀(i:Nat) (pins:List (Addr × Obj)) (s:Shared) (σ:St) (H:Hp) (E:Value->Shared->Prop),Inv X pins σ H s->(∀b∈fp,Kc X pins H b)->tn i s.heap->J.stop i H ->
  wpAny (model P w) X.A (lA (.ref it)) (fun r s1=>r=none/\Inv X pins σ H s1) E s
 self:∀(A:aY)(i:Nat)(s:Shared)(Q:Value->Shared->Prop)(E:Value->Shared->Prop),tn i s.heap->Q (.ref it) s->wpAny (model P w) A (Dr (.ref it)) Q E s
noncomputable abbrev TI:=St->Hp->(It->Hp->Prop)->Prop
noncomputable def PIE(X:Cx)(pins:List (Addr × Obj))(σ:St)(tg:Expr)(R:It->Hp->Prop)(itv:Value)(s2:Shared):Prop:=
 ∃it fp tn J H',itv=.ref it/\Inv X pins σ H' s2/\Turn X.prog X.w X.K tg J fp it tn/\tn 0 s2.heap/\(∀b∈fp,Kc X pins H' b)/\R J H'
noncomputable def PI(X:Cx)(tg iter:Expr)(wi:TI):Prop:=
 ∀(pins:List (Addr × Obj)) (s:Shared) (σ:St) (H:Hp) (R:It->Hp->Prop),Inv X pins σ H s->wi σ H R ->
  wpAny (model X.prog X.w) X.A (eval iter X.env) (fun v s1=>wpAny (model X.prog X.w) X.A (Dr v) (PIE X pins σ tg R) X.xe s1) X.xe s
theorem agw{M:Model}{s:Shared}(ho:s⁻¹ it=some o)(hc:o.cls=.type n)(hd:o.data=.fields vs)
  (hn:["enumerate","zip","dict_itemiterator","dict_reverseitemiterator","odict_iterator","itertools.zip_longest","itertools.pairwise"].contains n=false) (hQ:Q () s):wpAny M A (Yb tg (.ref it) u) Q E s:=by
 unfold Yb;cases tg <;> first
  |exact aN hQ
  | (cases u <;> first
    |exact aN hQ
    | (refine aB (wpAny_load ho ?_)
       rw [hc,hd];show wpAny M A (if (["enumerate","zip","dict_itemiterator","dict_reverseitemiterator","odict_iterator","itertools.zip_longest","itertools.pairwise"].contains n && vs[0]? == some (oZ _))=true then _ else _) Q E s;rw [mw (by intro h;rw [hn,Bool.false_and] at h;cases h)];exact aN hQ))
noncomputable def Itl(K:aH)(a:Addr):It:=
 #[fun i H=>∃xs x,SqL K H a xs/\xs[i]? = some x,fun i H x H'=>H'=H/\∀xs,SqL K H a xs->xs[i]? = some x,fun i H=>∃xs,SqL K H a xs/\xs.length<=i]
noncomputable def Itt(K:aH)(a:Addr):It:=
 #[fun i H=>∃xs x,SqT K H a xs/\xs[i]? = some x,fun i H x H'=>H'=H/\∀xs,SqT K H a xs->xs[i]? = some x,fun i H=>∃xs,SqT K H a xs/\xs.length<=i]
noncomputable def Itr(lo:Int)(n:Nat):It:=#[fun i _=>i<n,fun i H x H'=>H'=H/\x=.int (lo+i),fun i _=>n<=i]
theorem ahN{P:aK}{w:World}{K:aH}{tg:Expr}(a it:Addr):Turn P w K tg (Itl K a) [it] it (fun i h=>h.IsListIter it a i) where
 mem:=by simp
 obj:=fun i h st b hb=>by
  have e:b=it:=by simpa using hb
  subst e;obtain⟨o,e,c,d⟩:=st;show#[o,e,fun v z=>by rw[d]at z;cases z]
 keep:=fun i h h' st k=>st.at fun o e=>k it (by simp) o e
 item:=by
  intro X hP hw hK hc i pins s σ H E I hf st hg;subst hP hw hK;obtain⟨xs,x,hq,hx⟩:=hg;obtain⟨its,rv,p,hz⟩:=I.list hq;obtain⟨u,hu,ru⟩:=rv.get hx;obtain⟨f0,f1,f2,f3,f4,f5⟩:=hf it (by simp);refine wpAny_pyNext_list_item st p.isList (x:=u) (by simpa using hu) fun h' st' sb=>?_;have I1:Inv X pins σ H { s with heap:=h' }:=I.turned (t':=s.toks) (fun b o hb e=>(sb.2 b hb).trans e) f0 f1 f3 f4 f5;obtain⟨o,e,c,d⟩:=id st';show#[u,rfl,agw (s:={ s with heap:=h' }) e c d tb_g% #[x,H,I1,ru,#[rfl,fun ys hy=>by rwa[I.abj hy hq]],st',fun b hb=>(hf b hb).1]]
 done:=by
  intro X hP hw hK hc i pins s σ H E I hf st hg;subst hP hw hK;obtain⟨xs,hq,hx⟩:=hg;obtain⟨its,rv,p,hz⟩:=I.list hq;obtain⟨f0,f1,f2,f3,f4,f5⟩:=hf it (by simp);have hl:=rv.length;exact wpAny_pyNext_list_end (I.ok.hd hc) st p.isList (by simp;lia) fun h' eb=>#[rfl,I.turned (t':=s.toks) (fun b o hb e=>eb b o hb e) f0 f1 f3 f4 f5]
 self:=fun _ _ _ _ _ st h=>wpAny_pyIter_listiter st h
theorem aeT{P:aK}{w:World}{K:aH}{tg:Expr}(a it:Addr):Turn P w K tg (Itt K a) [it] it (fun i h=>h.IsTupleIter it a i) where
 mem:=by simp
 obj:=fun i h st b hb=>by
  have e:b=it:=by simpa using hb
  subst e;obtain⟨o,e,c,d⟩:=st;show#[o,e,fun v z=>by rw[d]at z;cases z]
 keep:=fun i h h' st k=>st.at fun o e=>k it (by simp) o e
 item:=by
  intro X hP hw hK hc i pins s σ H E I hf st hg;subst hP hw hK;obtain⟨xs,x,hq,hx⟩:=hg;obtain⟨its,rv,p,hz⟩:=I.tuple hq;obtain⟨u,hu,ru⟩:=rv.get hx;obtain⟨f0,f1,f2,f3,f4,f5⟩:=hf it (by simp);refine wpAny_pyNext_tuple_item st (show s.heap.IsTuple a its.toArray from p) (x:=u) (by simpa using hu) fun h' st' sb=>?_;have I1:Inv X pins σ H { s with heap:=h' }:=I.turned (t':=s.toks) (fun b o hb e=>(sb.2 b hb).trans e) f0 f1 f3 f4 f5;obtain⟨o,e,c,d⟩:=id st';show#[u,rfl,agw (s:={ s with heap:=h' }) e c d tb_g% #[x,H,I1,ru,#[rfl,fun ys hy=>by rwa[I.ahK hy hq]],st',fun b hb=>(hf b hb).1]]
 done:=by
  intro X hP hw hK hc i pins s σ H E I hf st hg;subst hP hw hK;obtain⟨xs,hq,hx⟩:=hg;obtain⟨its,rv,p,hz⟩:=I.tuple hq;obtain⟨f0,f1,f2,f3,f4,f5⟩:=hf it (by simp);have hl:=rv.length;exact wpAny_pyNext_tuple_end (I.ok.hd hc) st (show s.heap.IsTuple a its.toArray from p) (by simp;lia) fun h' eb=>#[rfl,I.turned (t':=s.toks) (fun b o hb e=>eb b o hb e) f0 f1 f3 f4 f5]
 self:=fun _ _ _ _ _ st h=>wpAny_pyIter_tupleiter st h
theorem aeU{P:aK}{w:World}{K:aH}{tg:Expr}(it:Addr)(lo:Int)(n:Nat):Turn P w K tg (Itr lo n) [it] it (fun i h=>IsRangeIter h it (lo+(i:Nat)*1) ((n:Int)-(i:Nat)) 1) where
 mem:=by simp
 obj:=fun i h st b hb=>by
  have e:b=it:=by simpa using hb
  subst e;show#[_,st,fun v z=>by
   have z':Data.fields _=Data.cell v:=z;cases z']
 keep:=fun i h h' st k=>k it (by simp) _ st
 item:=by
  intro X hP hw hK hc i pins s σ H E I hf st hg;subst hP hw hK;obtain⟨f0,f1,f2,f3,f4,f5⟩:=hf it (by simp);have W:=Walks.range (prog:=X.prog) (w:=X.w) (I.ok.hd hc) it lo 1 n;refine W.item i s _ _ hg st fun v h' tk hv st' kk=>?_;obtain⟨t,rfl⟩:=hv;have I1:Inv X pins σ H { s with heap:=h',toks:=tk }:=I.turned (fun b o hb e=>kk b o (by simpa using hb) e) f0 f1 f3 f4 f5;show#[_,rfl,agw (s:={ s with heap:=h',toks:=tk }) (n := "range_iterator") st' rfl rfl tb_g% #[.int (lo+i),H,I1,#[t,?_],#[rfl,rfl],st',fun b hb=>(hf b hb).1]];rw[Y5]
 done:=by
  intro X hP hw hK hc i pins s σ H E I hf st hg;subst hP hw hK;obtain⟨f0,f1,f2,f3,f4,f5⟩:=hf it (by simp);exact wpAny_pyNext_range_end (I.ok.hd hc) st (by have:n<=i:=hg;lia) fun h' eb=>#[rfl,I.turned (t':=s.toks) (fun b o hb e=>eb b o hb e) f0 f1 f3 f4 f5]
 self:=fun _ _ _ _ _ st h=>wpAny_pyIter_rangeiter st h
section
variable{X:Cx}
noncomputable def iList(K:aH)(tl:TE):TI:=fun σ H R=>tl σ H fun x H1=>∃a,x=.ref a/\(∃xs,SqL K H1 a xs)/\R (Itl K a) H1
noncomputable def iTup(K:aH)(tl:TE):TI:=fun σ H R=>tl σ H fun x H1=>∃a,x=.ref a/\(∃xs,SqT K H1 a xs)/\R (Itt K a) H1
theorem fK(hl:PE X l tl):PI X tg l (iList X.K tl):=by
 intro pins s σ H R I h;refine thn (hl pins s σ H _ I h) fun v s1 zq=>?_;obtain⟨x,H1,I1,r1,q1⟩:=zq;obtain⟨a,e,⟨xs,hq⟩,q⟩:=q1;subst e;cases r1;obtain⟨its,rv,p,hz⟩:=I1.list hq;refine aj7 p.isList ?_;show#[~~~s1,[~~~s1],_,_,H1,rfl,I1.kept (t':=s1.toks) fun b o e=>dH _ e,ahN a _,#[_,dW _ rfl,rfl,rfl],fun b hb=>?_,q];have e:b= ~~~s1:=by simpa using hb
 subst e;exact I1.ahM (bC _) (I1.hok.fresh (bC _))
theorem amq(hl:PE X l tl):PI X tg l (iTup X.K tl):=by
 intro pins s σ H R I h;refine thn (hl pins s σ H _ I h) fun v s1 zq=>?_;obtain⟨x,H1,I1,r1,q1⟩:=zq;obtain⟨a,e,⟨xs,hq⟩,q⟩:=q1;subst e;cases r1;obtain⟨its,rv,p,hz⟩:=I1.tuple hq;refine wpAny_pyIter_tuple (show s1.heap.IsTuple a its.toArray from p) ?_;show#[~~~s1,[~~~s1],_,_,H1,rfl,I1.kept (t':=s1.toks) fun b o e=>dH _ e,aeT a _,#[_,dW _ rfl,rfl,rfl],fun b hb=>?_,q];have e:b= ~~~s1:=by simpa using hb
 subst e;exact I1.ahM (bC _) (I1.hok.fresh (bC _))
theorem amr{σ:St}{H:Hp}{s:Shared}{R:It->Hp->Prop}{E:Value->Shared->Prop}{lo hi:Int}{t u v:Tok}{tk:Nat}(I:Inv X pins σ H s)(h1:-(2 ^ 62)<=lo)(h2:lo<2 ^ 62)(h3:-(2 ^ 62)<=hi)(h4:hi<2 ^ 62)
  (q:R (Itr lo (hi-lo).toNat) H):wpAny (model X.prog X.w) X.A (Dr (.ref (~~~s))) (PIE X pins σ tg R) E { s with heap:=s.heap.push { cls:=.type "range",data:=.fields [.int lo t,.int hi u,.int 1 v].toArray },toks:=tk }:=by
 refine wpAny_pyIter_range (IsRange.new ..) (small_one h1 h2 h3 h4) ?_;have I1:Inv X pins σ H { s with heap:=s.heap.push { cls:=.type "range",data:=.fields [.int lo t,.int hi u,.int 1 v].toArray },toks:=tk }:=I.kept fun b o e=>dH _ e;show#[(s.heap.push { cls:=.type "range",data:=.fields [.int lo t,.int hi u,.int 1 v].toArray }).objs.size,[(s.heap.push { cls:=.type "range",data:=.fields [.int lo t,.int hi u,.int 1 v].toArray }).objs.size],_,_,H,rfl,
  I1.kept (t':=tk) fun b o e=>dH _ e,aeU _ lo (hi-lo).toNat,?_,fun b hb=>?_,q]
 ·have e1:lo+((0:Nat):Int)*1=lo:=by simp
  have e2:(((hi-lo).toNat:Nat):Int)-((0:Nat):Int)=atb lo hi 1:=by rw[rangeSize_one];split <;> lia
  show IsRangeIter _ _ (lo+((0:Nat):Int)*1) ((((hi-lo).toNat:Nat):Int)-((0:Nat):Int)) 1;rw[e1,e2];exact dW _ rfl
 ·have e:b=(s.heap.push { cls:=.type "range",data:=.fields [.int lo t,.int hi u,.int 1 v].toArray }).objs.size:=by simpa using hb
  subst e;exact I1.ahM (bC _) (I1.hok.fresh (bC _))
noncomputable def iRng1(ta:TA):TI:=fun σ H R=>ta σ H fun vs H1=>∃j:Int,vs=[.int j] /\ -(2 ^ 62)<=j/\j<2 ^ 62/\R (Itr 0 j.toNat) H1
theorem tV(hg:Gl X "range")(hm:X.mg "range" = none)(ha:PA X [a] ta)(hs:cD [a] X.env=[(false,eval a X.env)]:=by rfl):PI X tg (.Call (.Name "range" p) [a] [] pos) (iRng1 ta):=by
 intro pins s σ H R I h;refine Call_ (nH I hg hm boot_range (Wh (thn (ha pos pins s σ H _ I h) fun us s1 zq=>?_) hs rfl));obtain⟨vs,H1,I1,r1,q1⟩:=zq;obtain⟨j,e,q1,q2,q⟩:=q1;subst e;cases r1 with
 |cons r rr =>
  cases rr;obtain⟨t,rfl⟩:=r;exact call_range_1 (amr I1 tb_g% tb_g% q1 q2 (by simpa using q))
noncomputable def tFor(wi:TI)(g:TG)(tb:TS):TS:=fun D σ H=>wi σ H fun J H1=>∃W:Nat->Nat->St->Hp->Prop,(∃m,W 0 m σ H1)/\∀i m σ H,W i m σ H ->
 (J.stop i H/\D.nx σ H)\/(J.go i H/\∃N:St->Hp->Prop,(∀σ' H',N σ' H'->∃m',m'<m/\W (i+1) m' σ' H')/\∀x H',J.yld i H x H'->g x σ H' fun σ2 H2=>tb { D with nx:=N,ct:=N,bk:=D.nx } σ2 H2)
noncomputable def Rh(fp:List Addr)(h:Heap):List (Addr × Obj):=fp.filterMap fun b=>(h.get? b).map fun o=>(b,o)
theorem vJ{h:Heap}(hb:b∈fp)(e:h.get? b=some o):(b,o)∈Rh fp h:=ajz.mpr #[b,hb,by rw[e];rfl]
theorem ahO(hp:p∈Rh fp h):p.1∈fp/\h.get? p.1=some p.2:=by
 obtain⟨b,hb,e⟩:=ajz.mp hp;cases q:h.get? b with
 |none=>rw[q]at e;cases e
 |some o =>
  rw[q]at e;have e':(b,o)=p:=cA e;subst e';show#[hb,q]
theorem Inv.pinned{σ:St}{H:Hp}{s:Shared}{fp:List Addr}(I:Inv X pins σ H s)(hf:∀b∈fp,Kc X pins H b)(ho:∀b∈fp,∃o,s⁻¹ b=some o/\∀v,o.data≠.cell v):Inv X (pins++Rh fp s.heap) σ H s:=
 I.agu fun p hp=>(bO.mp hp).elim (fun z=>I.pin p (wK _ z)) fun z=>by
  obtain⟨hb,e⟩:=ahO z;obtain⟨f0,f1,f2,_⟩:=hf p.1 hb;obtain⟨o,e',d⟩:=ho p.1 hb;rw[e]at e';cases e';show#[e,f0,f1,f2,d]
theorem Inv.zm{σ:St}{H:Hp}{s:Shared}(I:Inv X (pins++pl) σ H s):Inv X pins σ H s:=I.agu fun p hp=>I.pin p (wK _ (Xw _ hp))
theorem aeV(hp:adN (model X.prog X.w) X.A X.env X.xe)(hc:X.calm=true)(hi:PI X tg iter wi)(hg:PG X tg g)(hb:PSs X body tb)
  (hs:∀x,yx iter X.env x=pure x:=by intro _;rfl):PS X (.For tg iter body [] pos) (tFor wi g tb):=by
 intro pins s σ H D I h;refine wpAny_For (thn (hi pins s σ H _ I h) fun v s1 h1=>thn h1 fun itv s2 h2=>?_) hs;obtain⟨it,fp,tn,J,H2,e,I2,T,st2,f2,W,⟨m0,w0⟩,turn⟩:=h2;subst e;have stat:∀{H':Hp},(∀b∈fp,H' b=none)->∀b∈fp,Kc X pins H' b:=fun hn b hb=>#[hn b hb,(f2 b hb).2];refine codeAny_forLoop_any (fun n s'=>∃i σ' H',Inv X pins σ' H' s'/\tn i s'.heap/\(∀b∈fp,H' b=none)/\W i n σ' H') ?_ m0 #[0,σ,H2,I2,st2,fun b hb=>(f2 b hb).1,w0];rintro n s3 ⟨i,σ3,H3,I3,st3,fr3,w3⟩;rcases turn i n σ3 H3 w3 with⟨stop,qn⟩|⟨go,N,hN,step⟩
 ·refine Dc hp (thn (T.done X rfl rfl rfl hc i pins s3 σ3 H3 X.xe I3 (stat fr3) st3 stop) fun r s4 zq=>?_);obtain⟨hr,I4⟩:=zq;subst hr;exact X8 #[σ3,H3,I4,qn]
 ·refine Dc hp (thn (T.item X rfl rfl rfl hc i pins s3 σ3 H3 X.xe I3 (stat fr3) st3 go) fun r s4 zq=>?_);obtain⟨u,hr,h4⟩:=zq;subst hr;refine Dc hp (thn h4 fun _ s5 zq=>?_);obtain⟨x,H5,I5,r5,y5,st5,fr5⟩:=zq;have I5':=I5.pinned (stat fr5) (T.obj _ _ st5);refine Dc hp (thn (hg _ s5 σ3 H5 x u _ I5' r5 (step x H5 y5)) fun _ s6 zq=>?_);obtain⟨σ6,H6,I6,q6⟩:=zq;refine Dc hp (thn (hb _ s6 σ6 H6 _ I6 q6) fun f s7 q7=>?_);have again:∀{σ7:St}{H7:Hp},Inv X (pins++Rh fp s5.heap) σ7 H7 s7->N σ7 H7->∃m,m<n/\∃i σ' H',Inv X pins σ' H' s7/\tn i s7.heap/\(∀b∈fp,H' b=none)/\W i m σ' H':=fun {σ7 H7} I7 n7=>by
   obtain⟨m',hm,w7⟩:=hN σ7 H7 n7;show#[m',hm,i+1,σ7,H7,I7.zm,T.keep _ _ _ st5 fun b hb o e=>(I7.pin (b,o) (wK _ (wK _ (vJ hb e)))).1,fun b hb=>?_,w7];obtain⟨o,e,d⟩:=T.obj _ _ st5 b hb;exact(I7.pin (b,o) (wK _ (wK _ (vJ hb e)))).2.1
  cases f with
  |next=>obtain⟨σ7,H7,I7,n7⟩:=q7;exact again I7 n7
  |cont=>obtain⟨σ7,H7,I7,n7⟩:=q7;exact again I7 n7
  |brk=>obtain⟨σ7,H7,I7,q7⟩:=q7;show#[σ7,H7,I7.zm,q7]
  |ret v=>obtain⟨x7,σ7,H7,I7,r7,q7⟩:=q7;show#[x7,σ7,H7,I7.zm,r7,q7]
end
theorem dR{K:aH}{a:Addr}{xs:List V}{g:TG}{tb:TS}{D:Ends}{σ:St}{H:Hp}(Pv:Nat->St->Hp->Prop)(h0:Pv 0 σ H)(hl:∀i σ H,i<=xs.length->Pv i σ H->SqL K H a xs)
  (hs:∀i x σ H,xs[i]? = some x->Pv i σ H->g x σ H fun σ2 H2=>tb { D with nx:=Pv (i+1),ct:=Pv (i+1),bk:=D.nx } σ2 H2) (hd:∀σ H,Pv xs.length σ H->D.nx σ H):
  ∃W:Nat->Nat->St->Hp->Prop,(∃m,W 0 m σ H)/\∀i m σ H,W i m σ H ->
   ((Itl K a).stop i H/\D.nx σ H)\/((Itl K a).go i H/\∃N:St->Hp->Prop,(∀σ' H',N σ' H'->∃m',m'<m/\W (i+1) m' σ' H')/\∀x H',(Itl K a).yld i H x H'->g x σ H' fun σ2 H2=>tb { D with nx:=N,ct:=N,bk:=D.nx } σ2 H2):=by
 show#[fun i m σ H=>m=xs.length-i/\i<=xs.length/\Pv i σ H,#[xs.length,by simp,bF _,h0],?_];rintro i m σ H ⟨rfl,hi,p⟩;have q:=hl i σ H hi p;by_cases hlt:i<xs.length
 ·refine .inr #[#[xs,xs[i],q,by simp[hlt]],Pv (i+1),fun σ' H' p'=>#[xs.length-(i+1),by lia,rfl,hlt,p'],fun x H' y=>?_];obtain⟨e,y⟩:=y;subst e;exact hs i x σ _ (y xs q) p
 ·have e:i=xs.length:=by lia
  subst e;exact .inl #[#[xs,q,bC _],hd σ H p]
theorem Am{lo:Int}{n:Nat}{g:TG}{tb:TS}{D:Ends}{σ:St}{H:Hp}(Pv:Nat->St->Hp->Prop)(h0:Pv 0 σ H)
  (hs:∀i σ H,i<n->Pv i σ H->g (.int (lo+i)) σ H fun σ2 H2=>tb { D with nx:=Pv (i+1),ct:=Pv (i+1),bk:=D.nx } σ2 H2) (hd:∀σ H,Pv n σ H->D.nx σ H):
  ∃W:Nat->Nat->St->Hp->Prop,(∃m,W 0 m σ H)/\∀i m σ H,W i m σ H ->
   ((Itr lo n).stop i H/\D.nx σ H)\/((Itr lo n).go i H/\∃N:St->Hp->Prop,(∀σ' H',N σ' H'->∃m',m'<m/\W (i+1) m' σ' H')/\∀x H',(Itr lo n).yld i H x H'->g x σ H' fun σ2 H2=>tb { D with nx:=N,ct:=N,bk:=D.nx } σ2 H2):=by
 show#[fun i m σ H=>m=n-i/\i<=n/\Pv i σ H,#[n,by simp,bF _,h0],?_];rintro i m σ H ⟨rfl,hi,p⟩;by_cases hlt:i<n
 ·refine .inr #[hlt,Pv (i+1),fun σ' H' p'=>#[n-(i+1),by lia,rfl,hlt,p'],fun x H' y=>?_];obtain⟨e,y⟩:=y;subst e y;exact hs i σ _ hlt p
 ·have e:i=n:=by lia
  subst e;exact .inl #[bC _,hd σ H p]
theorem tW(Pv:St->Hp->Prop)(μ:St->Hp->Nat)(h0:Pv σ H)
  (hs:∀σ H,Pv σ H->c σ H fun b H1=>if b=true then tb { D with nx:=fun σ' H'=>Pv σ' H'/\μ σ' H'<μ σ H,ct:=fun σ' H'=>Pv σ' H'/\μ σ' H'<μ σ H,bk:=D.nx } σ H1 else D.nx σ H1)
  (mono:∀σ H Q Q',(∀b H1,Q b H1->Q' b H1)->c σ H Q->c σ H Q'):Rg c tb D σ H:=by
 show#[fun m σ H=>m=μ σ H/\Pv σ H,#[_,rfl,h0],?_];rintro m σ H ⟨rfl,p⟩;refine mono σ H _ _ (fun b H1 q=>?_) (hs σ H p);cases b with
 |true=>show#[_,fun σ' H' ⟨p',l⟩=>#[_,l,rfl,p'],q]
 |false=>exact q
noncomputable abbrev R2:=V->V->Hp->VK->Prop
noncomputable def OpR(X:Cx)(f:Value->Value->Sem Value)(r:R2):Prop:=
 ∀(pins:List (Addr × Obj)) (s:Shared) (σ:St) (H:Hp) (x y:V) (v u:Value) (Q:VK),Inv X pins σ H s->RelV x v->RelV y u->r x y H Q ->
  wpAny (model X.prog X.w) X.A (f v u) (EP X pins σ Q) X.xe s
noncomputable def UnR(X:Cx)(f:Value->Sem Value)(r:V->Hp->VK->Prop):Prop:=
 ∀(pins:List (Addr × Obj)) (s:Shared) (σ:St) (H:Hp) (x:V) (v:Value) (Q:VK),Inv X pins σ H s->RelV x v->r x H Q ->
  wpAny (model X.prog X.w) X.A (f v) (EP X pins σ Q) X.xe s
noncomputable def gU(X:Cx)(f:Value)(r:List V->Hp->VK->Prop):Prop:=
 ∀(pins:List (Addr × Obj)) (s:Shared) (σ:St) (H:Hp) (xs:List V) (us:List Value) (Q:VK),Inv X pins σ H s->Vals xs us->r xs H Q ->
  wpAny (model X.prog X.w) X.A (call f us) (EP X pins σ Q) X.xe s
@[reducible] noncomputable def tOp(r:R2)(ta tb:TE):TE:=fun σ H Q=>ta σ H fun x H1=>tb σ H1 fun y H2=>r x y H2 Q
noncomputable def tUn(r:V->Hp->VK->Prop)(ta:TE):TE:=fun σ H Q=>ta σ H fun x H1=>r x H1 Q
inductive rI (C:Int->Int->Prop) (g:Int->Int->V) (x y:V) (H:Hp) (Q:VK):Prop
 |k (i j:Int):x=.int i->y=.int j->C i j->Q (g i j) H->rI C g x y H Q
inductive rI0 (g:Int->Int->V) (x y:V) (H:Hp) (Q:VK):Prop
 |k (i j:Int):x=.int i->y=.int j->Q (g i j) H->rI0 g x y H Q
noncomputable def rU(g:Int->V):V->Hp->VK->Prop:=fun x H Q=>∃i,x=.int i/\Q (g i) H
section
variable{X:Cx}
theorem binT(ha:PE X a ta)(hb:PE X b tb){pins:List (Addr × Obj)}{s:Shared}{σ:St}{H:Hp}{R:V->V->Hp->Prop}(I:Inv X pins σ H s)
  (h:ta σ H fun x H1=>tb σ H1 fun y H2=>R x y H2) {Q:Value->Shared->Prop} {f:Value->Value->Sem Value}
  (hf:∀v u s2 x y H2,Inv X pins σ H2 s2->RelV x v->RelV y u->R x y H2->wpAny (model X.prog X.w) X.A (f v u) Q X.xe s2):
  wpAny (model X.prog X.w) X.A (eval a X.env) (fun v s₁=>wpAny (model X.prog X.w) X.A (eval b X.env) (fun u s₂=>wpAny (model X.prog X.w) X.A (f v u) Q X.xe s₂) X.xe s₁) X.xe s:=by
 refine thn (ha pins s σ H _ I h) fun v s1 zq=>?_;obtain⟨x,H1,I1,r1,q1⟩:=zq;refine thn (hb pins s1 σ H1 _ I1 q1) fun u s2 zq=>?_;obtain⟨y,H2,I2,r2,q2⟩:=zq;exact hf v u s2 x y H2 I2 r1 r2 q2
theorem eO(ho:OpR X (jH op) r)(ha:PE X a ta)(hb:PE X b tb):PE X (.BinOp a op b pos) (tOp r ta tb):=by
 intro pins s σ H Q I h;exact wpAny_BinOp (binT ha hb I h fun v u s2 x y H2 I2 rx ry q=>ho pins s2 σ H2 x y v u Q I2 rx ry q)
theorem arn(ho:UnR X (unaryOp op) r)(ha:PE X a ta):PE X (.UnaryOp op a pos) (tUn r ta):=by
 intro pins s σ H Q I h;exact UnaryOp_ (thn (ha pins s σ H _ I h) fun v s1 ⟨x,H1,I1,r1,q1⟩=>ho pins s1 σ H1 x v Q I1 r1 q1)
theorem opI{f:Value->Value->Sem Value}{C:Int->Int->Prop}{g:Int->Int->Int}
  (rule:∀i j t u s Q E,C i j->Q (.int (g i j) s.toks) { s with toks:=s.toks+1 }->wpAny (model X.prog X.w) X.A (f (.int i t) (.int j u)) Q E s):
  OpR X f (rI C fun i j=>.int (g i j)):=by
 intro pins s σ H x y v u Q I rx ry h;obtain⟨i,j,rfl,rfl,hc,q⟩:=h;obtain⟨t,rfl⟩:=rx;obtain⟨t',rfl⟩:=ry;exact rule i j t t' s _ _ hc #[.int (g i j),H,I.tok _,#[_,rfl],q]
theorem opI0{f:Value->Value->Sem Value}{g:Int->Int->Int}
  (rule:∀i j t u s Q E,Q (.int (g i j) s.toks) { s with toks:=s.toks+1 }->wpAny (model X.prog X.w) X.A (f (.int i t) (.int j u)) Q E s):
  OpR X f (rI0 fun i j=>.int (g i j)):=by
 intro pins s σ H x y v u Q I rx ry h;obtain⟨i,j,rfl,rfl,q⟩:=h;obtain⟨t,rfl⟩:=rx;obtain⟨t',rfl⟩:=ry;exact rule i j t t' s _ _ #[.int (g i j),H,I.tok _,#[_,rfl],q]
theorem opB0{f:Value->Value->Sem Value}{g:Int->Int->Bool}
  (rule:∀i j t u s Q E,Q (.bool (g i j)) s->wpAny (model X.prog X.w) X.A (f (.int i t) (.int j u)) Q E s):
  OpR X f (rI0 fun i j=>.bl (g i j)):=by
 intro pins s σ H x y v u Q I rx ry h;obtain⟨i,j,rfl,rfl,q⟩:=h;obtain⟨t,rfl⟩:=rx;obtain⟨t',rfl⟩:=ry;exact rule i j t t' s _ _ #[.bl (g i j),H,I,rfl,q]
noncomputable def CDiv(i j:Int):Prop:=0<j/\j<1073741824
noncomputable def CPow(i j:Int):Prop:=0<=j/\j<=1000000/\i.natAbs<2 ^ 64
noncomputable def ams(i j:Int):Prop:=(-(2 ^ 64)<i/\i<2 ^ 64)\/(-(2 ^ 64)<j/\j<2 ^ 64)
theorem ams.ok(h:ams i j):adT i j:=by
 rcases h with⟨h1,h2⟩|⟨h1,h2⟩
 ·exact .of_left (akl h1 h2)
 ·exact .of_right (akl h1 h2)
theorem aeW(k:Nat):(0:Int)<=2 ^ k:=by
 rw[two_pow_cast];exact Int.natCast_nonneg _
theorem dX:OpR X (jH .Add) (rI0 fun i j=>.int (i+j)):=opI0 fun _ _ _ _ _ _ _ q=>add_int q
theorem zp:OpR X (jH .Sub) (rI0 fun i j=>.int (i-j)):=opI0 fun _ _ _ _ _ _ _ q=>sub_int q
theorem aeX:OpR X (jH .Mult) (rI ams fun i j=>.int (i*j)):=opI fun _ _ _ _ _ _ _ hc q=>mul_int q hc.ok
theorem Gn:OpR X (jH .FloorDiv) (rI CDiv fun i j=>.int (i / j)):=opI fun i j _ _ _ _ _ hc q=>by
 have h1:(0:Int)<j:=hc.1;have h2:j<1073741824:=hc.2;exact aef tb_g% (by rwa[QF i tb_g%]) (.inl (PyProof.noPylong_small tb_g%))
theorem atH:OpR X (jH .Mod) (rI (fun _ j=>0<j) fun i j=>.int (i % j)):=opI fun i j _ _ _ _ _ hc q=>by
 have h1:(0:Int)<j:=hc;exact mod_int' tb_g% (by rwa[Int.fmod_eq_emod_of_nonneg i tb_g%])
theorem atJ:OpR X (jH .LShift) (rI CPow fun i j=>.int (i*2 ^ j.toNat)):=opI fun _ _ _ _ _ _ _ hc q=>lshift_int_small hc.1 hc.2.1 hc.2.2 q
theorem atL:OpR X (jH .RShift) (rI (fun _ j=>0<=j) fun i j=>.int (i / 2 ^ j.toNat)):=opI fun i j _ _ _ _ _ hc q =>
 rshift_int hc (by rwa[QF i (aeW _)])
theorem unI{f:Value->Sem Value}{g:Int->Int}
  (rule:∀i t s Q E,Q (.int (g i) s.toks) { s with toks:=s.toks+1 }->wpAny (model X.prog X.w) X.A (f (.int i t)) Q E s):
  UnR X f (rU fun i=>.int (g i)):=by
 intro pins s σ H x v Q I rx h;obtain⟨i,rfl,q⟩:=h;obtain⟨t,rfl⟩:=rx;exact rule i t s _ _ #[.int (g i),H,I.tok _,#[_,rfl],q]
theorem amt:UnR X (unaryOp .USub) (rU fun i=>.int (-i)):=unI fun _ _ _ _ _ q=>neg_int q
end
noncomputable def scal:V->V->Bool
 | .non,.non=>true | .non,.int _=>true | .int _,.non=>true | .non,.bl _=>true | .bl _,.non=>true | .non,.str _=>true | .str _,.non=>true
 | .int _,.int _=>true | .bl _,.bl _=>true | .str _,.str _=>true | .byt _,.byt _=>true
 | .int _,.str _=>true | .str _,.int _=>true | .bl _,.str _=>true | .str _,.bl _=>true
 |_,_=>false
noncomputable def rEq:R2:=fun x y H Q=>scal x y=true/\Q (.bl (decide (x=y))) H
noncomputable def rNe:R2:=fun x y H Q=>scal x y=true/\Q (.bl (!decide (x=y))) H
theorem agx:decide (V.int i=V.int j)=(i == j):=by
 rw[Y9];simp
theorem amu:decide (V.bl i=V.bl j)=(i == j):=by
 rw[Y9];simp
theorem agy:decide (V.str i=V.str j)=(i == j):=by
 rw[Y9];simp
theorem agz:decide (V.byt i=V.byt j)=(i.toList == j.toList):=by
 rw[Y9];cases i;cases j;simp
section
variable{X:Cx}{a b c:Expr}
theorem cO{σ:St}{H:Hp}{s:Shared}{Q:VK}{k k':Bool}(I:Inv X pins σ H s)(q:Q (.bl k) H)(e:k=k'):EP X pins σ Q (.bool k') s:=by
 subst e;show#[.bl k,H,I,rfl,q]
theorem agA:OpR X (gq .Eq) rEq:=by
 intro pins s σ H x y v u Q I rx ry h;obtain⟨hs,q⟩:=h;cases x with
 |non =>
  cases rx;cases y with
  |non=>cases ry;exact asJ (cO I q (by simp))
  |bl j=>cases ry;exact asK (cO I q (by simp))
  |int j=>obtain⟨t',rfl⟩:=ry;exact asQ (cO I q (by simp))
  |str j=>obtain⟨t',rfl⟩:=ry;exact asR (cO I q (by simp))
  |_=>exact mI (show false=true from hs) iR
 |bl i =>
  cases rx;cases y with
  |non=>cases ry;exact asL (cO I q (by simp))
  |bl j=>cases ry;exact eq_bool (cO I q amu)
  |str j=>obtain⟨t',rfl⟩:=ry;exact asZ (cO I q (by simp))
  |_=>exact mI (show false=true from hs) iR
 |int i =>
  obtain⟨t,rfl⟩:=rx;cases y with
  |non=>cases ry;exact asS (cO I q (by simp))
  |int j=>obtain⟨t',rfl⟩:=ry;exact eq_int (cO I q agx)
  |str j=>obtain⟨t',rfl⟩:=ry;exact as6 (cO I q (by simp))
  |_=>exact mI (show false=true from hs) iR
 |str i =>
  obtain⟨t,rfl⟩:=rx;cases y with
  |non=>cases ry;exact asT (cO I q (by simp))
  |bl j=>cases ry;exact as3 (cO I q (by simp))
  |int j=>obtain⟨t',rfl⟩:=ry;exact as7 (cO I q (by simp))
  |str j=>obtain⟨t',rfl⟩:=ry;exact eq_str (cO I q agy)
  |_=>exact mI (show false=true from hs) iR
 |byt i =>
  obtain⟨t,rfl⟩:=rx;cases y with
  |byt j=>obtain⟨t',rfl⟩:=ry;exact PySem.W.eq_bytes (cO I q agz)
  |_=>exact mI (show false=true from hs) iR
 |_=>cases y <;> exact mI (show false=true from hs) iR
theorem aro:OpR X (gq .NotEq) rNe:=by
 intro pins s σ H x y v u Q I rx ry h;obtain⟨hs,q⟩:=h;cases x with
 |non =>
  cases rx;cases y with
  |non=>cases ry;exact asM (cO I q (by simp))
  |bl j=>cases ry;exact asN (cO I q (by simp))
  |int j=>obtain⟨t',rfl⟩:=ry;exact asU (cO I q (by simp))
  |str j=>obtain⟨t',rfl⟩:=ry;exact asV (cO I q (by simp))
  |_=>exact mI (show false=true from hs) iR
 |bl i =>
  cases rx;cases y with
  |non=>cases ry;exact asO (cO I q (by simp))
  |bl j=>cases ry;exact ne_bool (cO I q (mM not amu))
  |str j=>obtain⟨t',rfl⟩:=ry;exact as4 (cO I q (by simp))
  |_=>exact mI (show false=true from hs) iR
 |int i =>
  obtain⟨t,rfl⟩:=rx;cases y with
  |non=>cases ry;exact asW (cO I q (by simp))
  |int j=>obtain⟨t',rfl⟩:=ry;exact ne_int (cO I q (mM not agx))
  |str j=>obtain⟨t',rfl⟩:=ry;exact as8 (cO I q (by simp))
  |_=>exact mI (show false=true from hs) iR
 |str i =>
  obtain⟨t,rfl⟩:=rx;cases y with
  |non=>cases ry;exact asY (cO I q (by simp))
  |bl j=>cases ry;exact as5 (cO I q (by simp))
  |int j=>obtain⟨t',rfl⟩:=ry;exact as9 (cO I q (by simp))
  |str j=>obtain⟨t',rfl⟩:=ry;exact ne_str (cO I q (mM not agy))
  |_=>exact mI (show false=true from hs) iR
 |byt i =>
  obtain⟨t,rfl⟩:=rx;cases y with
  |byt j=>obtain⟨t',rfl⟩:=ry;exact PySem.W.ne_bytes (cO I q (mM not agz))
  |_=>exact mI (show false=true from hs) iR
 |_=>cases y <;> exact mI (show false=true from hs) iR
theorem amv:OpR X (gq .Lt) (rI0 fun i j=>.bl (decide (i<j))):=opB0 fun _ _ _ _ _ _ _ q=>lt_int q
theorem agB:OpR X (gq .LtE) (rI0 fun i j=>.bl (decide (i<=j))):=opB0 fun _ _ _ _ _ _ _ q=>le_int q
theorem agC:OpR X (gq .Gt) (rI0 fun i j=>.bl (decide (j<i))):=opB0 fun _ _ _ _ _ _ _ q=>gt_int q
theorem arp:OpR X (gq .GtE) (rI0 fun i j=>.bl (decide (j<=i))):=opB0 fun _ _ _ _ _ _ _ q=>ge_int q
theorem aeY:OpR X (gq .Is) (fun x y H Q=>y=.non/\Q (.bl (decide (x=.non))) H):=by
 intro pins s σ H x y v u Q I rx ry h;obtain⟨rfl,q⟩:=h;cases ry;refine is_none_gen (cO I q ?_);cases x <;> first
  |(cases rx;rfl)
  |(obtain⟨t,rfl⟩:=rx;rfl)
theorem Zx:OpR X (gq .IsNot) (fun x y H Q=>y=.non/\Q (.bl (!decide (x=.non))) H):=by
 intro pins s σ H x y v u Q I rx ry h;obtain⟨rfl,q⟩:=h;cases ry;refine isnot_none_gen (cO I q ?_);cases x <;> first
  |(cases rx;rfl)
  |(obtain⟨t,rfl⟩:=rx;rfl)
theorem jU(b:Expr){op:CmpOp}(h:op≠.In:=by decide)(h2:op≠.NotIn:=by decide):Yj op b=false:=by
 have e1:(op == CmpOp.In)=false:=by cases op <;> first|rfl|exact mI rfl h
 have e2:(op == CmpOp.NotIn)=false:=by cases op <;> first|rfl|exact mI rfl h2
 cases b <;> simp[Yj,e1,e2]
theorem apz(ho:OpR X (gq op) r)(ha:PE X a ta)(hb:PE X b tb)(hm:Yj op b=false):PE X (.Compare a [op] [b] pos) (tOp r ta tb):=by
 intro pins s σ H Q I h;exact wpAny_Compare1 (binT ha hb I h fun v u s2 x y H2 I2 rx ry q=>ho pins s2 σ H2 x y v u Q I2 rx ry q) hm
inductive RB (x:V) (H:Hp) (Q:Bool->Hp->Prop):Prop
 |k (b:Bool):x=.bl b->Q b H->RB x H Q
@[reducible] noncomputable def Ml(t:TE):TT:=fun σ H Q=>t σ H fun x H'=>RB x H' Q
theorem gw(ho:OpR X (gq op) r)(ha:PE X a ta)(hb:PE X b tb)(hm:Yj op b=false):PT X (.Compare a [op] [b] pos) (Ml (tOp r ta tb)):=by
 intro pins s σ H Q I h;refine wpAny_isTrue_Compare1 (thn (ha pins s σ H _ I h) fun v s1 ⟨x,H1,I1,r1,q1⟩=>thn (hb pins s1 σ H1 _ I1 q1) fun u s2 ⟨y,H2,I2,r2,q2⟩ =>
  thn (ho pins s2 σ H2 x y v u _ I2 r1 r2 q2) fun c s3 ⟨z,H3,I3,r3,k,e,q3⟩=>?_) hm
 subst e;cases r3;exact CW #[H3,I3,q3]
noncomputable def atM(r r':R2)(ta tb tc:TE):TE:=fun σ H Q=>ta σ H fun x H1=>tb σ H1 fun y H2=>r x y H2 fun z H3=>∃k,z=.bl k /\
 (if k=true then tc σ H3 fun w' H4=>r' y w' H4 Q else Q (.bl false) H3)
theorem abl(ho:OpR X (gq op) r)(ho':OpR X (gq op') r')(ha:PE X a ta)(hb:PE X b tb)(hc:PE X c tc)
  (hm:lastMarks [op,op'] [b,c]=false:=by with_unfolding_all rfl):PE X (.Compare a [op,op'] [b,c] pos) (atM r r' ta tb tc):=by
 intro pins s σ H Q I h;refine Compare_chain (thn (ha pins s σ H _ I h) fun v s1 ⟨x,H1,I1,r1,q1⟩=>chain_link (thn (hb pins s1 σ H1 _ I1 q1) fun u s2 ⟨y,H2,I2,r2,q2⟩ =>
  thn (ho pins s2 σ H2 x y v u _ I2 r1 r2 q2) fun d s3 ⟨z,H3,I3,r3,k,e,q3⟩=>?_)) hm
 subst e;cases r3;refine CW ?_;cases k with
 |false=>exact ite_ff #[.bl false,H3,I3,rfl,q3]
 |true=>exact ite_tt (chain_last (thn (hc pins s3 σ H3 _ I3 q3) fun w' s4 ⟨z',H4,I4,r4,q4⟩=>ho' pins s4 σ H4 y z' u w' Q I4 r2 r4 q4))
theorem Zy:(sizeLine:Nat)<2 ^ 63:=by rw[Yk];decide
theorem vals1(r:Vals [x] us):∃u,us=[u]/\RelV x u:=by
 cases r with
 |cons r1 r2=>cases r2;show#[_,rfl,r1]
theorem vals2(r:Vals [x,y] us):∃u w',us=[u,w']/\RelV x u/\RelV y w':=by
 cases r with
 |cons r1 r2 =>
  cases r2 with
  |cons r3 r4=>cases r4;show#[_,_,rfl,r1,r3]
theorem lG(hc:X.calm=true):gU X (.builtin "max") (fun xs H Q=>∃i j,xs=[.int i,.int j]/\Q (.int (if j>i then j else i)) H):=by
 intro pins s σ H xs us Q I r h;obtain⟨i,j,rfl,q⟩:=h;obtain⟨u,w',rfl,⟨t,rfl⟩,⟨t',rfl⟩⟩:=vals2 r;refine max_two_ints (I.ok.hd hc) fun h' tk k=>#[_,H,I.kept k,?_,q];by_cases hj:j>i
 ·rw[mB hj,mB hj];show#[_,rfl]
 ·rw[mw hj,mw hj];show#[_,rfl]
theorem Ao(hc:X.calm=true):gU X (.builtin "min") (fun xs H Q=>∃i j,xs=[.int i,.int j]/\Q (.int (if j<i then j else i)) H):=by
 intro pins s σ H xs us Q I r h;obtain⟨i,j,rfl,q⟩:=h;obtain⟨u,w',rfl,⟨t,rfl⟩,⟨t',rfl⟩⟩:=vals2 r;refine min_two_ints (I.ok.hd hc) fun h' tk k=>#[_,H,I.kept k,?_,q];by_cases hj:j<i
 ·rw[mB hj,mB hj];show#[_,rfl]
 ·rw[mw hj,mw hj];show#[_,rfl]
noncomputable def LenV(K:aH)(x:V)(H:Hp)(n:Nat):Prop:=
 match x with
 | .str y=>y.length<=sizeLine/\n=y.length
 | .byt y=>y.size<=sizeLine/\n=y.size
 | .ref p=>(∃xs,SqL K H p xs/\n=xs.length)\/∃xs,SqT K H p xs/\n=xs.length
 |_=>False
theorem amw:gU X (.builtin "len") (fun xs H Q=>∃x n,xs=[x]/\LenV X.K x H n/\Q (.int n) H):=by
 intro pins s σ H xs us Q I r h;obtain⟨x,n,rfl,e,q⟩:=h;obtain⟨u,rfl,rx⟩:=vals1 r;have hl:=Zy;have hs:sizeLine=16777216:=Yk;cases x with
 |str y =>
  obtain⟨t,rfl⟩:=rx;obtain⟨hy,e'⟩:y.length<=sizeLine/\n=y.length:=e;subst e';exact len_str tb_g% #[.int _,H,I.tok _,#[_,rfl],q]
 |byt y =>
  obtain⟨t,rfl⟩:=rx;obtain⟨hy,e'⟩:y.size<=sizeLine/\n=y.size:=e;subst e';exact PySem.W.len_bytes tb_g% #[.int _,H,I.tok _,#[_,rfl],q]
 |ref p =>
  cases rx;have e':(∃xs,SqL X.K H p xs/\n=xs.length)\/∃xs,SqT X.K H p xs/\n=xs.length:=e;rcases e' with⟨xs,hx,e'⟩|⟨xs,hx,e'⟩
  ·subst e';obtain⟨its,r',pl,hz⟩:=I.list hx;have hlen:=r'.length;exact Calls.call_len_list pl.isList (by simp only[cN];lia) #[.int xs.length,H,I.tok _,#[_,by simp only[cN];rw[hlen]],q]
  ·subst e';obtain⟨its,r',pl,hz⟩:=I.tuple hx;have hlen:=r'.length;exact len_tuple pl (by simp only[cN];lia) #[.int xs.length,H,I.tok _,#[_,by simp only[cN];rw[hlen]],q]
 |_=>exact(show False from e).elim
end
structure aeZ(h:Heap)(x dx C:Addr)(mA:Str->Option Value):Prop where
 obj:h.get? x=some (yu C dx)
 ns:h.Ns1 dx mA
 ne:dx≠x
theorem ahP{h:Heap}(n:h.Ns1 dx mA):∃od,h.get? dx=some od/\∀name,XR name od=some (mA name):=by
 obtain⟨o,es,ep,ho,hd,hk,_,hm⟩:=n;show#[o,ho,fun name=>?_];have e:=hm name;unfold nsFind findBy at e;rw[<-Array.find?_toList]at e;unfold XR;rw[hd];dsimp only;split
 ·rename_i y q;rw[q]at e;exact mM some e
 ·rename_i q;rw[q]at e;have a:es.toList.any (·.refKey)=false:=by
   rw[List.any_eq_false];intro y hy;obtain⟨z,t,hkey⟩:=hk y (Array.mem_toList_iff.mp hy);simp[atj,hkey]
  have a':¬ es.toList.any (·.refKey)=true:=by rw[a];exact iR
  rw[mw a'];exact mM some e
theorem aeZ.look(I:aeZ h x dx C mA):∃od,PySem.W.InstAt h x (yu C dx) C (some od)/\∀name,XR name od=some (mA name):=
 let ⟨od,ho,hl⟩:=ahP I.ns
 #[od,#[I.obj,rfl,rfl,ho],hl]
section
variable{A:aY}{s:Shared}{K:aH}
theorem get_map(X:K.In s.heap)(I:aeZ s.heap x dx C mA)(hg:Jo K C name=true)(hh:Qe K C=true)
  (ha:lY K (.ref C) name=some none) (hv:mA name=some v) (hv':ajV v=true) (h:Q v { s with toks:=s.toks+1 }):
  wpAny (model prog w) A (getAttr (.ref x) name expr) Q E s:=by
 obtain⟨od,J,hl⟩:=I.look;exact PySem.W.get_value X J (adq hg).1 (PySem.W.findObj_own hh ha rfl (by rw[hl,hv])) hv' h
theorem amx(X:K.In s.heap)(I:aeZ s.heap x dx C mA)(hg:Jo K C name=true)
  (hf:lY K (.ref C) name=some (some (.ref f))) (ht:Qg K (.ref f)=true) (hv:mA name=none) (h:Q (.ref f,[.ref x]) s):
  wpAny (model prog w) A (Qp (.ref x) name pl) Q E s:=by
 obtain⟨od,J,hl⟩:=I.look;exact PySem.W.method_fn X J (adq hg).1 (adq hg).2 hf (beq_iff_eq.mp ht) (by show(XR name od).map (·.isSome)=some false;rw[hl,hv];rfl) h
theorem apA(X:K.In s.heap)(I:aeZ s.heap x dx C mA)
  (hs:lY K (.ref C) "__setattr__" = some (some (.builtin "object.__setattr__"))) (hp:XM K C=true) (ht:adw K C name=some none) (hh:Qe K C=true)
  (hw:adD mA ns) (hsz:ns.length<=sizeLine)
  (h:∀h',aeZ h' x dx C (fun y=>if y=name then some v else mA y)->yJ dx s.heap h'->Q () { s with heap:=h',toks:=s.toks+2 }):
  wpAny (model prog w) A (setAttr (.ref x) name v) Q E s:=by
 obtain⟨od,J,hl⟩:=I.look;refine PySem.W.set_plain X J hs (PySem.W.osa_open (s:={ s with toks:=s.toks+1 }) (r:=none) X J hp ht fun b=>?_);obtain⟨cd,hc,hd'⟩:=PySem.W.any_some hh;have hx:s⁻¹ x=some #[.ref C,some dx,.plain,#[]]:=I.obj;refine aB (aN (aB (aB (wpAny_loadPart hx (aB (atg (s:={ s with toks:=s.toks+1 }) (PySem.W.looks_clsIn X hc) ?_))))));rw[hd'];refine aN (a:=some dx) (aB (aN (aB ?_)));refine wpAny_nsSet1 (s:={ s with toks:=s.toks+1 }) I.ns fun h' hn2 hs2=>?_;obtain⟨oD,esD,epD,hoD,hdD,hcD⟩:=hn2.count (ath name v hw);refine aB (wpAny_lookBehind hoD (by rw[hdD];exact pastItsLine_dict (cH hcD (by rw[fu];lia))) ?_);exact aN (h _ #[(hs2.2 _ (aG I.ne)).trans I.obj,hn2,I.ne] hs2)
theorem amy(X:K.In s.heap)(hm:XQ K C=true)
  (hi:lY K (.ref C) "__init__" = some (some (.ref f))) (hf:PySem.W.typeIn K (.ref f)=some (.type "function"))
  (h:gO (model prog w) (A.under (.builtin "type.__call__" #[.ref C::vs,kw])) (.call (.ref f) #[.ref (~~~s+1)::vs,kw]) (PySem.W.InitBack (~~~s+1) R)
   { s with heap:=(s.heap.push uT).push (yu C (~~~s)) }) :
  gO (model prog w) A (.call (.ref C) #[vs,kw]) R s:=by
 obtain⟨hh,g,d,t,os⟩:=s;exact PySem.W.make_core (PySem.W.makes_of X hm) (PySem.W.looks_findIn X hi) (fun self=>PySem.W.bind_fn X self hf) (.inl rfl) h
end
noncomputable def bW(f:Str)(v:V):List (Str × V)->List (Str × V)
 |[]=>[(f,v)]
 |(g,x)::r=>if g=f then(g,v)::r else(g,x)::bW f v r
theorem Mp(f g:Str)(v:V):∀fs:List (Str × V),(bW f v fs).lookup g=if g=f then some v else fs.lookup g
 |[]=>by
  show CV g [(f,v)]=_;by_cases h:g=f
  ·have hb:(g == f)=true:=beq_iff_eq.mpr h;simp only[CV,hb,mB h]
  ·have hb:(g == f)=false:=xj.mpr h;simp only[CV,hb,mw h]
 |(k,x)::r=>by
  have ih:=Mp f g v r;rw[show bW f v ((k,x)::r)=(if k=f then(k,v)::r else(k,x)::bW f v r)from rfl];by_cases hk:k=f
  ·rw[mB hk];by_cases h:g=k
   ·have hb:(g == k)=true:=beq_iff_eq.mpr h;simp only[CV,hb,mB (h.trans hk)]
   ·have hb:(g == k)=false:=xj.mpr h;simp only[CV,hb,mw (fun e:g=f=>h (e.trans hk.symm))]
  ·rw[mw hk];by_cases h:g=k
   ·have hb:(g == k)=true:=beq_iff_eq.mpr h;simp only[CV,hb,mw (fun e:g=f=>hk (h.symm.trans e))]
   ·have hb:(g == k)=false:=xj.mpr h;simp only[CV,hb];exact ih
theorem Kd(f:Str)(v:V):∀fs:List (Str × V),f∈(bW f v fs).map (·.1)/\∀g,g∈fs.map (·.1)->g∈(bW f v fs).map (·.1)
 |[]=>#[by simp[bW],fun g h=>by simp at h]
 |(k,x)::r=>by
  obtain⟨i1,i2⟩:=Kd f v r;rw[show bW f v ((k,x)::r)=(if k=f then(k,v)::r else(k,x)::bW f v r)from rfl];by_cases hk:k=f
  ·rw[mB hk];subst hk;show#[by simp,fun g h=>by simpa using h]
  ·rw[mw hk];show#[?_,fun g h=>?_]
   ·rw[cX];exact cV _ i1
   ·rw[cX]at h ⊢;rcases aX.mp h with e|e
    ·exact aX.mpr (.inl e)
    ·exact cV _ (i2 g e)
theorem Mq(f:Str)(v:V):∀fs:List (Str × V),(bW f v fs).length<=fs.length+1
 |[]=>by simp[bW]
 |(k,x)::r=>by
  have ih:=Mq f v r;rw[show bW f v ((k,x)::r)=(if k=f then(k,v)::r else(k,x)::bW f v r)from rfl];by_cases hk:k=f
  ·rw[mB hk,fu,fu];lia
  ·rw[mw hk,fu,fu];lia
theorem xV.some_of(r:xV (some v) o):∃u,o=some u/\RelV v u:=by
 cases o with
 |none=>exact(show False from r).elim
 |some u=>show#[u,rfl,r]
theorem xV.none_of(r:xV none o):o=none:=by
 cases o with
 |none=>rfl
 |some u=>exact(show False from r).elim
theorem ahQ(r:RelV v u):ajV u=true:=by
 cases v with
 |non=>cases (show u=Value.none from r);rfl
 |bl b=>cases (show u=Value.bool b from r);rfl
 |int i=>obtain⟨t,e⟩:=(show ∃t,u=Value.int i t from r);cases e;rfl
 |str x=>obtain⟨t,e⟩:=(show ∃t,u=Value.str x t from r);cases e;rfl
 |byt b=>obtain⟨t,e⟩:=(show ∃t,u=Value.bytes b t from r);cases e;rfl
 |flt b=>obtain⟨t,e⟩:=(show ∃t,u=Value.float b t from r);cases e;rfl
 |ref a=>cases (show u=Value.ref a from r);rfl
 |ty n=>cases (show u=Value.type n from r);rfl
section
variable{P:aK}
theorem O8(hok:HOk P w H h)(e:H a=some (.ins C dx fs)):∃mA,aeZ h a dx C mA/\(∀f,xV (fs.lookup f) (mA f))/\adD mA (fs.map (·.1))/\fs.length<=1000/\H dx=some (.own a):=by
 obtain⟨d,z,ne,ob,mA,n,r,q⟩:=(show cT P w H h a (.ins C dx fs)from hok a _ e);show#[mA,#[ob,n,ne],r,q,z,d]
end
structure Cls(K:aH)(C:Addr):Prop where
 pg:Jo K C aey=true
 hd:Qe K C=true
 po:XM K C=true
 sa:lY K (.ref C) "__setattr__" = some (some (.builtin "object.__setattr__"))
theorem Cls.get{K:aH}(c:Cls K C)(f:Str):Jo K C f=true:=c.pg
noncomputable def cj(K:aH)(C:Addr)(f:Str):Prop:=lY K (.ref C) f=some none
theorem cj.taker{K:aH}(n:cj K C f):adw K C f=some none:=by
 unfold adw;rw[show lY K (.ref C) f=some none from n];rfl
structure Con(K:aH)(C:Addr)(f:Str)(v:V)(u:Value):Prop where
 at_:lY K (.ref C) f=some (some u)
 rel:RelV v u
 get:ajS K u "__get__" = some none
 cp:PySem.W.copiedNames.contains f=false
structure Meth(K:aH)(C:Addr)(m:Str)(f:Addr):Prop where
 at_:lY K (.ref C) m=some (some (.ref f))
 fn:Qg K (.ref f)=true
 kp:rM K (.ref f)=true
section
variable{X:Cx}{pins:List (Addr × Obj)}{σ:St}{H:Hp}{s:Shared}{a C dx:Addr}{fs:List (Str × V)}{f:Str}{v:V}{A:aY}{E:Value->Shared->Prop}
theorem ae0{b:Bool}{Q:Value->Shared->Prop}(I:Inv X pins σ H s)(e:H a=some (.ins C dx fs))(c:Cls X.K C)(n:cj X.K C f)(l:fs.lookup f=some v)
  (h:∀u s',Inv X pins σ H s'->RelV v u->Q u s'):wpAny (model X.prog X.w) A (getAttr (.ref a) f b) Q E s:=by
 obtain⟨mA,O,r,_,_,_⟩:=O8 I.hok e;obtain⟨u,hu,ru⟩:=xV.some_of (v:=v) (o:=mA f) (by rw[<-l];exact r f);exact get_map I.kIn O (c.get f) c.hd n hu (ahQ ru) (h u _ (I.tok _) ru)
theorem Ri{m:Str}{g:Addr}{pl:Sem Bool}{Q:Value × List Value->Shared->Prop}(I:Inv X pins σ H s)(e:H a=some (.ins C dx fs))(c:Cls X.K C)(k:Meth X.K C m g)(l:fs.lookup m=none)
  (h:Q (.ref g,[.ref a]) s):wpAny (model X.prog X.w) A (Qp (.ref a) m pl) Q E s:=by
 obtain⟨mA,O,r,_,_,_⟩:=O8 I.hok e;have hn:mA m=none:=xV.none_of (by rw[<-l];exact r m);exact amx I.kIn O (c.get m) k.at_ k.fn hn h
theorem ae1{y:V}{u:Value}{Q:Unit->Shared->Prop}(I:Inv X pins σ H s)(e:H a=some (.ins C dx fs))(c:Cls X.K C)(n:cj X.K C f)(hl:fs.length<1000)(ry:RelV y u)
  (h:∀s',Inv X pins σ (upd H a (.ins C dx (bW f y fs))) s'->Q () s'):wpAny (model X.prog X.w) A (setAttr (.ref a) f u) Q E s:=by
 obtain⟨mA,O,r,wi,_,ho⟩:=O8 I.hok e;have hz:(fs.map (·.1)).length<=sizeLine:=by rw[aC,Yk];lia
 refine apA I.kIn O c.sa c.po n.taker c.hd wi hz fun h' O' sb=>h _ ?_;have hd:∃o,h'.get? dx=some o:=let ⟨o,_,_,e',_⟩:=O'.ns;#[o,e'];refine I.write (x:=a) (e:=dx) (by rw[e];exact True.intro) (.inr ho) (fun b q hb z=>(sb.2 b hb).trans z) hd ?_;show#[by rwa[ao O.ne],?_,O.ne,O'.obj,_,O'.ns,fun g=>?_,fun g hg=>?_]
 ·have:=Mq f y fs;lia
 ·show xV ((bW f y fs).lookup g) (if g=f then some u else mA g);rw[Mp];by_cases q:g=f
  ·rwa[mB q,mB q]
  ·rw[mw q,mw q];exact r g
 ·by_cases q:g=f
  ·rw[q];exact(Kd f y fs).1
  ·refine(Kd f y fs).2 g (wi g fun z=>hg ?_);show(if g=f then some u else mA g)=none;rwa[mw q]
theorem Inv.made(I:Inv X pins σ H s):Inv X pins σ (upd (upd H (~~~s) (.own (~~~s+1))) (~~~s+1) (.ins C (~~~s) []))
  { s with heap:=(s.heap.push uT).push (yu C (~~~s)) }:=by
 have e1:(s.heap.push uT).get? (~~~s)=some uT:=dW s.heap rfl;have e2:((s.heap.push uT).push (yu C (~~~s))).get? (~~~s+1)=some (yu C (~~~s)):=by
  have:=dW (s.heap.push uT) (o:=yu C (~~~s)) rfl
  rwa [Dt]at this
 have e3:(s.heap.push uT).Ns (~~~s) (fun _=>none):=#[uT,#[],_,e1,rfl,(fun e he=>mI he (by simp)),fun _=>rfl];have I1:=I.laid (a:= ~~~s) (o:=.own (~~~s+1)) (h':=s.heap.push uT) (t':=s.toks) (fun b u q=>dH _ q) (bC _) #[_,e1];refine I1.laid (a:= ~~~s+1) (o:=.ins C (~~~s) []) (t':=s.toks) (fun b u q=>dH _ q) (Dw (Dt _ _)) ?_;have ne: ~~~s≠ ~~~s+1:=cF (Du _);show#[by rw[ao ne,aj],bF _,ne,e2,fun _=>none,(ati e3).at fun o q=>dH _ q,fun _=>True.intro,fun y hy=>mI rfl hy]
theorem apB(hb:yC e f env (eval e env)=eval e env)
  (h:wpAny (model prog w) A (eval e env) (fun o s₁=>wpAny (model prog w) A (getAttr o f true) Q E s₁) E s):wpAny (model prog w) A (eval (.Attribute e f pos) env) Q E s:=
 Attribute_any_ h (by rw[arm_eval_Attribute,hb])
end
noncomputable def rFld(K:aH)(f:Str)(x:V)(H1:Hp)(Q:VK):Prop:=∃a C dx fs v,x=.ref a/\H1 a=some (.ins C dx fs)/\Cls K C/\cj K C f/\fs.lookup f=some v/\Q v H1
@[reducible] noncomputable def amz(K:aH)(ta:TE)(f:Str):TE:=fun σ H Q=>ta σ H fun x H1=>rFld K f x H1 Q
noncomputable def sFld(K:aH)(ta tv:TE)(f:Str):TS:=fun D σ H=>tv σ H fun y H1=>ta σ H1 fun x H2=>∃a C dx fs,x=.ref a/\H2 a=some (.ins C dx fs)/\Cls K C/\cj K C f/\fs.length<1000 /\
 D.nx σ (upd H2 a (.ins C dx (bW f y fs)))
section
variable{pos pos' tpos:Pos}
theorem atN(he:PE X e ta)(hb:yC e f X.env (eval e X.env)=eval e X.env):PE X (.Attribute e f pos) (amz X.K ta f):=by
 intro pins s σ H Q I h;refine apB hb (thn (he pins s σ H _ I h) fun u s1 zq=>?_);obtain⟨x,H1,I1,rx,a,C,dx,fs,v,ex,ea,c,n,l,q⟩:=zq;subst ex;obtain rfl:u=Value.ref a:=rx;exact ae0 I1 ea c n l fun u' s2 I2 ru=>#[v,H1,I2,ru,q]
theorem atO(ha:PE X o ta)(hv:PE X value tv)(hs:Df value (some (.Attribute o f pos')) pos.line X.env=pure false):PS X (.Assign [.Attribute o f pos'] value pos) (sFld X.K ta tv f):=by
 intro pins s σ H D I h;refine plainObj_wpAny_Assign_Attribute (thn (hv pins s σ H _ I h) fun u s1 ⟨y,H1,I1,ry,q⟩=>thn (ha pins s1 σ H1 _ I1 q) fun ov s2 zq=>?_) hs;obtain⟨x,H2,I2,rx,a,C,dx,fs,ex,ea,c,n,l,q2⟩:=zq;subst ex;obtain rfl:ov=Value.ref a:=rx;exact ae1 I2 ea c n l ry fun s3 I3=>#[σ,_,I3,q2]
end
section
variable{X:Cx}{pins:List (Addr × Obj)}{σ:St}{H:Hp}{s:Shared}{A:aY}{E:Value->Shared->Prop}{Q:Value->Shared->Prop}{c:Value}{b:Bool}
inductive Ke (K:aH) (H:Hp):V->Value->Prop where
 |non:Ke K H .non (.type "NoneType")
 |bl (x:Bool):Ke K H (.bl x) (.type "bool")
 |int (i:Int):Ke K H (.int i) (.type "int")
 |str (x:Str):Ke K H (.str x) (.type "str")
 |flt (x:UInt64):Ke K H (.flt x) (.type "float")
 |lst {a:Addr} {xs:List V} (e:H a=some (.lst xs)):Ke K H (.ref a) (.type "list")
 |frz {a:Addr} {o:Obj} {xs:List V} (e:H a=some (.frz o (.lst xs))):Ke K H (.ref a) (.type "list")
 |tup {a:Addr} {xs:List V} (e:H a=some (.tup xs)):Ke K H (.ref a) (.type "tuple")
 |dK {a:Addr} {kvs:List (Key × V)} (e:H a=some (.dK kvs)):Ke K H (.ref a) (.type "dict")
 |dT {a:Addr} {kvs:List (List Key × V)} (e:H a=some (.dT kvs)):Ke K H (.ref a) (.type "dict")
 |ins {a C dx:Addr} {fs:List (Str × V)} (e:H a=some (.ins C dx fs)) (cl:Cls K C) (ha:lY K (.ref C) "__class__" = some (some (.builtin "object.__class__")))
   (hn:ajS K (.builtin "object.__class__") "__get__" = some (some (.builtin "getset_descriptor.__get__"))) (htk:PySem.W.takesIn K (.builtin "object.__class__")=some true)
   (hm:PySem.W.mroIn K C (.type "object")=some true):Ke K H (.ref a) (.ref C)
theorem ahR{x:V}{u t:Value}(I:Inv X pins σ H s)(rx:RelV x u)(ty:Ke X.K H x t)(e:oU X.K t c=some b)(h:∀tk,Q (.bool b) { s with toks:=tk }):
  wpAny (model X.prog X.w) A (call (.builtin "isinstance") [u,c]) Q E s:=by
 cases ty with
 |non=>cases (show u=Value.none from rx);exact oR PySem.W.kitx_none I.kIn True.intro e (fun z=>nomatch z) h
 |bl y=>cases (show u=Value.bool y from rx);exact oR PySem.W.kitx_bool I.kIn True.intro e (fun z=>nomatch z) h
 |int i=>obtain⟨t,q⟩:=(show ∃t,u=Value.int i t from rx);cases q;exact oR PySem.W.kitx_int I.kIn True.intro e (fun z=>nomatch z) h
 |str y=>obtain⟨t,q⟩:=(show ∃t,u=Value.str y t from rx);cases q;exact oR PySem.W.kitx_str I.kIn True.intro e (fun z=>nomatch z) h
 |flt y=>obtain⟨t,q⟩:=(show ∃t,u=Value.float y t from rx);cases q;exact oR PySem.W.kitx_float I.kIn True.intro e (fun z=>nomatch z) h
 | @lst a xs ea =>
  cases (show u=Value.ref a from rx);obtain⟨_,_,n,_,h1⟩:=(show cT X.prog X.w H s.heap a (.lst xs)from I.hok a _ ea);exact oR ajT I.kIn #[_,h1,rfl] e (fun z=>nomatch z) h
 | @frz a ob xs ea =>
  cases (show u=Value.ref a from rx);obtain⟨_,_,_,n,_,h1⟩:=(show cT X.prog X.w H s.heap a (.frz ob (.lst xs))from I.hok a _ ea);exact oR ajT I.kIn #[_,h1,rfl] e (fun z=>nomatch z) h
 | @tup a xs ea =>
  cases (show u=Value.ref a from rx);obtain⟨_,_,_,p⟩:=(show cT X.prog X.w H s.heap a (.tup xs)from I.hok a _ ea);obtain⟨o,h1,h2,_⟩:=p;exact oR PySem.W.kitx_tuple I.kIn #[o,h1,h2] e (fun z=>nomatch z) h
 | @dK a kvs ea =>
  cases (show u=Value.ref a from rx);obtain⟨_,_,vs,_,p⟩:=(show cT X.prog X.w H s.heap a (.dK kvs)from I.hok a _ ea);obtain⟨o,es,ep,h1,h2,_⟩:=p;exact oR ajU I.kIn #[o,h1,h2.1] e (fun z=>nomatch z) h
 | @dT a kvs ea =>
  cases (show u=Value.ref a from rx);obtain⟨_,_,xs,_,o,es,ep,h1,h2,_⟩:=(show cT X.prog X.w H s.heap a (.dT kvs)from I.hok a _ ea);exact oR ajU I.kIn #[o,h1,h2.1] e (fun z=>nomatch z) h
 | @ins a C dx fs ea cl ha hn htk hm =>
  cases (show u=Value.ref a from rx);obtain⟨mA,O,_⟩:=O8 I.hok ea;obtain⟨od,J,_⟩:=O.look;exact oR (PySem.W.kitx_own (cl.get _) cl.hd ha hn htk hm) I.kIn J e (fun z=>nomatch z) h
end
structure ig(k:Nat)(A:aY):Prop where
 hd:A.handled=none
 dp:A.depth+3*k+5<recursionLimit
 un:A.units+16*k+200<cLine
theorem ig.mono(r:ig k A)(h:j<=k):ig j A:=#[r.hd,by have:=r.dp;lia,by have:=r.un;lia]
theorem ig.deeper(r:ig (k+1) A)(env:Env):ig k (A.deeper env):=
 #[r.hd,by have:=r.dp;show A.depth+1+3*k+5<_;lia,by have:=r.un;show A.units+3+16*k+200<_;lia]
theorem ig.in1(r:ig (k+1) A):ig k A.in1:=
 #[r.hd,by have:=r.dp;show A.depth+3*k+5<_;lia,by have:=r.un;show A.units+1+16*k+200<_;lia]
theorem ae2{A:aY}:(A.under (.builtin "type.__call__" #[.ref C::us,kw])).depth=A.depth+1:=by
 first|rfl|simp[aeu,Code.weight,Code.isCreation,Code.isGuard,Code.isCaller,al2,aeF,guardIds]
theorem ae3{A:aY}:(A.under (.builtin "type.__call__" #[.ref C::us,kw])).units=A.units+1:=by
 first|rfl|simp[aeu,Code.cUnits,al2,aeF]
theorem ig.make(r:ig (k+1) A)(C:Addr)(us:List Value)(kw:List (Str × Value)):ig k (A.under (.builtin "type.__call__" #[.ref C::us,kw])):=
 #[r.hd,by have:=r.dp;rw[ae2];lia,by have:=r.un;rw[ae3];lia]
theorem ig.depth(r:ig k A):A.depth<recursionLimit:=by have:=r.dp;lia
theorem ig.units(r:ig k A):A.units+64<cLine:=by have:=r.un;lia
@[reducible] noncomputable def ahS:TA:=fun _ H Q=>Q [] H
@[reducible] noncomputable def Rj(ta:TE)(tr:TA):TA:=fun σ H Q=>ta σ H fun x H1=>tr σ H1 fun xs H2=>Q (x::xs) H2
theorem gA:PA X [] ahS:=fun _ _ _ _ H Q I h=>Eb #[[],H,I,.nil,h]
theorem cg(ha:PE X e te)(hr:PA X es t)(hs:cD (e::es) X.env=(false,eval e X.env)::cD es X.env:=by rfl):PA X (e::es) (Rj te t):=by
 intro pos pins s σ H Q I h;rw[hs];show wpAny _ _ (spliced ((false,eval e X.env)::fV pos (cD es X.env))) _ _ s;refine yV (thn (ha pins s σ H _ I h) fun u s1 zq=>?_);obtain⟨x,H1,I1,r1,q1⟩:=zq;exact thn (hr pos pins s1 σ H1 _ I1 q1) fun us s2 ⟨xs,H2,I2,r2,q2⟩=>#[x::xs,H2,I2,.cons r1 r2,q2]
noncomputable def tTup(t:TA):TE:=fun σ H Q=>t σ H fun xs H1=>xs.length<=sizeLine/\∀p,H1 p=none->Q (.ref p) (upd H1 p (.tup xs))
noncomputable def tLst(t:TA):TE:=fun σ H Q=>t σ H fun xs H1=>xs.length<=sizeLine/\∀p,H1 p=none->Q (.ref p) (upd H1 p (.lst xs))
theorem Kf{x1}(h:PA X es t):PE X (.Tuple es x1 pos) (tTup t):=by
 intro pins s σ H Q I hq;refine wpAny_Tuple_spliced (thn (h pos pins s σ H _ I hq) fun us s1 ⟨xs,H1,I1,r,z,q⟩=>#[by rwa[<-r.length],?_]);have hf:H1 (~~~s1)=none:=I1.hok.fresh (bC _);show#[.ref (~~~s1),upd H1 (~~~s1) (.tup xs),I1.laid (t':=s1.toks) (fun b u e=>dH _ e) (bC _) ?_,rfl,q _ hf];show#[z,us,r,#[_,dW _ rfl,rfl,_,rfl]]
theorem amA(h:PA X es t):PE X (.List es pos) (tLst t):=by
 intro pins s σ H Q I hq;refine wpAny_List_spliced (thn (h pos pins s σ H _ I hq) fun us s1 ⟨xs,H1,I1,r,z,q⟩=>#[by rwa[<-r.length],?_]);have hf:H1 (~~~s1)=none:=I1.hok.fresh (bC _);show#[.ref (~~~s1),upd H1 (~~~s1) (.lst xs),I1.laid (t':=s1.toks) (fun b u e=>dH _ e) (bC _) ?_,rfl,q _ hf];show#[z,us,0,r,dW _ rfl]
noncomputable abbrev Sp:=List V->Hp->VK->XK->Prop
noncomputable abbrev CXT:=List Env->Hp->Shared->XK->Value->Shared->Prop
structure Vi(P:aK)(w:World)(K:aH)(mg:Str->Option Value)(base:Heap)(A:aY)(outer:List Env)(s:Shared)(H:Hp):Prop where
 frames:A.frames=some outer
 mod:Mod K mg base
 bs:∀b o,base.get? b=some o->s⁻¹ b=some o/\H b=none
 bsz:base.objs.size<= ~~~s
 Ka:s.heap.FunFrames base outer
 frf:∀b∈frs outer,H b=none
 hok:HOk P w H s.heap
 bare:yP s.gens
noncomputable def CE(outer:List Env)(P:aK)(w:World)(H:Hp)(s:Shared)(Q:VK)(u:Value)(s':Shared):Prop:=
 ∃v H',s'.os=s.os/\yP s'.gens/\Un (frs outer) [] H H' s.heap s'.heap/\HOk P w H' s'.heap/\RelV v u/\Q v H'
noncomputable def CR(CX:CXT)(outer:List Env)(P:aK)(w:World)(H:Hp)(s:Shared)(Q:VK)(E:XK)(r:o8)(s':Shared):Prop:=
 match r with
 | .ok (.ret u)=>CE outer P w H s Q u s'
 | .ok _=>False
 | .error e=>CX outer H s E e s'
structure tX(P:aK)(w:World)(K:aH)(mg:Str->Option Value)(base:Heap)(CX:CXT)(k:Nat)(f:Addr)(fd:FuncData)(ps:List Str)(sp:Sp):Prop where
 len:∀vs H Q E,sp vs H Q E->vs.length=ps.length
 run:∀(A:aY)(outer:List Env)(s:Shared)(H:Hp)(args:Args)(us:List Value)(vs:List V)(Q:VK)(E:XK),ig k A->Vi P w K mg base A outer s H->JB s fd args (ps.zip us)->Vals vs us->sp vs H Q E ->
  gO (model P w) A (.call (.ref f) args) (CR CX outer P w H s Q E) s
theorem tX.imp{P:aK}{K:aH}(F:tX P w K mg base CX k f fd ps sp)
  (h:∀vs H Q E,sp' vs H Q E->sp vs H Q E):tX P w K mg base CX k f fd ps sp':=
 #[fun vs H Q E q=>F.len vs H Q E (h _ _ _ _ q),fun A outer s H args us vs Q E hr he hb hv hs=>F.run A outer s H args us vs Q E hr he hb hv (h _ _ _ _ hs)]
theorem Vi.make{P:aK}{K:aH}(e:Vi P w K mg base A outer s H)(C:Addr)(us:List Value)(kw:List (Str × Value)):
  Vi P w K mg base (A.under (.builtin "type.__call__" #[.ref C::us,kw])) outer s H:=#[by first|exact e.frames|(simpa[aeu,Code.envs,aeF,pushEnvs]using e.frames),e.mod,e.bs,e.bsz,e.Ka,e.frf,e.hok,e.bare]
theorem Vi.in1{P:aK}{K:aH}(e:Vi P w K mg base A outer s H):
  Vi P w K mg base A.in1 outer s H:=#[e.frames,e.mod,e.bs,e.bsz,e.Ka,e.frf,e.hok,e.bare]
section
variable{X:Cx}{pins:List (Addr × Obj)}{σ:St}{H:Hp}{s s':Shared}
theorem Inv.env0(I:Inv X pins σ H s):Vi X.prog X.w X.K X.mg X.base X.A X.stack s H:=
 #[I.ok.frames,I.ok.mod,I.bs,cH I.ok.bsz I.sz,I.stack,I.agt,I.hok,I.bare]
theorem Inv.after{Q:VK}{u:Value}(I:Inv X pins σ H s)(h:CE X.stack X.prog X.w H s Q u s'):EP X pins σ Q u s':=by
 obtain⟨v,H',os,bare,un,hok,r,q⟩:=h;obtain⟨hh,g,d,t,os'⟩:=s';obtain rfl:os'=s.os:=os;show#[v,H',I.call (h':=hh) (g':=g) (d':=d) (t':=t) (ch:=[]) un hok bare (fun b z=>mI z (by simp)),r,q]
end
@[reducible] noncomputable def amB(sp:Sp)(dvs:List V)(E:XK)(t:TA):TE:=fun σ H Q=>t σ H fun vs H1=>sp (vs++dvs) H1 Q E
@[reducible] noncomputable def amC(C:Addr)(m:Str)(sp:Sp)(dvs:List V)(E:XK)(ta:TE)(t:TA):TE:=fun σ H Q=>ta σ H fun x H1=>∃a dx fs,x=.ref a/\H1 a=some (.ins C dx fs)/\fs.lookup m=none /\
 t σ H1 fun vs H2=>sp (x::(vs++dvs)) H2 Q E
noncomputable def arq(C:Addr)(sp:Sp)(dvs:List V)(E:XK)(t:TA):TE:=fun σ H Q=>t σ H fun vs H1=>∀x dx,H1 x=none->H1 dx=none->dx≠x ->
 sp (.ref x::(vs++dvs)) (upd (upd H1 dx (.own x)) x (.ins C dx [])) (fun v H2=>v=.non/\Q (.ref x) H2) E
noncomputable def Binds(K:aH)(fd:FuncData)(ps:List Str)(ds:List Value):Prop:=
 ∀s us,K.In s.heap->(us++ds).length=ps.length->JB s fd #[us,[]] (ps.zip (us++ds))
theorem Binds.all{K:aH}{ps:List Str}(h:∀us:List Value,us.length=ps.length->Dg fd #[us,[]]=pure (ps.zip us)):Binds K fd ps []:=fun s us _ hl=>by
 rw[gk]at hl ⊢;exact .of_eq (h us hl)
noncomputable def Passes(CX:CXT)(X:Cx)(E:XK):Prop:=∀(pins:List (Addr × Obj)) (σ:St) (H:Hp) (s:Shared) (e:Value) (s':Shared),Inv X pins σ H s->CX X.stack H s E e s'->X.xe e s'
section
variable{X:Cx}{CX:CXT}{k:Nat}{f C:Addr}{fd:FuncData}{ps:List Str}{sp:Sp}{dvs:List V}{ds:List Value}{E:XK}{x m:Str}{p pos apos:Pos}{e o:Expr}{es:List Expr}{ta:TE}{t:TA}
theorem Zz{σ:St}{H:Hp}{s:Shared}{Q:VK}{us:List Value}{vs:List V}(F:tX X.prog X.w X.K X.mg X.base CX k f fd ps sp)(hr:ig k X.A)(hb:Binds X.K fd ps ds)(hd:Vals dvs ds)(hx:Passes CX X E)
  (I:Inv X pins σ H s) (r:Vals vs us) (h:sp (vs++dvs) H Q E):wpAny (model X.prog X.w) X.A (call (.ref f) us) (EP X pins σ Q) X.xe s:=by
 have r2:Vals (vs++dvs) (us++ds):=r.append hd;have hl:(us++ds).length=ps.length:=by rw[<-r2.length];exact F.len _ _ _ _ h
 refine Ym (yD (F.run X.A X.stack s H #[us,[]] (us++ds) (vs++dvs) Q E hr I.env0 (hb s us I.kIn hl) r2 h) fun r s' hq=>?_);cases r with
 |error e=>exact hx pins σ H s e s' I hq
 |ok fl =>
  cases fl with
  |ret u=>exact I.after hq
  |next=>exact ju hq
  |brk=>exact ju hq
  |cont=>exact ju hq
theorem apC(F:tX X.prog X.w X.K X.mg X.base CX k f fd ps sp)(hr:ig k X.A)(hg:Gl X x)(hm:X.mg x=some (.ref f))(hk:rM X.K (.ref f)=true)(hb:Binds X.K fd ps ds)(hd:Vals dvs ds)(hx:Passes CX X E)
  (ha:PA X (e::es) t) (hdb:(x == ("__debug__" : Str))=false:=by decide) (he:cD (e::es) X.env=(false,eval e X.env)::cD es X.env:=by rfl) (hpl:(fV pos (cD es X.env)).any (·.1)=false:=by rfl):
  PE X (.Call (.Name x p) (e::es) [] pos) (amB sp dvs E t):=by
 intro pins s σ H Q I h;refine yw (O5 I hg hm ?_ hdb);refine adt (h₀:=X.base) I.ok.mod.kin hk (thn (ha pos pins s σ H _ I h) fun us s1 ⟨vs,H1,I1,r,q⟩=>#[I1.kIn,?_]) he hpl;exact Zz F hr hb hd hx I1 r q
theorem amD(F:tX X.prog X.w X.K X.mg X.base CX k f fd ps sp)(hr:ig k X.A)(hg:Gl X x)(hm:X.mg x=some (.ref f))(hk:rM X.K (.ref f)=true)(hb:Binds X.K fd ps ds)(hd:Vals dvs ds)(hx:Passes CX X E)
  (hdb:(x == ("__debug__" : Str))=false:=by decide):PE X (.Call (.Name x p) [] [] pos) (amB sp dvs E ahS):=by
 intro pins s σ H Q I h;refine yw (O5 I hg hm ?_ hdb);exact ajP I.kIn hk (Zz (us:=[]) F hr hb hd hx I .nil h)
theorem apD{pl:Sem Bool}(he:PE X o ta)(c:Cls X.K C)(hm:Meth X.K C m f)(F:tX X.prog X.w X.K X.mg X.base CX k f fd ps sp)(hr:ig k X.A)(hb:Binds X.K fd ps ds)(hd:Vals dvs ds)(hx:Passes CX X E)(ha:PA X (e::es) t)
  (hst:cD (e::es) X.env=(false,eval e X.env)::cD es X.env:=by rfl) (hpl:(fV pos (cD es X.env)).any (·.1)=false:=by rfl)
  (ht:eval (.Call (.Attribute o m apos) (e::es) [] pos) X.env=(do
   let ov <-eval o X.env
   Qs apos.atName
   let (f,first) <-yG [ov] (Qp ov m pl)
   adU pos f first (fV pos (cD (e::es) X.env)) (Jz pos (Jw [] X.env))):=by rfl) :
  PE X (.Call (.Attribute o m apos) (e::es) [] pos) (amC C m sp dvs E ta t):=by
 intro pins s σ H Q I h;refine ajO (pl:=pl) (thn (he pins s σ H _ I h) fun u s1 zq=>?_) ht;obtain⟨x,H1,I1,rx,a,dx,fs,ex,ea,l,q⟩:=zq;subst ex;obtain rfl:u=Value.ref a:=rx;refine Ri I1 ea c hm l ?_;refine adt (first:=[.ref a]) (h₀:=X.base) I.ok.mod.kin hm.kp (thn (ha pos pins s1 σ H1 _ I1 q) fun us s2 ⟨vs,H2,I2,r,q2⟩=>#[I2.kIn,?_]) hst hpl;exact Zz (us:=.ref a::us) (vs:=.ref a::vs) F hr hb hd hx I2 (.cons rfl r) q2
theorem zu{pl:Sem Bool}(he:PE X o ta)(c:Cls X.K C)(hm:Meth X.K C m f)(F:tX X.prog X.w X.K X.mg X.base CX k f fd ps sp)(hr:ig k X.A)(hb:Binds X.K fd ps ds)(hd:Vals dvs ds)(hx:Passes CX X E)
  (ht:eval (.Call (.Attribute o m apos) [] [] pos) X.env=(do
   let ov <-eval o X.env
   Qs apos.atName
   let (f,first) <-yG [ov] (Qp ov m pl)
   adU pos f first (fV pos (cD [] X.env)) (Jz pos (Jw [] X.env))):=by rfl) :
  PE X (.Call (.Attribute o m apos) [] [] pos) (amC C m sp dvs E ta ahS):=by
 intro pins s σ H Q I h;refine ajO (pl:=pl) (thn (he pins s σ H _ I h) fun u s1 zq=>?_) ht;obtain⟨x,H1,I1,rx,a,dx,fs,ex,ea,l,q⟩:=zq;subst ex;obtain rfl:u=Value.ref a:=rx;refine Ri I1 ea c hm l ?_;exact ajP (first:=[.ref a]) I1.kIn hm.kp (Zz (us:=[.ref a]) (vs:=[.ref a]) F hr hb hd hx I1 (.cons rfl .nil) q)
structure Mk(K:aH)(C f:Addr):Prop where
 makes:XQ K C=true
 init:lY K (.ref C) "__init__" = some (some (.ref f))
 fn:Qg K (.ref f)=true
 kp:rM K (.ref C)=true
theorem amE{σ:St}{H:Hp}{s:Shared}{Q:VK}{us:List Value}{vs:List V}(M:Mk X.K C f)(F:tX X.prog X.w X.K X.mg X.base CX k f fd ps sp)(hr:ig (k+1) X.A)(hb:Binds X.K fd ps ds)(hd:Vals dvs ds)
  (hx:Passes CX X E) (I:Inv X pins σ H s) (r:Vals vs us)
  (h:∀x dx,H x=none->H dx=none->dx≠x->sp (.ref x::(vs++dvs)) (upd (upd H dx (.own x)) x (.ins C dx [])) (fun v H2=>v=.non/\Q (.ref x) H2) E):
  wpAny (model X.prog X.w) X.A (call (.ref C) us) (EP X pins σ Q) X.xe s:=by
 have hq:=h (~~~s+1) (~~~s) (I.hok.fresh (pC _)) (I.hok.fresh (bC _)) (cF (Du _));have I2:=Inv.made (C:=C) I;have r2:Vals (V.ref (~~~s+1)::(vs++dvs)) (Value.ref (~~~s+1)::(us++ds)):=.cons rfl (r.append hd);have hl:(Value.ref (~~~s+1)::us++ds).length=ps.length:=by
  have e:=r2.length;rw[F.len _ _ _ _ hq]at e;exact e.symm
 refine Ym (amy (f:=f) I.kIn M.makes M.init (beq_iff_eq.mp M.fn) (yD (F.run _ X.stack _ _ #[Value.ref (~~~s+1)::us,[]] (Value.ref (~~~s+1)::(us++ds)) _ _ E (hr.make C us [])
  (I2.env0.make C us []) (hb _ (Value.ref (~~~s+1)::us) I2.kIn hl) r2 hq) fun r s' hq'=>?_))
 cases r with
 |error e=>exact hx pins σ _ _ e s' I2 hq'
 |ok fl =>
  cases fl with
  |ret u =>
   obtain⟨v,H',I3,rv,ev,q3⟩:=I2.after hq';subst ev;show#[rv,#[V.ref (~~~s+1),H',I3,rfl,q3]]
  |next=>exact ju hq'
  |brk=>exact ju hq'
  |cont=>exact ju hq'
theorem apE(M:Mk X.K C f)(F:tX X.prog X.w X.K X.mg X.base CX k f fd ps sp)(hr:ig (k+1) X.A)(hg:Gl X x)(hm:X.mg x=some (.ref C))(hb:Binds X.K fd ps ds)(hd:Vals dvs ds)(hx:Passes CX X E)
  (ha:PA X (e::es) t) (hdb:(x == ("__debug__" : Str))=false:=by decide) (he:cD (e::es) X.env=(false,eval e X.env)::cD es X.env:=by rfl) (hpl:(fV pos (cD es X.env)).any (·.1)=false:=by rfl):
  PE X (.Call (.Name x p) (e::es) [] pos) (arq C sp dvs E t):=by
 intro pins s σ H Q I h;refine yw (O5 I hg hm ?_ hdb);refine adt (h₀:=X.base) I.ok.mod.kin M.kp (thn (ha pos pins s σ H _ I h) fun us s1 ⟨vs,H1,I1,r,q⟩=>#[I1.kIn,?_]) he hpl;exact amE M F hr hb hd hx I1 r q
end
section
variable{fd:FuncData}{ps ks:List Str}
structure KBinds(K:aH)(fd:FuncData)(ps ks:List Str)(g:List Value->List Value->List Value)(gV:List V->List V->List V):Prop where
 to:∀(s:Shared)(us ws:List Value),K.In s.heap->(g us ws).length=ps.length->JB s fd #[us,ks.zip ws] (ps.zip (g us ws))
 rel:∀{vs:List V}{us:List Value}{zs:List V}{ws:List Value},Vals vs us->Vals zs ws->Vals (gV vs zs) (g us ws)
end
structure aA(N P:List Str)(sc:Scope):Prop where
 kind:sc.kind=.function
 co:sc.isCoroutine=false
 gen:sc.isGenerator=false
 nd:N.Nodup
 pre:N.take P.length=P
 par:∀x∈P,sc.names.lookup x=some .local\/sc.names.lookup x=some .cell
 atP:∀y∈sc.names,y.2≠.free
theorem Wr{kindOf:Str->Option Dh}{x:Str}:∀{binds:List (Str × Value)} {m:Str->Option Value},(∀v,(x,v)∉binds)->bindL kindOf binds m x=m x
 |[],_,_=>rfl
 |(n,v)::r,m,h=>by
  unfold bindL;rw[Wr fun w hw=>h w (cV _ hw)];split
  ·have:x≠n:=by rintro rfl;exact h v cJ
   simp[this]
  ·rfl
theorem Ws{kindOf:Str->Option Dh}{x:Str}:∀{binds:List (Str × Value)} {m:Str->Option Value},(∀v,(x,v)∉binds)->bindC kindOf binds m x=m x
 |[],_,_=>rfl
 |(n,v)::r,m,h=>by
  unfold bindC;rw[Ws fun w hw=>h w (cV _ hw)];split
  ·rfl
  ·have:x≠n:=by rintro rfl;exact h v cJ
   simp[this]
theorem Wt{kindOf:Str->Option Dh}{x:Str}{v:Value}:∀{P:List Str}{vs:List Value}{i:Nat}{m:Str->Option Value},P.Nodup->P[i]? = some x->vs[i]? = some v->kindOf x=some .local ->
  bindL kindOf (P.zip vs) m x=some v
 |[],_,_,_,_,h,_,_=>by simp at h
 |_::_,[],_,_,_,_,h,_=>by simp at h
 |p::P,w::vs,0,m,nd,h1,h2,hk=>by
  simp at h1 h2;subst h1;subst h2;show bindL kindOf ((p,w)::P.zip vs) m p=_;unfold bindL;rw[Wr fun v hv=>(iW.mp nd).1 (adk hv).1,mB hk];simp
 |p::P,w::vs,i+1,m,nd,h1,h2,hk=>by
  show bindL kindOf ((p,w)::P.zip vs) m x=_;unfold bindL;exact Wt (i:=i) (iW.mp nd).2 (by simpa using h1) (by simpa using h2) hk
theorem Wu{kindOf:Str->Option Dh}{x:Str}{v:Value}:∀{P:List Str}{vs:List Value}{i:Nat}{m:Str->Option Value},P.Nodup->P[i]? = some x->vs[i]? = some v->kindOf x≠some .local ->
  bindC kindOf (P.zip vs) m x=some v
 |[],_,_,_,_,h,_,_=>by simp at h
 |_::_,[],_,_,_,_,h,_=>by simp at h
 |p::P,w::vs,0,m,nd,h1,h2,hk=>by
  simp at h1 h2;subst h1;subst h2;show bindC kindOf ((p,w)::P.zip vs) m p=_;unfold bindC;rw[Ws fun v hv=>(iW.mp nd).1 (adk hv).1,mw hk];simp
 |p::P,w::vs,i+1,m,nd,h1,h2,hk=>by
  show bindC kindOf ((p,w)::P.zip vs) m x=_;unfold bindC;exact Wu (i:=i) (iW.mp nd).2 (by simpa using h1) (by simpa using h2) hk
noncomputable def start(N:List Str)(vs:List V):St:=vs.map some++Qc (N.length-vs.length) none
noncomputable def ahT(CX:CXT)(P:aK)(w:World)(K:aH)(mg:Str->Option Value)(base:Heap)(N:List Str)(qual:Str)(scope:Scope)(f:Addr)(cd:Value)(A:aY)(outer:List Env)(s:Shared)(H:Hp)(E:XK):Cx where
 prog:=P
 w:=w
 K:=K
 mg:=mg
 base:=base
 A:=A.deeper (uZ qual scope (~~~s) f cd)
 N:=N
 s₀:=s
 H₀:=H
 env:=uZ qual scope (~~~s) f cd
 outer:=outer
 stack:=uZ qual scope (~~~s) f cd::outer
 ex:=[]
 calm:=true
 fn:=fun _=>true
 pn:=[]
 xe:=fun e s'=>wpAny (model P w) (A.deeper (uZ qual scope (~~~s) f cd)) (leaving (uZ qual scope (~~~s) f cd) e) (fun _ s''=>CX outer H s E e s'') (fun e' s''=>CX outer H s E e' s'') s'
theorem abm{sc:Scope}(h:sc.names.lookup x=some .cell):∃c,(adO n sc.names []).lookup x=some c:=by
 have q:=ajN sc.names n [] (.inl h);exact alx.mp q
theorem ahU{P:aK}{K:aH}{A:aY}{vs:List V}
  (S:aA N ps scope) (hd:A.handled=none) (e0:Vi P w K mg base A outer s H) (hl:vs.length=ps.length) (r:Vals vs us)
  (x:InCallC s (~~~s) (bindL (uZ qual scope (~~~s) f cd).kindOf (ps.zip us) fun _=>none) (adO (~~~s+1) scope.names []) (bindC (uZ qual scope (~~~s) f cd).kindOf (ps.zip us) fun _=>none) s1):
  Inv (ahT CX P w K mg base N qual scope f cd A outer s H E) [] (start N vs) H s1:=by
 have hpl:ps.length<=N.length:=by have:=mM jF S.pre;rw[dN]at this;lia
 obtain ⟨h1,tk,rfl,hk⟩:=x.done;have noA:∀ b:Addr,b∉(ahT CX P w K mg base N qual scope f cd A outer s H E).ex:=fun b z=>mI (show b∈([]:List Addr) from z) (by simp);show#[#[e0.mod,S.kind,rfl,rfl,bC _,fun y z c h1 h2=>?_,fun y hy=>?_,fun y c _ h=>?_,fun _=>hd,Around.frames_deeper e0.frames,.inr #[rfl,rfl],fun b z=>mI z (noA b),e0.bs,e0.bsz,fun b _ _=>noA b,fun b z=>mI z (noA b),e0.Ka,e0.frf],
  rfl,e0.bare,Un.kept hk,#[_,x.toInCall.ns,fun i y v h1 h2 h3=>?_],fun y c h=>#[_,x.cell y c h],e0.hok.fresh (bC _),fun y c h=>?_,fun p hp=>mI (show p∈([]:List (Addr × Obj)) from hp) (by simp),e0.hok.kept hk,?_]
 ·exact name_of_addr x.apart (Jp h1) (Jp h2)
 ·have hy:scope.names.lookup y=some .cell\/scope.names.lookup y=some .free:=hy;rcases hy with hy|hy
  ·exact abm hy
  ·exact mI rfl (S.atP _ (Jp hy))
 ·exact eF (x.above y c (Jp h))
 ·have hi:i<vs.length:=by
   unfold start at h2;by_cases hi:i<vs.length
   ·exact hi
   ·rw[xZ (by simpa using hi)]at h2;rw[ajn]at h2;split at h2 <;> cases h2
  have ha:vs[i]? = some v:=by
   unfold start at h2;rw[PK (by simpa using hi),dG]at h2;cases e:vs[i]? with
   |none=>rw[e]at h2;cases h2
   |some a=>rw[e]at h2;cases h2;rfl
  obtain⟨u,hu,rv⟩:=r.get ha;have hp:ps[i]? = some y:=by
   rwa[<-S.pre,List.getElem?_take_of_lt tb_g%]
  have ndP:ps.Nodup:=by rw[<-S.pre];exact S.nd.sublist (Xx _ _)
  show#[u,rv,?_];rcases S.par y (mv hp)with k|k
  ·exact .inl #[k,Wt ndP hp hu k]
  ·obtain⟨c,e⟩:=abm (n:= ~~~s+1) k;refine .inr #[.inl k,c,e,?_];have q:=x.cell y c e;rwa[Wu ndP hp hu (by show scope.names.lookup y≠_;rw[k];decide)]at q
 ·exact e0.hok.fresh (eF (x.above y c (Jp h)))
 ·unfold start;show _=N.length;rw[dw,aC,Jl];lia
theorem fn_of{P:aK}{K:aH}{dV kV doc pm cdv ct oc:Value}
   {N ps:List Str} {sp:Sp} (lk:K.lookup f=some #[oc,od,.func (kZ name qual params body scope dV kV doc pm an cdv ct),osl]) (hcd:Qf K cdv qual=true) (S:aA N ps scope)
  (len:∀vs H Q E,sp vs H Q E->vs.length=ps.length)
  (hbody:∀A outer s H vs Q E,ig k (A.deeper (uZ qual scope (~~~s) f cdv))->sp vs H Q E ->
   ∃ t,PSs (ahT CX P w K mg base N qual scope f cdv A outer s H E) body t/\t { nx:=fun _ H'=>Q .non H',rt:=Q } (start N vs) H) :
  tX P w K mg base CX (k+1) f (kZ name qual params body scope dV kV doc pm an cdv ct) ps sp:=by
 show#[len,fun A outer s H args us vs Q E hr e0 hb r hsp=>?_];have hl:=len _ _ _ _ hsp;have KX:K.In s.heap:=e0.mod.kin.keeps fun b o e=>(e0.bs b o e).1;have lim:s.heap.NoLimit:=e0.mod.nolimit.keeps fun b o e=>(e0.bs b o e).1;have hkind:∀y∈ps.zip us,scope.names.lookup y.1=some .local\/(scope.names.lookup y.1=some .cell/\((adO (~~~s+1) scope.names []).lookup y.1).isSome=true):=fun⟨n,v⟩ hy=>by
  rcases S.par n (adk hy).1 with q|q
  ·exact .inl q
  ·exact .inr #[q,ajN _ _ _ (.inl q)]
 refine codeAny_call_function hr.depth (KX _ _ lk) rfl S.co S.gen rfl (PySem.W.codeRec_of KX hcd) (hb _ _ _ _ ?_);refine wpAny_newFunctionEnv_cells S.kind hkind fun env he s1 x=>?_;subst he;show#[lim.keeps x.toInCall.keep,codeAny_func ?_];obtain⟨t,ht,hq⟩:=hbody A outer s H vs Q E (hr.deeper _) hsp;have I:Inv (ahT CX P w K mg base N qual scope f cdv A outer s H E) [] (start N vs) H s1:=ahU S hr.hd e0 hl r x;refine iY (ht [] s1 (start N vs) H _ I hq) (fun fl s' hs=>?_) fun e s' hs=>hs;have fin:∀{σ':St}{H':Hp}{v:V}{u:Value},Inv (ahT CX P w K mg base N qual scope f cdv A outer s H E) [] σ' H' s'->RelV v u->Q v H'->CE outer P w H s Q u s':=
  fun {σ' H' v u} J rv q=>#[v,H',J.os,J.bare,J.base,J.hok,rv,q]
 cases fl with
 |ret u =>
  obtain⟨v,σ',H',J,rv,q⟩:=hs;exact fin J rv q
 |next =>
  obtain⟨σ',H',J,q⟩:=hs;exact fin (v:=V.non) (u:=Value.none) J rfl q
 |brk =>
  obtain⟨_,_,_,q⟩:=hs;exact ju q
 |cont =>
  obtain⟨_,_,_,q⟩:=hs;exact ju q
section
variable{X:Cx}{x:Str}{p pos:Pos}{e:Expr}{es:List Expr}{t:TA}{id T:String}{r:List V->Hp->VK->Prop}
@[reducible] noncomputable def tCB(r:List V->Hp->VK->Prop)(t:TA):TE:=fun σ H Q=>t σ H fun vs H1=>r vs H1 Q
theorem bZ(hc:gU X (.builtin id) r)(hg:Gl X x)(hm:X.mg x=none)(hv:Dd x=some (.builtin id))(ha:PA X (e::es) t)(hn:x ≠ "__name__" := by decide)(hdb:(x == ("__debug__" : Str))=false:=by decide)
  (he:cD (e::es) X.env=(false,eval e X.env)::cD es X.env:=by rfl) (hpl:(fV pos (cD es X.env)).any (·.1)=false:=by rfl):PE X (.Call (.Name x p) (e::es) [] pos) (tCB r t):=by
 intro pins s σ H Q I h;refine yw (nH I hg hm hv ?_ hn hdb);exact ad7 (thn (ha pos pins s σ H _ I h) fun us s1 ⟨vs,H1,I1,r1,q1⟩=>hc pins s1 σ H1 vs us Q I1 r1 q1) he hpl
theorem tY(hc:gU X (.type T) r)(hg:Gl X x)(hm:X.mg x=none)(hv:Dd x=some (.type T))(ha:PA X (e::es) t)(hn:x ≠ "__name__" := by decide)(hdb:(x == ("__debug__" : Str))=false:=by decide)
  (he:cD (e::es) X.env=(false,eval e X.env)::cD es X.env:=by rfl) (hpl:(fV pos (cD es X.env)).any (·.1)=false:=by rfl):PE X (.Call (.Name x p) (e::es) [] pos) (tCB r t):=by
 intro pins s σ H Q I h;refine yw (nH I hg hm hv ?_ hn hdb);exact Wh (thn (ha pos pins s σ H _ I h) fun us s1 ⟨vs,H1,I1,r1,q1⟩=>hc pins s1 σ H1 vs us Q I1 r1 q1) he hpl
end
end L2
namespace HT
open PySem PyProof.Rows
section
open PySem.SeqAt
open PySem.AutoSeq1 (wpAny_loadPart')
open PySem.MeetsSeq PySem.MeetsSeq2 PySem.MeetsSeq3
end
noncomputable def sIx(n d:Nat):Option Int->Nat
 |none=>d
 |some v=>if v<0 then(v+(n:Int)).toNat else min v.toNat n
end HT
namespace L2
open PySem PySem.Spec PyProof.Rows
noncomputable abbrev TO:=St->Hp->(Option Int->Hp->Prop)->Prop
noncomputable def PO(X:Cx)(e:Option Expr)(t:TO):Prop:=
 ∀(pins:List (Addr × Obj)) (s:Shared) (σ:St) (H:Hp) (Q:Option Int->Hp->Prop),Inv X pins σ H s->t σ H Q ->
  wpAny (model X.prog X.w) X.A (evalPart e X.env) (fun u s'=>∃o H',Inv X pins σ H' s'/\IsPart u o/\Q o H') X.xe s
noncomputable def apF:TO:=fun _ H Q=>Q none H
noncomputable def tPart(t:TE):TO:=fun σ H Q=>t σ H fun x H1=>∃i,x=.int i/\Q (some i) H1
theorem intsAre_of{ns:List Int}:∀{us:List Value},Vals (ns.map V.int) us->IntsAre us ns:=by
 induction ns with
 |nil=>intro us r;rw[Qd]at r;cases r;exact .nil
 |cons n ns ih =>
  intro us r;rw[cX]at r;cases r with
  |cons r1 r2 =>
   obtain⟨t,e⟩:=r1;subst e;exact .cons n t (ih r2)
section
variable{lo hi:Option Expr}
theorem apG:PO X none apF:=by
 intro pins s σ H Q I h;rw[akm];exact aN #[none,H,I,.none,h]
theorem apH(h:PE X e te):PO X (some e) (tPart te):=by
 intro pins s σ H Q I hw;rw[evalPart_some];refine thn (h pins s σ H _ I hw) fun u s1 zq=>?_;obtain⟨x,H1,I1,r1,q1⟩:=zq;obtain⟨i,rfl,q⟩:=q1;obtain⟨t,rfl⟩:=r1;show#[some i,H1,I1,.int i t,q]
noncomputable def SlR(X:Cx)(r:V->Option Int->Option Int->Hp->VK->Prop):Prop:=
 ∀(pins:List (Addr × Obj)) (s:Shared) (σ:St) (H:Hp) (x:V) (v vl vu:Value) (lo hi:Option Int) (sl:Addr) (Q:VK),Inv X pins σ H s->RelV x v->s.heap.IsSliceOf sl vl vu .none->IsPart vl lo->IsPart vu hi->r x lo hi H Q ->
  ∃T id,Yn (.type T) "__getitem__" = pure (some (.builtin id))/\s.TypeIs v T/\wpAny (model X.prog X.w) X.A (Yr v (.ref sl)) (EP X pins σ Q) X.xe s
noncomputable def tSl(r:V->Option Int->Option Int->Hp->VK->Prop)(te:TE)(tl th:TO):TE:=fun σ H Q=>te σ H fun x H1=>tl σ H1 fun l H2=>th σ H2 fun u H3=>r x l u H3 Q
theorem amF(hr:SlR X r)(he:PE X e te)(hl:PO X lo tl)(hu:PO X hi th):PE X (.Subscript e (.Slice lo hi none p2) pos) (tSl r te tl th):=by
 intro pins s σ H Q I h;refine aei (thn (he pins s σ H _ I h) fun v s1 zq=>?_);obtain⟨x,H1,I1,r1,q1⟩:=zq;refine wpAny_Slice (thn (hl pins s1 σ H1 _ I1 q1) fun vl s2 ⟨l,H2,I2,pl,q2⟩=>thn (hu pins s2 σ H2 _ I2 q2) fun vu s3 zq=>?_);obtain⟨u,H3,I3,pu,q3⟩:=zq;rw[akm];refine aN ?_;have I4:Inv X pins σ H3 { s3 with heap:=s3.heap.push { cls:=.type "slice",data:=.fields [vl,vu,.none].toArray } }:=I3.kept (t':=s3.toks) fun b ob q=>dH _ q;obtain⟨T,id,hT,ht,hg⟩:=hr pins { s3 with heap:=s3.heap.push { cls:=.type "slice",data:=.fields [vl,vu,.none].toArray } } σ H3 x v vl vu l u (~~~s3) Q I4 r1 (alZ ..) pl pu q3;show wpAny (model X.prog X.w) X.A (YJ e (.Slice lo hi none p2) v (.ref (~~~s3))) (EP X pins σ Q) X.xe { s3 with heap:=s3.heap.push { cls:=.type "slice",data:=.fields [vl,vu,.none].toArray } };exact tail_any (ops:=[.ref (~~~s3),v]) ht hT hg (by with_unfolding_all rfl)
noncomputable def abn(xs:List V)(lo hi:Option Int):List V:=(xs.drop (HT.sIx xs.length 0 lo)).take (HT.sIx xs.length xs.length hi-HT.sIx xs.length 0 lo)
theorem abo(xs:List V)(lo hi:Option Int):(abn xs lo hi).length<=xs.length:=by
 unfold abn;rw[dN,CN];lia
end
noncomputable def ixN(n:Nat)(i:Int):Option Nat:=if 0<=i then(if i<n then some i.toNat else none)else if -(n:Int)<=i then some (i+n).toNat else none
noncomputable def atI{α:Type}(xs:List α)(i:Int):Option α:=(ixN xs.length i).bind fun j=>xs[j]?
theorem ZC(h:ixN n i=some j):seqIndex? i n=some j/\j<n /\ -(n:Int)<=i/\i<n:=by
 unfold ixN at h;by_cases h0:0<=i
 ·rw[mB h0]at h;by_cases h1:i<n
  ·rw[mB h1]at h;have e:i.toNat=j:=cA h;show#[by rw[adG h0 h1,e],by lia,by lia,h1]
  ·rw[mw h1]at h;cases h
 ·rw[mw h0]at h;by_cases h1:-(n:Int)<=i
  ·rw[mB h1]at h;have e:(i+n).toNat=j:=cA h;show#[by rw[adE tb_g% h1,e],by lia,h1,by lia]
  ·rw[mw h1]at h;cases h
theorem agD{α:Type}{xs:List α}{i:Int}{v:α}(h:atI xs i=some v):∃j,seqIndex? i xs.length=some j/\xs[j]? = some v/\j<xs.length /\ -(xs.length:Int)<=i/\i<xs.length:=by
 unfold atI at h;cases e:ixN xs.length i with
 |none=>rw[e]at h;cases h
 |some j =>
  rw[e]at h;obtain⟨h1,h2,h3,h4⟩:=ZC e;show#[j,h1,h,h2,h3,h4]
theorem Gp{α:Type}{xs:List α}{j:Nat}{v:α}(h:xs[j]? = some v):atI xs (j:Int)=some v:=by
 have hj:j<xs.length:=(dh.mp h).1;have e:ixN xs.length (j:Int)=some j:=by
  unfold ixN;rw[mB tb_g%,mB tb_g%];simp
 unfold atI;rwa[e]
theorem amG(xs:List α)(v:α):atI (xs++[v]) (-1)=some v:=by
 have hl:(xs++[v]).length=xs.length+1:=by simp
 have e:ixN (xs++[v]).length (-1)=some xs.length:=by
  unfold ixN;rw[hl,mw tb_g%,mB tb_g%];congr 1;lia
 unfold atI;rw[e];show(xs++[v])[xs.length]? = some v;simp
noncomputable def apI(b:Expr):Prop:=∀o i,adH b false o i=operate [o,i] (Yr o i)
noncomputable def IxR(X:Cx)(r:R2):Prop:=
 ∀(value slice:Expr) (pins:List (Addr × Obj)) (s:Shared) (σ:St) (H:Hp) (x y:V) (v u:Value) (Q:VK),Inv X pins σ H s->RelV x v->RelV y u->r x y H Q ->
  adH slice false v u=operate [v,u] (Yr v u)->wpAny (model X.prog X.w) X.A (YJ value slice v u) (EP X pins σ Q) X.xe s
noncomputable def MtR(X:Cx)(id:String)(r:V->List V->Hp->VK->Prop):Prop:=
 ∀(pins:List (Addr × Obj)) (s:Shared) (σ:St) (H:Hp) (x:V) (xs:List V) (v:Value) (us:List Value) (Q:VK),Inv X pins σ H s->RelV x v->Vals xs us->r x xs H Q ->
  wpAny (model X.prog X.w) X.A (call (.builtin id) (v::us)) (EP X pins σ Q) X.xe s
section
variable{X:Cx}{a b:Expr}
theorem IxR.or(h:IxR X r)(h':IxR X r'):IxR X (fun x y H Q=>r x y H Q\/r' x y H Q):=by
 intro value slice pins s σ H x y v u Q I rx ry q hs;rcases q with q|q
 ·exact h value slice pins s σ H x y v u Q I rx ry q hs
 ·exact h' value slice pins s σ H x y v u Q I rx ry q hs
theorem gW(hr:IxR X r)(ha:PE X a ta)(hb:PE X b tb)(hs:apI b):PE X (.Subscript a b pos) (tOp r ta tb):=by
 intro pins s σ H Q I h;exact aei (binT ha hb I h fun v u s2 x y H2 I2 rx ry q=>hr a b pins s2 σ H2 x y v u Q I2 rx ry q (hs _ _))
noncomputable def rIxL(K:aH):R2:=fun x y H Q=>∃p xs i v,x=.ref p/\y=.int i/\SqL K H p xs/\atI xs i=some v/\Q v H
noncomputable def rIxT(K:aH):R2:=fun x y H Q=>∃p xs i v,x=.ref p/\y=.int i/\SqT K H p xs/\atI xs i=some v/\Q v H
theorem apJ:IxR X (rIxL X.K):=by
 intro value slice pins s σ H x y v u Q I rx ry h hs;obtain⟨p,xs,i,z,rfl,rfl,hq,he,q⟩:=h;cases rx;obtain⟨t,rfl⟩:=ry;obtain⟨its,r,pl,hz⟩:=I.list hq;obtain⟨j,h1,h2,h3,h4,h5⟩:=agD he;obtain⟨w,ew,rw'⟩:=r.get h2;have hl:=r.length;have hn:=Zy;have fin:EP X pins σ Q w s:=#[z,H,I,rw',q];by_cases h0:0<=i
 ·have hj:i.toNat=j:=by
   rw[adG h0 h5]at h1;exact cA h1
  exact item_listR pl.isList h0 tb_g% (by rw[hj];simpa using ew) fin hs
 ·have hj:(i+(its.toArray.size:Int)).toNat=j:=by
   rw[adE tb_g% h4]at h1;rw[cN,<-hl];exact cA h1
  exact akN (x:=w) pl.isList.typeIs adz.lookup
   (wpAny_getItem_list_neg (Q:=fun r s'=>r=w/\EP X pins σ Q r s') pl.isList tb_g% (by rw[cN] <;> lia) tb_g% (by rw[hj];simpa using ew) #[rfl,fin]) hs
theorem atQ:IxR X (rIxT X.K):=by
 intro value slice pins s σ H x y v u Q I rx ry h hs;obtain⟨p,xs,i,z,rfl,rfl,hq,he,q⟩:=h;cases rx;obtain⟨t,rfl⟩:=ry;obtain⟨its,r,pl,hz⟩:=I.tuple hq;obtain⟨j,h1,h2,h3,h4,h5⟩:=agD he;obtain⟨w,ew,rw'⟩:=r.get h2;have hl:=r.length;have hn:=Zy;have fin:EP X pins σ Q w s:=#[z,H,I,rw',q];exact akN (x:=w) pl.typeIs slot_tuple_getitem.lookup
  (getItem_tuple (j:=j) (Q:=fun r s'=>r=w/\EP X pins σ Q r s') pl tb_g% tb_g% (by rwa[cN,<-hl]) (by simpa using ew) #[rfl,fin]) hs
theorem ae4(its:List Value)(n j:Nat)(u:Value):jd (·.setIfInBounds j u) { cls:=.type "list",data:=.seq its.toArray n }={ cls:=.type "list",data:=.seq (its.set j u).toArray n }:=by
 simp[jd]
theorem Inv.lst{σ:St}{H:Hp}{s:Shared}{p:Addr}{xs:List V}(I:Inv X pins σ H s)(h:H p=some (.lst xs)):
  ∃its n,Vals xs its/\s⁻¹ p=some { cls:=.type "list",data:=.seq its.toArray n }/\xs.length<=sizeLine:=by
 obtain⟨z,its,n,r,e⟩:=I.hok p _ h;show#[its,n,r,e,z]
theorem Inv.atR{σ:St}{H:Hp}{s:Shared}{p:Addr}{xs ys:List V}{its its':List Value}{n n':Nat}{f:Obj->Obj}(I:Inv X pins σ H s)(h:H p=some (.lst xs))
  (ho:s⁻¹ p=some { cls:=.type "list",data:=.seq its.toArray n }) (hf:f { cls:=.type "list",data:=.seq its.toArray n }={ cls:=.type "list",data:=.seq its'.toArray n' }) (r:Vals ys its') (hz:ys.length<=sizeLine) (t:Nat):
  Inv X pins σ (upd H p (.lst ys)) { s with heap:=s.heap.update p f,toks:=t }:=by
 have e:(s.heap.update p f).get? p=some { cls:=.type "list",data:=.seq its'.toArray n' }:=by
  rw[Ds f ho (by rw[hf] <;> rfl),hf]
 refine I.write (x:=p) (e:=p) (by rw[h];trivial) (.inl rfl) (fun b u hb q=>(Bx _ _ (aG hb)).trans q) #[_,e] ?_;show#[hz,its',n',r,e]
noncomputable def aru:V->V->V->Hp->(Hp->Prop)->Prop:=fun o i v H Q=>∃p xs k j,o=.ref p/\i=.int k/\H p=some (.lst xs)/\ixN xs.length k=some j/\Q (upd H p (.lst (xs.set j v)))
theorem set_list:PSet X aru:=by
 intro pins s σ H o i v ov iv u Q I ro ri rv h;obtain⟨p,xs,k,j,rfl,rfl,hp,hj,q⟩:=h;cases ro;obtain⟨t,rfl⟩:=ri;obtain⟨its,n,r,ho,hz⟩:=I.lst hp;obtain⟨h1,h2,h3,h4⟩:=ZC hj;have hl:=r.length;have hn:=Zy;have I':Inv X pins σ (upd H p (.lst (xs.set j v))) { s with heap:=s.heap.update p (jd (·.setIfInBounds j u)) }:=
  I.atR hp ho (ae4 its n j u) (r.set rv j) (by rwa[kO]) s.toks
 by_cases h0:0<=k
 ·have hk:k.toNat=j:=by
   rw[adG h0 h4]at h1;exact cA h1
  exact PySem.W.ki_setAt ho h0 tb_g% (by rwa[cN,<-hl]) (by rw[hk];show#[_,I',q])
 ·have hk:(k+(its.toArray.size:Int)).toNat=j:=by
   rw[adE tb_g% h3]at h1;rw[cN,<-hl];exact cA h1
  exact PySem.W.ki_setBack ho tb_g% (by rwa[cN,<-hl]) tb_g% (by rw[hk];show#[_,I',q])
theorem ZD(lo hi:Option Int)(n:Nat):(jr lo hi none n).1=((HT.sIx n 0 lo:Nat):Int)/\(jr lo hi none n).2.1=((HT.sIx n n hi:Nat):Int)/\(jr lo hi none n).2.2=1:=by
 show#[?_,?_,rfl]
 ·cases lo with
  |none=>simp[jr,HT.sIx]
  |some i =>
   simp only[jr,HT.sIx,aer,show(1:Int)>0 by decide,if_true];by_cases h:i<0
   ·simp only[h,if_true] <;> lia
   ·simp only[h,if_false] <;> lia
 ·cases hi with
  |none=>simp[jr,HT.sIx]
  |some i =>
   simp only[jr,HT.sIx,aer,show(1:Int)>0 by decide,if_true];by_cases h:i<0
   ·simp only[h,if_true] <;> lia
   ·simp only[h,if_false] <;> lia
theorem Vj(its:List Value)(lo hi:Option Int):Qq its.toArray lo hi none=((its.drop (HT.sIx its.length 0 lo)).take (HT.sIx its.length its.length hi-HT.sIx its.length 0 lo)).toArray:=by
 obtain⟨h1,h2,h3⟩:=ZD lo hi its.toArray.size;unfold Qq;rw[h1,h2,h3];simp only[sliceRange_one,pick_run,cN] <;> rfl
noncomputable def rSlL(K:aH):V->Option Int->Option Int->Hp->VK->Prop:=fun x lo hi H Q=>∃a xs,x=.ref a/\SqL K H a xs/\∀p,H p=none->Q (.ref p) (upd H p (.lst (abn xs lo hi)))
theorem apK:SlR X (rSlL X.K):=by
 intro pins s σ H x v vl vu lo hi sl Q I rx hs pl pu h;obtain⟨a,xs,rfl,hx,q⟩:=h;cases rx;obtain⟨its,r,ht,hz⟩:=I.list hx;have hlen:=r.length;show#["list",_,adz.lookup,ht.isList.typeIs,?_];refine ajZ ht.isList hs pl pu .none (by simp) ?_ (by rw[cN] <;> lia);rw[Vj,<-hlen];show#[.ref (~~~s),_,I.laid (t':=s.toks) (o:=.lst (abn xs lo hi)) (fun b ob q=>dH _ q) (bC _) ?_,rfl,q _ (I.hok.fresh (bC _))];show#[cH (abo xs lo hi) hz,_,0,(r.drop (HT.sIx xs.length 0 lo)).take (HT.sIx xs.length xs.length hi-HT.sIx xs.length 0 lo),dW _ rfl]
noncomputable def zx:V->Bool
 | .non=>true
 | .bl _=>true
 | .int _=>true
 | .str _=>true
 |_=>false
noncomputable def eqV:V->V->Bool
 | .non,.non=>true
 | .bl a,.bl b=>a == b
 | .bl a,.int b=>(if a then 1 else 0) == b
 | .int a,.bl b=>a == (if b then 1 else 0)
 | .int a,.int b=>a == b
 | .str a,.str b=>a == b
 |_,_=>false
theorem ZF(ry:RelV y u)(rx:RelV x v)(fy:zx y=true)(fx:zx x=true):QM A s u v (eqV y x):=by
 cases y with
 |non =>
  cases ry;cases x with
  |non=>cases rx;exact aeA _
  |bl b=>cases rx;exact asl b
  |int b=>obtain⟨t,rfl⟩:=rx;exact asp b t
  |str b=>obtain⟨t,rfl⟩:=rx;exact asq b t
  |_=>exact mI (show false=true from fx) iR
 |bl a =>
  cases ry;cases x with
  |non=>cases rx;exact asn a
  |bl b=>cases rx;exact aso a b
  |int b=>obtain⟨t,rfl⟩:=rx;exact asr a b t
  |str b=>obtain⟨t,rfl⟩:=rx;exact asu a b t
  |_=>exact mI (show false=true from fx) iR
 |int a =>
  obtain⟨t',rfl⟩:=ry;cases x with
  |non=>cases rx;exact asv a t'
  |bl b=>cases rx;exact asw a t' b
  |int b=>obtain⟨t,rfl⟩:=rx;exact asz a t' b t
  |str b=>obtain⟨t,rfl⟩:=rx;exact alT a t' b t
  |_=>exact mI (show false=true from fx) iR
 |str a =>
  obtain⟨t',rfl⟩:=ry;cases x with
  |non=>cases rx;exact asx a t'
  |bl b=>cases rx;exact asy a t' b
  |int b=>obtain⟨t,rfl⟩:=rx;exact alU a t' b t
  |str b=>obtain⟨t,rfl⟩:=rx;exact asA a t' b t
  |_=>exact mI (show false=true from fx) iR
 |_=>exact mI (show false=true from fy) iR
noncomputable def eqU(x:V)(u:Value):Bool:=match u with
 | .none=>eqV .non x
 | .bool b=>eqV (.bl b) x
 | .int i _=>eqV (.int i) x
 | .str z _=>eqV (.str z) x
 |_=>false
theorem amH(r:RelV y u)(f:zx y=true):eqU x u=eqV y x:=by
 cases y with
 |non=>cases r;rfl
 |bl b=>cases r;rfl
 |int i=>obtain⟨t,rfl⟩:=r;rfl
 |str z=>obtain⟨t,rfl⟩:=r;rfl
 |_=>exact mI (show false=true from f) iR
theorem ZG:∀{xs:List V}{us:List Value},Vals xs us->xs.all zx=true->us.any (eqU x)=xs.any fun y=>eqV y x
 |_,_,.nil,_=>rfl
 |y::xs,u::us,.cons r t,f=>by
  rw[ajK,Y8]at f;rw[CT,CT,amH r f.1,ZG t f.2]
theorem Rm(rx:RelV x v)(fx:zx x=true):∀{xs:List V}{us:List Value},Vals xs us->xs.all zx=true->∀u∈us,QM A s u v (eqU x u)
 |_,_,.nil,_=>fun u hu=>by cases hu
 |y::xs,u::us,.cons r t,f=>fun u' hu=>by
  rw[ajK,Y8]at f;rcases aX.mp hu with rfl|hu
  ·rw[amH r f.1];exact ZF r rx f.1 fx
  ·exact Rm rx fx t f.2 u' hu
noncomputable def inV(x:V)(xs:List V):Bool:=xs.any fun y=>eqV y x
noncomputable def rIn(K:aH)(neg:Bool):R2:=fun x y H Q=>∃p xs,y=.ref p/\(SqL K H p xs\/SqT K H p xs)/\zx x=true/\xs.all zx=true/\Q (.bl (if neg then !inV x xs else inV x xs)) H
theorem ZJ:OpR X (gq .NotIn) (rIn X.K true):=by
 intro pins s σ H x y v u Q I rx ry h;obtain⟨p,xs,rfl,hq,fx,fs,q⟩:=h;cases ry;rcases hq with hq|hq
 ·obtain⟨its,r,pl,hz⟩:=I.list hq;refine SeqAt.notIn_listAt (eqU x) pl.isList (fun w hw=>Rm rx fx r fs w (by simpa using hw)) #[.bl _,H,I,rfl,?_];rwa[show its.toArray.any (eqU x)=its.any (eqU x) by simp,ZG r fs]
 ·obtain⟨its,r,pl,hz⟩:=I.tuple hq;refine SeqAt.notIn_tupleAt (eqU x) pl (fun w hw=>Rm rx fx r fs w (by simpa using hw)) #[.bl _,H,I,rfl,?_];rwa[show its.toArray.any (eqU x)=its.any (eqU x) by simp,ZG r fs]
theorem gU.or(h:gU X f r)(h':gU X f r'):gU X f (fun xs H Q=>r xs H Q\/r' xs H Q):=by
 intro pins s σ H xs us Q I rs q;rcases q with q|q
 ·exact h pins s σ H xs us Q I rs q
 ·exact h' pins s σ H xs us Q I rs q
theorem ZL:gU X (.type "list") (fun xs H Q=>∃p ys,xs=[.ref p]/\(SqL X.K H p ys\/SqT X.K H p ys)/\∀l,H l=none->Q (.ref l) (upd H l (.lst ys))):=by
 intro pins s σ H xs us Q I r h;obtain⟨p,ys,rfl,hq,q⟩:=h;obtain⟨u,rfl,rx⟩:=vals1 r;cases rx;have fin:∀(its:List Value),Vals ys its->ys.length<=sizeLine->∀(h':Heap)(c':Nat),(∀b o',s⁻¹ b=some o'->h'.get? b=some o') ->
   h'.get? (~~~s)=some { cls:=.type "list",dict:=none,data:=.seq its.toArray c',slots:=#[] }->EP X pins σ Q (.ref (~~~s)) { s with heap:=h' }:=fun its r' hz h' c' kp e =>
  #[.ref (~~~s),_,I.laid (t':=s.toks) kp (bC _) (show cT X.prog X.w _ h' _ (.lst ys)from#[hz,its,c',r',e]),rfl,q _ (I.hok.fresh (bC _))]
 rcases hq with hq|hq
 ·obtain⟨its,r',pl,hz⟩:=I.list hq;have hlen:=r'.length;obtain⟨o,ho,hc,n,hd⟩:=pl.isList;exact akn p (.inl rfl) ho hc hd (fun h' c' kp e=>fin its r' hz h' c' kp e) (by simp only[cN] <;> lia)
 ·obtain⟨its,r',pl,hz⟩:=I.tuple hq;have hlen:=r'.length;obtain⟨o,ho,hc,n,hd⟩:=pl;exact akn p (.inr rfl) ho hc hd (fun h' c' kp e=>fin its r' hz h' c' kp e) (by simp only[cN] <;> lia)
noncomputable def tyV(K:aH)(T:String)(x:V)(H:Hp):Prop:=match x with
 | .str _=>T = "str"
 | .int _=>T = "int"
 | .ref p=>(T = "list" /\ ∃xs,SqL K H p xs)\/(T = "tuple" /\ ∃o,K.lookup p=some o/\o.cls=.type "tuple" /\ o.dict=none) \/
   (T = "dict" /\ ((∃kvs,H p=some (.dK kvs))\/∃kvs,H p=some (.dT kvs)))\/(T = "set" /\ ∃S n,H p=some (.set S n))
 |_=>False
theorem amI{σ:St}{H:Hp}{s:Shared}{T:String}{x:V}{v:Value}(I:Inv X pins σ H s)(r:RelV x v)(ty:tyV X.K T x H):
  s.TypeIs v T/\∀a,v=.ref a->∃ob,s⁻¹ a=some ob/\ob.dict=none:=by
 cases x with
 |str z =>
  obtain⟨t,rfl⟩:=r;cases (show T = "str" from ty);show#[typeIs_str s z t,fun _ e=>nomatch e]
 |int i =>
  obtain⟨t,rfl⟩:=r;cases (show T = "int" from ty);show#[typeIs_int s i t,fun _ e=>nomatch e]
 |ref p =>
  cases r;rcases ty with⟨rfl,xs,hq⟩|⟨rfl,o,hk,hc,hd⟩|⟨rfl,hk⟩|⟨rfl,S,n,hk⟩
  ·obtain⟨its,_,pl,_⟩:=I.list hq;show#[pl.isList.typeIs,fun a e=>?_];cases e;obtain⟨o,n,e,c,hd,_⟩:=pl;show#[o,e,hd]
  ·show#[#[o,I.kIn p o hk,hc],fun a e=>?_];cases e;show#[o,I.kIn _ o hk,hd]
  ·have z:∃o,s⁻¹ p=some o/\o.ExactDict:=by
    rcases hk with⟨kvs,hk⟩|⟨kvs,hk⟩
    ·obtain⟨_,_,_,_,o,_,_,e,ex,_⟩:=I.hok p _ hk;show#[o,e,ex]
    ·obtain⟨_,_,_,_,o,_,_,e,ex,_⟩:=I.hok p _ hk;show#[o,e,ex]
   obtain⟨o,e,ex⟩:=z;show#[#[o,e,ex.1],fun a e2=>?_];cases e2;show#[o,e,ex.2.1]
  ·obtain⟨o,_,_,_,e,ex,_⟩:=I.hok p _ hk;show#[#[o,e,ex.1],fun a e2=>?_];cases e2;show#[o,e,ex.2.1]
 |_=>exact ju ty
noncomputable def tBM0(K:aH)(T:String)(r:V->List V->Hp->VK->Prop)(to:TE):TE:=fun σ H Q=>to σ H fun x H1=>tyV K T x H1/\r x [] H1 Q
noncomputable def tBM(K:aH)(T:String)(r:V->List V->Hp->VK->Prop)(to:TE)(t:TA):TE:=fun σ H Q=>to σ H fun x H1=>tyV K T x H1/\t σ H1 fun xs H2=>r x xs H2 Q
variable{o e:Expr}{es:List Expr}{to:TE}{t:TA}{name:Str}{apos cpos:Pos}{T id:String}{r:V->List V->Hp->VK->Prop}
theorem atU(pa:PlainAttrs T)(slot:Slot T name id)(hty:typeOf (.builtin id)=pure (.type "method_descriptor"))(hm:MtR X id r)(ho:PE X o to)
  (hbase:yC o name X.env (eval o X.env)=eval o X.env:=by rfl) (hline:(apos.endLine == cpos.line)=true:=by rfl):PE X (.Call (.Attribute o name apos) [] [] cpos) (tBM0 X.K T r to):=by
 intro pins s σ H Q I h;refine wpAny_Call_method0_late hbase hline (thn (ho pins s σ H _ I h) fun v s1 zq=>?_);obtain⟨x,H1,I1,r1,ty,q1⟩:=zq;obtain⟨h1,h2⟩:=amI I1 r1 ty;show#[T,id,pa,slot,hty,h1,h2,aew rfl (Qh (hm pins s1 σ H1 x [] v [] Q I1 r1 .nil q1))]
theorem arv(pa:PlainAttrs T)(slot:Slot T name id)(hty:typeOf (.builtin id)=pure (.type "method_descriptor"))(hm:MtR X id r)(ho:PE X o to)(ha:PA X (e::es) t)
  (hbase:yC o name X.env (eval o X.env)=eval o X.env:=by rfl)
  (hfew:((fV cpos (cD (e::es) X.env)).all (fun x=>!x.1) && (Jz cpos (Jw [] X.env)).all (fun x=>x.1.isSome)
   && decide ((e::es).length+([]:List yH).length+(if ([]:List yH).isEmpty then 0 else 1)<30))=true:=by rfl)
  (hline:(apos.endLine == cpos.line)=true:=by rfl) (hs:cD (e::es) X.env=(false,eval e X.env)::cD es X.env:=by rfl) (hplain:(fV cpos (cD es X.env)).any (·.1)=false:=by rfl):
  PE X (.Call (.Attribute o name apos) (e::es) [] cpos) (tBM X.K T r to t):=by
 intro pins s σ H Q I h;refine wpAny_Call_method_late hbase hfew hline rfl (thn (ho pins s σ H _ I h) fun v s1 zq=>?_);obtain⟨x,H1,I1,r1,ty,q1⟩:=zq;obtain⟨h1,h2⟩:=amI I1 r1 ty;show#[T,id,pa,slot,hty,h1,h2,?_];have hA:=ha cpos pins s1 σ H1 _ I1 q1;rw[hs]at hA ⊢;refine aew (by show(false || (fV cpos (cD es X.env)).any (·.1))=false;rw[hplain] <;> rfl) (alB ?_);exact thn hA fun us s2 ⟨vs,H2,I2,r2,q2⟩=>hm pins s2 σ H2 x vs v us Q I2 r1 r2 q2
end
noncomputable def MtM(X:Cx)(id:String)(r:V->List V->Hp->VK->Prop):Prop:=
 ∀(pins:List (Addr × Obj)) (s:Shared) (σ:St) (H:Hp) (x:V) (xs:List V) (v:Value) (us:List Value) (Q:VK),Inv X pins σ H s->RelV x v->Vals xs us->r x xs H Q ->
  wpAny (model X.prog X.w) X.A (call (.builtin id) (v::us)) (EP X pins σ Q) X.xe s
theorem Vals.one(h:Vals [x] us):∃u,us=[u]/\RelV x u:=vals1 h
theorem Vals.two(h:Vals [x,y] us):∃u v,us=[u,v]/\RelV x u/\RelV y v:=vals2 h
theorem Vals.zero:∀{us:List Value},Vals [] us->us=[]
 |_,.nil=>rfl
theorem Vals.eraseIdx:∀{xs:List V}{us:List Value}(i:Nat),Vals xs us->Vals (xs.eraseIdx i) (us.eraseIdx i)
 |_,_,_,.nil=>.nil
 |_,_,0,.cons _ t=>t
 |_,_,i+1,.cons r t=>.cons r (Vals.eraseIdx i t)
theorem Vals.reverse(h:Vals xs us):Vals xs.reverse us.reverse:=by
 induction h with
 |nil=>exact .nil
 |cons r t ih=>rw[Cz,Cz];exact Vals.append ih (.cons r .nil)
theorem Wv{α:Type}:∀(l:List α)(i:Nat),(l.eraseIdx i).length<=l.length
 |[],_=>bC _
 |_::_,0=>pC _
 |_::r,i+1=>akE (Wv r i)
section
variable{X:Cx}{pins:List (Addr × Obj)}{σ:St}{H:Hp}{s:Shared}{l b:Addr}{xs ys zs:List V}
theorem Inv.lset{its its':List Value}{n:Nat}{f:Array Value->Array Value}{t':Nat}(I:Inv X pins σ H s)(hH:H l=some (.lst xs))
  (e:s⁻¹ l=some { cls:=.type "list",data:=.seq its.toArray n }) (hf:f its.toArray=its'.toArray) (hv:Vals ys its') (hz:ys.length<=sizeLine):
  Inv X pins σ (upd H l (.lst ys)) { s with heap:=s.heap.update l (jd f),toks:=t' }:=by
 have q:=atk e f;rw[hf]at q;refine I.write (x:=l) (e:=l) (by rw[hH];exact trivial) (.inl rfl) (fun b' u hb hu=>(Bx s.heap (jd f) (aG hb)).trans hu) #[_,q] ?_;show#[hz,its',_,hv,q]
theorem Inv.lnew{its:List Value}{t':Nat}(I:Inv X pins σ H s)(hv:Vals ys its)(hz:ys.length<=sizeLine):
  Inv X pins σ (upd H (~~~s) (.lst ys)) { s with heap:=s.heap.push { cls:=.type "list",data:=.seq its.toArray },toks:=t' }:=
 I.laid (fun _ _ q=>dH _ q) (bC _) #[hz,its,0,hv,dW _ rfl]
theorem Inv.fresh(I:Inv X pins σ H s):H (~~~s)=none:=I.hok.fresh (bC _)
theorem Inv.Vk(I:Inv X pins σ H s)(hH:H l=some (.lst xs)):xs.length<=sizeLine/\∃its n,Vals xs its/\xs.length=its.length/\s⁻¹ l=some { cls:=.type "list",data:=.seq its.toArray n }:=by
 obtain⟨z,its,n,r,e⟩:=I.hok l _ hH;show#[z,its,n,r,r.length,e]
end
inductive agE (x:V) (vs:List V) (H:Hp) (Q:VK):Prop
 |k (l:Addr) (xs:List V) (y:V):x=.ref l->vs=[y]->H l=some (.lst xs)->xs.length<sizeLine->Q .non (upd H l (.lst (xs++[y])))->agE x vs H Q
theorem Ww:MtM X "list.append" agE:=by
 intro pins s σ H x vs v us Q I rx rv h;obtain⟨l,xs,y,rfl,rfl,hH,hz,q⟩:=h;cases rx;obtain⟨u,rfl,ru⟩:=rv.one;obtain⟨z,its,n,r,hl,e⟩:=I.Vk hH;refine call_meets F.slot_list_append #[_,e,rfl] F.entry_list_append (F.args_list_append_2 _ _) (PySem.list_append l its.toArray n u (by rw[cN];lia)) #[e,?_];show#[.non,_,I.lset (its':=its++[u]) hH e (by simp) (r.append (.cons ru .nil)) ?_,rfl,q];rw[dw,List.length_singleton];lia
noncomputable def atV:V->List V->Hp->VK->Prop:=fun x vs H Q=>∃l xs i k y,x=.ref l/\vs=[.int i]/\H l=some (.lst xs) /\ -(2 ^ 63)<=i/\i<2 ^ 63/\seqIndex? i xs.length=some k/\xs[k]? = some y/\Q y (upd H l (.lst (xs.eraseIdx k)))
theorem amJ:MtM X "list.pop" atV:=by
 intro pins s σ H x vs v us Q I rx rv h;obtain⟨l,xs,i,k,y,rfl,rfl,hH,h1,h2,hk,hy,q⟩:=h;cases rx;obtain⟨u,rfl,ru⟩:=rv.one;obtain⟨t,rfl⟩:=ru;obtain⟨z,its,n,r,hl,e⟩:=I.Vk hH;obtain⟨w,hw,rw'⟩:=r.get hy;refine call_meets F.slot_list_pop #[_,e,rfl] F.entry_list_pop (F.args_list_pop_2 _ _)
  (atd l its.toArray n i t k w (fitsIndex_both h1 h2) (by rwa[cN,<-hl]) (by rwa[<-gR]) (by rw[cN];lia)) #[e,?_]
 show#[y,_,I.lset (its':=its.eraseIdx k) hH e ?_ (r.eraseIdx k) ?_,rw',q]
 ·show its.toArray.eraseIdxIfInBounds k=(its.eraseIdx k).toArray;rw[List.eraseIdxIfInBounds_toArray]
 ·have:=Wv xs k;lia
noncomputable def rCat:R2:=fun x y H Q=>∃l b xs zs,x=.ref l/\y=.ref b/\H l=some (.lst xs)/\H b=some (.lst zs)/\xs.length+zs.length<=sizeLine/\∀p,H p=none->Q (.ref p) (upd H p (.lst (xs++zs)))
theorem sV:OpR X (jH .Add) rCat:=by
 intro pins s σ H x y v u Q I rx ry h;obtain⟨l,b,xs,zs,rfl,rfl,hH,hB,hz,q⟩:=h;cases rx;cases ry;obtain⟨z,its,n,r,hl,e⟩:=I.Vk hH;obtain⟨z2,its2,n2,r2,hl2,e2⟩:=I.Vk hB;refine PySem.P.add_list e e2 ?_ (by rw[cN,cN];lia);have ea:its.toArray++its2.toArray=(its++its2).toArray:=by simp
 rw[ea];show#[.ref _,_,I.lnew (t':=s.toks) (r.append r2) (by rw[dw];lia),rfl,q _ I.fresh]
section
variable{prog:aK}{w:World}{A:aY}{E:Value->Shared->Prop}{s:Shared}
end
section
variable{κ:Type}[DecidableEq κ]
noncomputable def sW(kvs:List (κ × V))(k:κ):Option V:=(kvs.find? fun kv=>decide (kv.1=k)).map (·.2)
noncomputable def putK(kvs:List (κ × V))(k:κ)(v:V):List (κ × V):=
 if(kvs.any fun kv=>decide (kv.1=k))=true then kvs.map (fun kv=>if kv.1=k then(kv.1,v)else kv)else kvs++[(k,v)]
theorem Gq{p:κ × V}{k:κ}(e:p.1=k):sW (p::r) k=some p.2:=by simp[sW,yq,e]
theorem Gs{p:κ × V}{k:κ}(e:¬ p.1=k):sW (p::r) k=sW r k:=by simp[sW,yq,e]
theorem abp(k:κ):∀kvs:List (κ × V),(kvs.any fun kv=>decide (kv.1=k))=(sW kvs k).isSome
 |[]=>rfl
 |p::r=>by
  rw[CT];by_cases e:p.1=k
  ·simp only[Gq e,mN e,Bool.true_or,Option.isSome_some]
  ·rw[Gs e,mS e,als];exact abp k r
theorem Mr(kvs:List (κ × V))(k:κ)(v:V):(putK kvs k v).length<=kvs.length+1:=by
 unfold putK;split
 ·rw[aC];lia
 ·rw[dw,fu,ajG];lia
theorem xV.Kg(r:xV o u):o.isSome=u.isSome:=by
 cases o with
 |none=>cases u with
  |none=>rfl
  |some _=>exact(show False from r).elim
 |some _=>cases u with
  |none=>exact(show False from r).elim
  |some _=>rfl
theorem xV.getD(r:xV o u)(rd:RelV d d'):RelV (o.getD d) (u.getD d'):=by
 cases o with
 |none=>cases u with
  |none=>exact rd
  |some _=>exact(show False from r).elim
 |some _=>cases u with
  |none=>exact(show False from r).elim
  |some _=>exact r
theorem KV.val{vs:List (κ × Value)}(r:KV kvs vs)(k:κ):xV (sW kvs k) (Dp vs k):=by
 unfold KV at r
 induction r with
 |nil=>exact True.intro
 | @cons p q ps qs h t ih =>
  obtain⟨h1,h2⟩:=h;by_cases e:p.1=k
  ·have e':q.1=k:=h1.symm.trans e;have b:Dp (q::qs) k=some q.2:=by simp[Dp,yq,e']
   rwa[Gq e,b]
  ·have e':¬ q.1=k:=fun z=>e (h1.trans z);have b:Dp (q::qs) k=Dp qs k:=by simp[Dp,yq,e']
   rwa[Gs e,b]
theorem KV.any{vs:List (κ × Value)}(r:KV kvs vs)(k:κ):(kvs.any fun kv=>decide (kv.1=k))=vs.any fun kv=>decide (kv.1=k):=by
 unfold KV at r
 induction r with
 |nil=>rfl
 |cons h t ih=>rw[CT,CT,ih,h.1]
theorem KV.repl{vs:List (κ × Value)}(r:KV kvs vs)(k:κ){y:V}{u:Value}(ry:RelV y u):
  KV (kvs.map fun kv=>if kv.1=k then(kv.1,y)else kv) (vs.map fun kv=>if kv.1=k then(kv.1,u)else kv):=by
 unfold KV at r ⊢
 induction r with
 |nil=>exact .nil
 | @cons p q ps qs h t ih =>
  rw[cX,cX];refine .cons ?_ ih;obtain⟨h1,h2⟩:=h;by_cases e:p.1=k
  ·rw[mB e,mB (h1.symm.trans e)];show#[h1,ry]
  ·rw[mw e,mw (fun z=>e (h1.trans z))];show#[h1,h2]
theorem KV.put{vs:List (κ × Value)}(r:KV kvs vs)(k:κ){y:V}{u:Value}(ry:RelV y u):KV (putK kvs k y) (stored vs k u):=by
 unfold putK stored;rw[r.any k];by_cases e:(vs.any fun kv=>decide (kv.1=k))=true
 ·rw[mB e,mB e];exact r.repl k ry
 ·rw[mw e,mw e];exact aeE r #[rfl,ry]
theorem KV.keys{vs:List (κ × Value)}(r:KV kvs vs):kvs.map (·.1)=vs.map (·.1):=by
 unfold KV at r
 induction r with
 |nil=>rfl
 |cons h t ih=>rw[cX,cX,ih,h.1]
theorem KV.length{vs:List (κ × Value)}(r:KV kvs vs):kvs.length=vs.length:=aeD r
end
theorem abq{P:aK}(r:RelV (kV k) u):(cu P w).is k u=true:=by
 cases k with
 |inl i=>obtain⟨t,e⟩:=(show ∃t,u=Value.int i t from r);subst e;exact abe P w i t
 |inr x=>obtain⟨t,e⟩:=(show ∃t,u=Value.str x t from r);subst e;exact abf P w x t
theorem Wx{P:aK}:∀{ks:List Key}{us:List Value},Vals (ks.map kV) us->ItemsAre (cu P w) ks us
 |[],_,r=>by rw[Qd]at r;cases r;exact .nil
 |k::ks,_,r=>by
  rw[cX]at r;cases r with
  |cons h t=>exact .cons (abq h) (Wx t)
noncomputable abbrev KT(H:Hp):List (List Key × V)->List (List Key × Addr × Value)->Prop:=Paired fun p q=>p.1=q.1/\H q.2.1=some (.tup (p.1.map kV))/\RelV p.2 q.2.2
theorem KT.val{xs:List (List Key × Addr × Value)}(r:KT H kvs xs)(k:List Key):xV (sW kvs k) ((atKey xs k).map (·.2)):=by
 induction r with
 |nil=>exact True.intro
 | @cons p q ps qs h t ih =>
  obtain⟨h1,_,h2⟩:=h;by_cases e:p.1=k
  ·have e':q.1=k:=h1.symm.trans e;have b:atKey (q::qs) k=some q.2:=by simp[atKey,yq,e']
   rwa[Gq e,b]
  ·have e':¬ q.1=k:=fun z=>e (h1.trans z);have b:atKey (q::qs) k=atKey qs k:=by simp[atKey,yq,e']
   rwa[Gs e,b]
theorem KT.repl{xs:List (List Key × Addr × Value)}(r:KT H kvs xs)(k:List Key){y:V}{u:Value}(ry:RelV y u):
  KT H (kvs.map fun kv=>if kv.1=k then(kv.1,y)else kv) (xs.map (putAt k u)):=by
 induction r with
 |nil=>exact .nil
 | @cons p q ps qs h t ih =>
  rw[cX,cX];refine .cons ?_ ih;obtain⟨h1,h2,h3⟩:=h;unfold putAt;by_cases e:p.1=k
  ·rw[mB e,mB (h1.symm.trans e)];show#[h1,h2,ry]
  ·rw[mw e,mw (fun z=>e (h1.trans z))];show#[h1,h2,h3]
theorem KT.put{xs:List (List Key × Addr × Value)}(r:KT H kvs xs)(k:List Key){b:Addr}{y:V}{u:Value}(hb:H b=some (.tup (k.map kV)))(ry:RelV y u):
  KT H (putK kvs k y) (storedH xs k b u):=by
 have e:(kvs.any fun kv=>decide (kv.1=k))=(atKey xs k).isSome:=by
  rw[abp,(r.val k).Kg,aep]
 unfold putK storedH;rw[e];by_cases q:(atKey xs k).isSome=true
 ·rw[mB q,mB q];exact r.repl k ry
 ·rw[mw q,mw q];exact aeE r #[rfl,hb,ry]
theorem KT.keeps{xs:List (List Key × Addr × Value)}(r:KT H kvs xs)(ht:∀b ys,H b=some (.tup ys)->H' b=some (.tup ys)):KT H' kvs xs:=
 Paired.mapP r fun _ _ z=>#[z.1,ht _ _ z.2.1,z.2.2]
section
variable{P:aK}
theorem arw(ok:HOk P w H h)(e:Rd H a u):cT P w H h a u:=e.ok ok
theorem tZ(ok:HOk P w H h)(e:Rd H a (.dK kvs)):kvs.length<=sizeLine/\(a == rP)=false/\∃vs,KV kvs vs/\h.DictOf (cu P w) a vs:=
 show cT P w H h a (.dK kvs)from arw ok e
theorem arx(ok:HOk P w H h)(e:H a=some (.dK kvs)):kvs.length<=sizeLine/\(a == rP)=false/\∃vs,KV kvs vs/\h.DictOf (cu P w) a vs:=tZ ok (.inl e)
theorem Ro{ks:List Key}(ok:HOk P w H h)(e:H a=some (.tup (ks.map kV))):(Jy (cu P w)).is h ks a:=by
 obtain⟨_,its,r,o,h1,h2,n,h3⟩:=(show cT P w H h a (.tup (ks.map kV))from ok a _ e);show#[o,its.toArray,n,h1,h2,h3,by simpa using Wx r]
theorem Wy(ok:HOk P w H h)(e:Rd H a (.dT kvs)):kvs.length<=sizeLine/\(a == rP)=false /\
  ∃xs,KT H kvs xs/\h.DictOfH (Jy (cu P w)) a xs:=by
 obtain⟨z,y,xs,r,o,es,ep,h1,h2,h3,h4,h5⟩:=(show cT P w H h a (.dT kvs)from arw ok e);show#[z,y,xs,r,o,es,ep,h1,h2,h3,h4,fun x hx=>?_,h5];have all:∀{l:List (List Key × V)} {m:List (List Key × Addr × Value)},KT H l m->∀x∈m,(Jy (cu P w)).is h x.1 x.2.1:=by
  intro l m q
  induction q with
  |nil=>intro x hx;exact nomatch hx
  | @cons p q ps qs hq t ih =>
   intro x hx;rcases aX.mp hx with e|hx
   ·subst e;exact Ro ok (by rw[<-hq.1];exact hq.2.1)
   ·exact ih x hx
 exact all r x hx
theorem dt_of(ok:HOk P w H h)(e:H a=some (.dT kvs)):kvs.length<=sizeLine/\(a == rP)=false /\
  ∃xs,KT H kvs xs/\h.DictOfH (Jy (cu P w)) a xs:=Wy ok (.inl e)
end
noncomputable def ZM(H:Hp)(a:Addr)(y:V)(r:Option V):Prop:=
 (∃kvs k,Rd H a (.dK kvs)/\y=kV k/\r=sW kvs k)\/∃kvs k b,Rd H a (.dT kvs)/\y=.ref b/\H b=some (.tup (k.map kV))/\r=sW kvs k
noncomputable def DPut(H:Hp)(a:Addr)(y v:V)(H':Hp):Prop:=
 (∃kvs k,H a=some (.dK kvs)/\y=kV k/\kvs.length<sizeLine/\H'=upd H a (.dK (putK kvs k v))) \/
 ∃kvs k b,H a=some (.dT kvs)/\y=.ref b/\H b=some (.tup (k.map kV))/\kvs.length<sizeLine/\H'=upd H a (.dT (putK kvs k v))
section
variable{X:Cx}{pins:List (Addr × Obj)}{σ:St}{H:Hp}{s:Shared}{a:Addr}{y v:V}{u r:Value}{o:Option V}{A:aY}{E:Value->Shared->Prop}
theorem Inv.big(I:Inv X pins σ H s):rP< ~~~s:=by
 have h:eE< ~~~s:=(I.mod.glob.keeps I.bk).lt;exact JH tb_g% h
theorem ahV{Q:Value->Shared->Prop}(hu:A.units+1<cLine)(I:Inv X pins σ H s)(g:ZM H a y (some v))(ry:RelV y u)(h:∀w' s',Inv X pins σ H s'->RelV v w'->Q w' s'):
  wpAny (model X.prog X.w) A (Yr (.ref a) u) Q E s:=by
 rcases g with⟨kvs,k,e,ey,l⟩|⟨kvs,k,b,e,ey,eb,l⟩
 ·subst ey;obtain⟨z,hd,vs,rel,dd⟩:=tZ I.hok e;obtain⟨w',hw,rw'⟩:=xV.some_of (v:=v) (o:=Dp vs k) (by rw[l];exact rel.val k);exact wpAny_getItem_of (abq ry) dd.mapOf hw (h w' _ (I.tok _) rw')
 ·subst ey;cases (show u=Value.ref b from ry);obtain⟨z,hd,xs,rel,dd⟩:=Wy I.hok e;obtain⟨w',hw,rw'⟩:=xV.some_of (v:=v) (o:=(atKey xs k).map (·.2)) (by rw[l];exact rel.val k);obtain⟨p,hp,hp2⟩:=BR.mp hw;refine wpAny_getItem_heap (X6 hu) (Ro I.hok eb) dd hp ?_;rw[hp2];exact h w' _ (I.tok _) rw'
theorem apL{Q:Value->Shared->Prop}(hu:A.units+1<cLine)(I:Inv X pins σ H s)(g:ZM H a y o)(ry:RelV y u)(h:∀s',Inv X pins σ H s'->Q (.bool (!o.isSome)) s'):
  wpAny (model X.prog X.w) A (gq .NotIn u (.ref a)) Q E s:=by
 rcases g with⟨kvs,k,e,ey,l⟩|⟨kvs,k,b,e,ey,eb,l⟩
 ·subst ey;obtain⟨z,hd,vs,rel,dd⟩:=tZ I.hok e;refine wpAny_notIn_of (abq ry) hd dd.mapOf ?_;rw[<-(rel.val k).Kg,<-l];exact h _ (I.tok _)
 ·subst ey;cases (show u=Value.ref b from ry);obtain⟨z,hd,xs,rel,dd⟩:=Wy I.hok e;refine wpAny_notIn_heap (X6 hu) (Ro I.hok eb) hd dd ?_;have q:=(rel.val k).Kg;rw[aep]at q;rw[<-q,<-l];exact h _ (I.tok _)
theorem agF{h':Heap}{t':Nat}{ob:HO}(I:Inv X pins σ H s)(mu:Mut (H a))(hs:yJ a s.heap h')(he:∃q,h'.get? a=some q)(new:cT X.prog X.w (upd H a ob) h' a ob):
  Inv X pins σ (upd H a ob) { s with heap:=h',toks:=t' }:=
 I.write (x:=a) (e:=a) mu (.inl rfl) (fun b q hb z=>(hs.2 b hb).trans z) he new
theorem amK{P:aK}{h':Heap}{kvs:List (Key × V)}{vs:List (Key × Value)}(z:kvs.length<=sizeLine)(hd:(a == rP)=false)(rel:KV kvs vs)(dd:h'.DictOf (cu P w) a vs):
  cT P w H' h' a (.dK kvs):=#[z,hd,vs,rel,dd]
theorem ahW{H':Hp}{Q:Unit->Shared->Prop}(hu:A.units+1<cLine)(I:Inv X pins σ H s)(g:DPut H a y v H')(ry:RelV y u)(rv:RelV v r)(h:∀s',Inv X pins σ H' s'->Q () s'):
  wpAny (model X.prog X.w) A (setItem (.ref a) u r) Q E s:=by
 rcases g with⟨kvs,k,e,ey,l,eH⟩|⟨kvs,k,b,e,ey,eb,l,eH⟩
 ·subst ey eH;obtain⟨z,hd,vs,rel,dd⟩:=arx I.hok e;have hz:vs.length<=sizeLine:=by rwa[<-rel.length]
  have hl:(putK kvs k v).length<=sizeLine:=by have:=Mr kvs k v;lia
  refine wpAny_setItem_pairs (hsz:=hz) (abq ry) dd fun h' dd' hs=>h _ ?_;have he:∃q,h'.get? a=some q:=let ⟨q,_,_,hq,_⟩:=dd';#[q,hq];exact agF I (by rw[e];exact True.intro) hs he (amK hl hd (rel.put k rv) dd')
 ·subst ey eH;cases (show u=Value.ref b from ry);obtain⟨z,hd,xs,rel,dd⟩:=dt_of I.hok e;have hz:xs.length<=sizeLine:=by rwa[<-aeD rel]
  have hl:(putK kvs k v).length<=sizeLine:=by have:=Mr kvs k v;lia
  refine wpAny_setItem_heap (hsz:=hz) (X6 hu) (Ro I.hok eb) dd fun h' dd' hs=>h _ ?_;obtain⟨q,es,ep,hq,h2,h3,h4,_,h5⟩:=dd';refine agF I (by rw[e];exact True.intro) hs #[q,hq] #[hl,hd,_,(rel.put k eb rv).keeps fun c ys ec=>?_,q,es,ep,hq,h2,h3,h4,h5];rwa[ao (fU ec e (fun z=>nomatch z))]
end
section
variable{X:Cx}{pins:List (Addr × Obj)}{σ:St}{H:Hp}{s:Shared}{a:Addr}{kvs:List (Key × V)}{A:aY}{E:Value->Shared->Prop}
theorem d_len{Q:Value->Shared->Prop}(I:Inv X pins σ H s)(e:Rd H a (.dK kvs))(h:∀t s',Inv X pins σ H s'->Q (.int kvs.length t) s'):wpAny (model X.prog X.w) A (call (.builtin "len") [.ref a]) Q E s:=by
 obtain⟨z,hd,vs,rel,dd⟩:=tZ I.hok e;refine call_len_dict hd dd (by rw[<-rel.length];rw[Yk]at z;lia) ?_;rw[<-rel.length];exact h _ _ (I.tok _)
end
theorem abr{σ:St}{H:Hp}{s:Shared}{a:Addr}{y:V}{o:Option V}(I:Inv X pins σ H s)(g:ZM H a y o):s.TypeIs (.ref a) "dict" := by
 rcases g with⟨kvs,k,e,_,_⟩|⟨kvs,k,b,e,_,_,_⟩
 ·obtain⟨_,_,vs,_,dd⟩:=tZ I.hok e;exact dd.typeIs
 ·obtain⟨_,_,xs,_,dd⟩:=Wy I.hok e;exact dd.typeIs
theorem amL{P:aK}(h:Heap)(hb:rP<h.objs.size):cT P w H (h.push { cls:=.type "dict",data:=.dict #[] }) h.objs.size (.dK []):=
 #[bF _,xj.mpr (aG (cF hb)),[],.nil,atl h]
noncomputable def atX:TE:=fun _ H Q=>∀p,H p=none->Q (.ref p) (upd H p (.dK []))
theorem zy:PE X (.Dict [] [] pos) atX:=fun pins s σ H Q I h =>
 wpAny_Dict_empty #[.ref (~~~s),_,I.laid (a:= ~~~s) (o:=.dK []) (t':=s.toks) (fun _ _ q=>dH _ q) (bC _) (amL s.heap I.big),rfl,h _ (I.hok.fresh (bC _))]
structure M1(X:Cx)(o:Expr)(m:Str)(apos:Pos)(e:Expr)(cpos:Pos):Prop where
 base:yC o m X.env (eval o X.env)=eval o X.env
 few:((fV cpos (cD [e] X.env)).all (fun x=>!x.1) && (Jz cpos (Jw [] X.env)).all (fun x=>x.1.isSome)
  && decide (([e]:List Expr).length+([]:List yH).length+(if ([]:List yH).isEmpty then 0 else 1)<30))=true
 line:(apos.endLine == cpos.line)=true
 trees:fV cpos (cD [e] X.env)=[(false,eval e X.env)]
structure M2(X:Cx)(o:Expr)(m:Str)(apos:Pos)(e f:Expr)(cpos:Pos):Prop where
 base:yC o m X.env (eval o X.env)=eval o X.env
 few:((fV cpos (cD [e,f] X.env)).all (fun x=>!x.1) && (Jz cpos (Jw [] X.env)).all (fun x=>x.1.isSome)
  && decide (([e,f]:List Expr).length+([]:List yH).length+(if ([]:List yH).isEmpty then 0 else 1)<30))=true
 line:(apos.endLine == cpos.line)=true
 trees:fV cpos (cD [e,f] X.env)=[(false,eval e X.env),(false,eval f X.env)]
noncomputable def IsD(H:Hp)(a:Addr):Prop:=(∃kvs,Rd H a (.dK kvs))\/∃kvs,Rd H a (.dT kvs)
theorem Rq{σ:St}{H:Hp}{s:Shared}{a:Addr}(I:Inv X pins σ H s)(d:IsD H a):
  s.TypeIs (.ref a) "dict" /\ (∀b,Value.ref a=.ref b->∃ob,s⁻¹ b=some ob/\ob.dict=none)/\(a == rP)=false:=by
 rcases d with⟨kvs,e⟩|⟨kvs,e⟩
 ·obtain⟨_,hd,vs,_,dd⟩:=tZ I.hok e;show#[dd.typeIs,fun b q=>?_,hd];cases q;obtain⟨ob,_,_,h1,h2,_⟩:=dd;show#[ob,h1,h2.2.1]
 ·obtain⟨_,hd,xs,_,dd⟩:=Wy I.hok e;show#[dd.typeIs,fun b q=>?_,hd];cases q;obtain⟨ob,_,_,h1,h2,_⟩:=dd;show#[ob,h1,h2.2.1]
section
variable{X:Cx}{pins:List (Addr × Obj)}{σ:St}{H:Hp}{s:Shared}{a:Addr}{y d:V}{u r:Value}{o:Option V}{A:aY}{E:Value->Shared->Prop}
theorem atY{Q:Value->Shared->Prop}(hu:A.units+1<cLine)(I:Inv X pins σ H s)(g:ZM H a y o)(ry:RelV y u)(rd:RelV d r)(h:∀w' s',Inv X pins σ H s'->RelV (o.getD d) w'->Q w' s'):
  wpAny (model X.prog X.w) A (call (.builtin "dict.get") [.ref a,u,r]) Q E s:=by
 rcases g with⟨kvs,k,e,ey,l⟩|⟨kvs,k,b,e,ey,eb,l⟩
 ·subst ey;obtain⟨z,hd,vs,rel,dd⟩:=tZ I.hok e;refine aks aex dd.typeIs alJ (alG _ _ _) (meets_dict_get_default (cu X.prog X.w) a (abq ry) hd r) #[_,dd.mapOf,h _ _ (I.tok _) ?_];rw[l];exact(rel.val k).getD rd
 ·subst ey;cases (show u=Value.ref b from ry);obtain⟨z,hd,xs,rel,dd⟩:=Wy I.hok e;refine aks aex dd.typeIs alJ (alG _ _ _) (meetsH_dict_get_default (Jy (cu X.prog X.w)) a b hd r) #[X6 hu,k,xs,Ro I.hok eb,dd,h _ _ (I.tok _) ?_];rw[l];exact(rel.val k).getD rd
end
noncomputable def atZ(td ty tx:TE):TE:=fun σ H Q=>td σ H fun x H1=>∃a,x=.ref a/\IsD H1 a/\ty σ H1 fun y H2=>tx σ H2 fun z H3=>∃o,ZM H3 a y o/\Q (o.getD z) H3
section
variable{X:Cx}
theorem p8(hu:X.A.units+1<cLine)(ho:PE X o td)(he:PE X e ty)(hf:PE X f tx)(m:M2 X o "get" apos e f cpos):PE X (.Call (.Attribute o "get" apos) [e,f] [] cpos) (atZ td ty tx):=by
 intro pins s σ H Q I h;refine Qj m.base m.few m.line QK aex PySem.F.type_dict_get (thn (ho pins s σ H _ I h) fun u s1 zq=>?_);obtain ⟨x,H1,I1,rx,a,ex,d,q1⟩:=zq;subst ex;obtain rfl:u=Value.ref a:=rx;obtain ⟨t1,t2,_⟩:=Rq I1 d;show#[t1,t2,?_];rw [m.trees];refine aew rfl (alB (yV (thn (he pins s1 σ H1 _ I1 q1) fun iv s2 ⟨y,H2,I2,ry,q2⟩ =>
  yV (thn (hf pins s2 σ H2 _ I2 q2) fun fv s3 ⟨z,H3,I3,rz,ov,g,q3⟩=>Eb ?_))))
 exact atY hu I3 g ry rz fun w' s4 I4 rw'=>#[_,H3,I4,rw',q3]
end
section
variable{X:Cx}{pins:List (Addr × Obj)}{σ:St}{H:Hp}{s:Shared}{a:Addr}{kvs:List (Key × V)}{A:aY}{E:Value->Shared->Prop}
theorem amM{Q:Value->Shared->Prop}(I:Inv X pins σ H s)(e:Rd H a (.dK kvs))(h:∀p s',H p=none->Inv X pins σ (upd H p (.dK kvs)) s'->Q (.ref p) s'):wpAny (model X.prog X.w) A (call (.type "dict") [.ref a]) Q E s:=by
 obtain⟨z,hd,vs,rel,dd⟩:=tZ I.hok e;refine kt_call_dict hd dd (by rwa[<-rel.length]) fun h' dd' hs=>?_;refine h _ _ (I.hok.fresh (bC _)) (I.laid (a:= ~~~s) (o:=.dK kvs) (t':=s.toks) (fun b q hq=>?_) (bC _) (amK z (xj.mpr (aG (cF I.big))) rel dd'));exact(hs.2 b (cF (bQ hq))).trans (dH _ hq)
end
end L2
namespace Att
open PySem PySem.W PySem.Calls PyProof.Rows
theorem Nh{P:JC}:∀ns vs,WellAll P h vs (ns.map WData.int)->IntsAre vs ns:=by
 intro ns
 induction ns with
 |nil =>
  intro vs w;rw[Qd]at w;cases w;exact .nil
 |cons n ns ih =>
  intro vs w;rw[cX]at w;cases w with
  |cons a b =>
   cases a;exact .cons _ _ (ih _ b)
theorem ahX{l:OpenLaw}(hn:l.most=some n){P:JC}{h:Heap}{args:List WData}{vals:List Value}
  (hpre:l.row.toRowW.claim.pre args=true) (hwl:WellAll P h vals args):
  ∃a vs ns,vals=[Value.ref a]/\args=[WData.list (ns.map WData.int)]/\h.get? a=some { cls:=.type "list",data:=.seq vs.toArray }/\IntsAre vs ns/\ns.length<=n:=by
 have hsh:WShape.hasAll [] args [.list .int]=true:=(pre_splitW hpre).1;have hc:l.pre.holds [] { args:=args }=true:=(pre_splitW hpre).2;obtain⟨d,r,rfl,h1,h2⟩:=hasAllW_cons hsh;obtain rfl:=hasAllW_nil h2;obtain⟨xs,rfl,h3⟩:=hasW_list h1;obtain⟨ns,rfl⟩:=items_int h3;have hlen:ns.length<=n:=by
  unfold OpenLaw.pre at hc;have h4:(WTm.not (.lt (.lit (.int (n:Int))) (.len (.arg 0)))).holds [] { args:=[.list (ns.map .int)] }=true:=by
   have h4:=(holds_andW hc).1;rwa[hn]at h4
  have h5:=condW_of h4 (w_not (w_lt w_lit (w_len_list (w_arg rfl))));rw[aC]at h5;refine tM fun q=>?_;have q':(n:Int)<((ns.length:Nat):Int):=by lia
  first
   |(rw[mN q']at h5;exact mI h5 tb_g%)
   |(simp at h5;lia)
 cases hwl with
 |cons w1 w2 =>
  cases w2;cases w1 with
  |list ho hall=>show#[_,_,ns,rfl,rfl,ho,Nh ns _ hall,hlen]
theorem ahY(l:OpenLaw)(args:List WData):l.row.toRowW.claim.post args (.bool true) args=true:=
 postW_of (r:=l.row.toRowW) (X:=(true == true))
  (show WShape.has [] (.bool true) .bool=true by first|rfl|decide|simp[WShape.has,WShape.arms,WShape.armsAll])
  (show(WTm.eq .res (.lit (.bool true))).value [] { args:=args,res:=some (.bool true),after:=args }=some (.bool (true == true))from w_eq_bool (w_res rfl) w_lit) rfl
theorem abt{l:OpenLaw}{YP:World->Heap->Prop}{d:Yu}
  (hn:l.most=some n) (hdf:d.params.defaults=[])
  (call:∀w s₀ s₁ mg mb fa o pm cd doc a vs ns,
   Ground q loose [] XP w s₀ mg mb s₁.heap->YP w s₁.heap ->
   s₁⁻¹ fa=some o->o.data=.func (docDef d.name d.params d.body d.scope pm cd doc)->s₁.heap.CodeRec cd d.name->mg d.name=some (.ref fa) ->
   s₁⁻¹ a=some { cls:=.type "list",data:=.seq vs.toArray }->IntsAre vs ns->ns.length<=n->s₁.gens=#[] ->
   gO (model l.prog w) Dq (.call (.ref fa) #[[.ref a],[]]) (fun r s'=>r = .ok (.ret (.bool true))/\OldK s₁.heap s'.heap/\s'.os=s₁.os/\yP s'.gens) s₁) :
  WalkO q loose XP YP l.row.toRowW d [] (fun f vs=>Yl f vs):=by
 intro w s₀ s₁ mg mb G Y fa o pm cd doc dV kV ho hd hcd hD hmg hg args vals as hpre hlay hrd hwl hlo;obtain rfl:dV=.none:=Dflts.none hD hdf;obtain rfl:kV=.none:=Dflts.noKw hD;obtain⟨a,vs,ns,rfl,rfl,hobj,hints,hlen⟩:=ahX hn hpre hwl;refine enter_call (yD (call w s₀ s₁ mg mb fa o pm cd doc a vs ns G Y ho (fd_plain hd) hcd hmg hobj hints hlen hg) fun r s' hq=>?_);obtain⟨rfl,h2,h3,h4⟩:=hq;show#[.inl #[.bool true,.bool true,[],rfl,fun _=>rfl,.bool true,ahY l _,fun _=>#[List.Pairwise.nil,fun _ hm=>(nomatch hm)]],h2,h3,h4]
section
variable{K:Frag}
noncomputable def ledger(h:Heap)(L d:Addr):List (Addr × Obj):=(jG h.objs.size).filterMap fun a=>if a=L\/a=d then none else(h.get? a).map fun o=>(a,o)
end
end Att
namespace L2
open PySem PySem.Spec PyProof.Rows
theorem lH:∀{vs:List Value}{ns:List Int},IntsAre vs ns->Vals (ns.map V.int) vs
 |_,_,.nil=>.nil
 |_,_,.cons n t h=>.cons #[t,rfl] (lH h)
noncomputable def Only(H:Hp):Prop:=∀b,H b=none\/∃o xs,H b=some (.frz o (.lst xs))
theorem amN{P:aK}{K:aH}{s₁:Shared}{vs:List Value}
  (KX:K.In s₁.heap) (hns:s₁.heap.Ns eE mg) (hb:s₁.heap.Ns adK mb) (hbb:∀x:Str,x ≠ "__name__" -> mb x=Dd x) (hlim:s₁.heap.NoLimit) (hg:s₁.gens=#[])
  (ha:s₁⁻¹ a=some { cls:=.type "list",data:=.seq vs.toArray }) (hi:IntsAre vs ns) (hl:ns.length<=sizeLine) (hr:ig k Dq)
  (F:∀base:Heap,K.In base->base.Ns eE mg->tX P w K mg base CX k fa fd [x] sp) (hbind:∀s u,JB s fd #[[u],[]] [(x,u)])
  (hsp:∀H:Hp,Only H->SqL K H a (ns.map V.int)->sp [.ref a] H (fun v _=>v=.bl true) fun _ _ _=>False)
  (hCX:∀H e s',CX [] H s₁ (fun _ _ _=>False) e s'->False):
  gO (model P w) Dq (.call (.ref fa) #[[.ref a],[]]) (fun r s'=>r=.ok (.ret (.bool true))/\OldK s₁.heap s'.heap/\s'.os=s₁.os/\yP s'.gens) s₁:=by
 have rv:=lH hi;have lenV:=hi.length;have core:∀H:Hp,Only H->SqL K H a (ns.map V.int)->HOk P w H s₁.heap->(∀b,H b≠none->b=a)->(H a≠none->K.lookup a=none) ->
   gO (model P w) Dq (.call (.ref fa) #[[.ref a],[]]) (fun r s'=>r=.ok (.ret (.bool true))/\OldK s₁.heap s'.heap/\s'.os=s₁.os/\yP s'.gens) s₁:=by
  intro H hO hS hok hA hK;have agG:∀{b:Addr}{o:Obj},s₁⁻¹ b=some o->H b=none->(Zq s₁.heap H).get? b=some o:=fun e n=>ami e n;have noA:∀{b:Addr}{o:Obj}{es:Array adP}{ep:Nat},s₁⁻¹ b=some o->o.data=.dict es ep->H b=none:=fun {b o es ep} e d=>by
   cases q:H b with
   |none=>rfl
   |some u =>
    have e':b=a:=hA b (by rw[q];simp);subst e';rw[ha]at e;cases e;have d':Data.seq vs.toArray _=Data.dict es ep:=d;cases d'
  have nsK:∀ {b:Addr} {m:Str->Option Value},s₁.heap.Ns b m->(Zq s₁.heap H).Ns b m:=fun {b m} ⟨o,es,ep,e,d,r⟩=>#[o,es,ep,agG e (noA e d),d,r];have hKb:K.In (Zq s₁.heap H):=fun b o e=>agG (KX b o e) (by
   cases q:H b with
   |none=>rfl
   |some u =>
    have e':b=a:=hA b (by rw [q];simp);subst e';rw [hK (by rw [q];simp)] at e;cases e)
  have hM:Mod K mg (Zq s₁.heap H):=#[hKb,nsK hns,#[mb,nsK hb,hbb],let ⟨mc,h1,h2⟩:=hlim;#[mc,nsK h1,h2]];have e0:Vi P w K mg (Zq s₁.heap H) Dq [] s₁ H:=#[rfl,hM,fun b o e=>apw e,Dw (ahJ _ _),trivial,fun b hb=>mI (show b∈([]:List Addr)from hb) (by simp),hok,.of_eq hg];refine yD ((F _ hKb (nsK hns)).run Dq [] s₁ H #[[.ref a],[]] [.ref a] [.ref a] _ _ hr e0 (hbind s₁ (.ref a)) (.cons rfl .nil) (hsp H hO hS)) fun r s' h=>?_;cases r with
  |error e=>exact(hCX H e s' h).elim
  |ok fl =>
   cases fl with
   |next=>exact ju h
   |brk=>exact ju h
   |cont=>exact ju h
   |ret u =>
    obtain⟨v,H',os,bare,un,hok',r',q⟩:=h;have q':v=.bl true:=q;subst q';obtain rfl:u=Value.bool true:=r';show#[rfl,OldK.of_keep fun b o e=>?_,os,bare];cases q:H b with
    |none=>exact un.keep b o e q (by intro z;exact mI (show b∈([]:List Addr)from z) (by simp)) (by simp)
    |some u =>
     rcases hO b with z|⟨ob,xs,z⟩
     ·rw[q]at z;cases z
     ·have z2:=un.J9 b ob _ z;obtain⟨e1,_⟩:=hok b _ z;obtain⟨e2,_⟩:=hok' b _ z2;rw[e]at e1;cases e1;exact e2
 cases hk:K.lookup a with
 |some o =>
  have e:=KX a o hk;rw[ha]at e;cases e;refine core (fun _=>none) (fun _=>.inl rfl) (.inr #[_,vs.toArray,_,hk,rfl,rfl,rfl,by rwa[cN,lenV],by simpa using rv]) (fun b u z=>by have z':(none:Option HO)=some u:=z;cases z') (fun b z=>mI rfl z) fun z=>mI rfl z
 |none =>
  refine core (fun b=>if b=a then some (.frz { cls:=.type "list",data:=.seq vs.toArray } (.lst (ns.map V.int)))else none) (fun b=>?_) (.inl (.inr #[{ cls:=.type "list",data:=.seq vs.toArray },mB rfl])) (fun b u z=>?_) (fun b z=>?_) fun _=>hk
  ·by_cases hb:b=a
   ·exact .inr #[_,_,mB hb]
   ·exact .inl (mw hb)
  ·by_cases hb:b=a
   ·have z':=(mB hb).symm.trans z;cases z';subst hb;show#[ha,by rwa[aC],vs,_,rv,ha]
   ·have z':=(mw hb).symm.trans z;cases z'
  ·by_cases hb:b=a
   ·exact hb
   ·exact mI (mw hb) z
noncomputable abbrev KOf{K:aH}{h:Heap}(_:K.In h):aH:=K
theorem apM{l:PySem.W.OpenLaw}{YP:World->Heap->Prop}{d:Yu}{K:JC->aH}{CX:World->CXT}{sp:World->Sp}{x:Str}
  (hn:l.most=some n) (hn2:n<=sizeLine) (hdf:d.params.defaults=[]) (hr:ig k Dq)
  (hY:∀(w:World)(h:Heap),YP w h->(K w.params).In h)
  (F:∀ (w:World) (mg:Str->Option Value) (fa:Addr) (h:Heap),(K w.params).In h->h.Ns eE mg->mg d.name=some (.ref fa) ->
   ∃fd:FuncData,(∀(s:Shared)(u:Value),JB s fd #[[u],[]] [(x,u)]) /\
    ∀ base:Heap,(K w.params).In base->base.Ns eE mg->tX l.prog w (K w.params) mg base (CX w) k fa fd [x] (sp w))
  (hsp:∀(w:World)(H:Hp)(a:Addr)(ns:List Int),ns.length<=n->Only H->SqL (K w.params) H a (ns.map V.int)->sp w [.ref a] H (fun v _=>v=.bl true) fun _ _ _=>False)
  (hCX:∀(w:World)(H:Hp)(s:Shared)(e:Value)(s':Shared),CX w [] H s (fun _ _ _=>False) e s'->False):
  adx q loose XP YP l.row.toRowW d [] (fun f vs=>Yl f vs):=by
 refine Att.abt hn hdf fun w s₀ s₁ mg mb fa o pm cd doc a vs ns G Y ho hd hcd hmg hobj hints hlen hg=>?_;have KX:=hY w _ Y;obtain⟨fd,hb,hF⟩:=F w mg fa _ KX G.T.g hmg;exact amN KX G.T.g G.T.b G.T.builtins G.T.nolimit hg hobj hints (cH hlen hn2) hr hF hb (fun H hO hS=>hsp w H a ns hlen hO hS) fun H e s'=>hCX w H s₁ e s'
noncomputable abbrev CX0:CXT:=fun _ _ _ _ _ _=>False
noncomputable abbrev E0:XK:=fun _ _ _=>False
theorem Gu:Passes CX0 X E0:=fun _ _ _ _ _ _ _ h=>h.elim
structure Fun(K:aH)(x qual:Str)(st:Stmt)(f:Addr)(fd:FuncData):Prop where
 ex:∃(oc:Value)(od:Option Addr)(kV doc pm:Value)(an:Option Addr)(cdv ct:Value) (osl:Array (Option Value)),
  fd=kZ x qual (jN st) (jj st) (aq st) .none kV doc pm an cdv ct/\K.lookup f=some #[oc,od,.func fd,osl]/\Qf K cdv qual=true
 kp:rM K (.ref f)=true
section
variable{P:aK}{w:World}{K:aH}{mg:Str->Option Value}{base:Heap}
theorem Fun.ok{x qual:Str}{st:Stmt}{f:Addr}{fd:FuncData}{N ps:List Str}{k:Nat}{sp:Sp}(F:Fun K x qual st f fd)(S:aA N ps (aq st))(len:∀vs H Q E,sp vs H Q E->vs.length=ps.length)
  (hbody:∀cdv A outer s H vs Q E,ig k (A.deeper (uZ qual (aq st) (~~~s) f cdv))->sp vs H Q E ->
   ∃ t,PSs (ahT CX0 P w K mg base N qual (aq st) f cdv A outer s H E).nox (jj st) t/\t { nx:=fun _ H'=>Q .non H',rt:=Q } (start N vs) H):tX P w K mg base CX0 (k+1) f fd ps sp:=by
 obtain⟨oc,od,kV,doc,pm,an,cdv,ct,osl,rfl,lk,hcd⟩:=F.ex;refine fn_of lk hcd S len fun A outer s H vs Q E hr hsp=>?_;obtain⟨t,h,q⟩:=hbody cdv A outer s H vs Q E hr hsp;show#[t,h.nox,q]
theorem Fun.binds{x qual:Str}{st:Stmt}{f:Addr}{fd:FuncData}{ps:List Str}(F:Fun K x qual st f fd)
  (h:∀kV doc pm an cdv ct us,us.length=ps.length->Dg (kZ x qual (jN st) (jj st) (aq st) .none kV doc pm an cdv ct) #[us,[]]=pure (ps.zip us)):Binds K fd ps []:=by
 obtain⟨oc,od,kV,doc,pm,an,cdv,ct,osl,rfl,lk,hcd⟩:=F.ex;exact .all (h kV doc pm an cdv ct)
theorem at3{x qual:Str}{st:Stmt}{f:Addr}{oc:Value}{od an:Option Addr}{osl:Array (Option Value)}{kV doc pm cdv ct:Value}(l:K.lookup f=some #[oc,od,.func (kZ x qual (jN st) (jj st) (aq st) .none kV doc pm an cdv ct),osl])
  (c:Qf K cdv qual=true) (k:rM K (.ref f)=true):Fun K x qual st f (kZ x qual (jN st) (jj st) (aq st) .none kV doc pm an cdv ct):=#[#[oc,od,kV,doc,pm,an,cdv,ct,osl,rfl,l,c],k]
end
theorem wQ(hr:ig k A):A.units+1<cLine:=BK (JF (by decide:1<=64) _) hr.units
theorem aM(h:n<=1000):n<sizeLine:=BK h tb_g%
section
variable{X:Cx}
theorem pv(i:Nat){x:Str}{pos:Pos}(hN:X.N[i]? = some x:=by rfl)(hv:Vis X.env.scope x:=by first|exact Or.inl rfl|exact Or.inr (Or.inl rfl)|exact Or.inr (Or.inr rfl))(hd:(x == ("__debug__" : Str))=false:=by decide)
  (hcd:(x == ("__classdict__" : Str))=false:=by decide):PE X (.Name x pos) (tVar i):=atv hN hv hd hcd
end
theorem fW{A B:Prop}(h:B):if false=true then A else B:=by
 rwa[mw iR]
theorem Rr{A B:Prop}(h:A):if true=true then A else B:=by
 rwa[mB rfl]
theorem cW{c A B:Prop}[Decidable c](h1:c->A)(h2:¬ c->B):if c then A else B:=by
 by_cases h:c
 ·rw[mB h];exact h1 h
 ·rw[mw h];exact h2 h
theorem BW{c A B:Prop}[Decidable c](hc:c)(h:B):if(!decide c)=true then A else B:=by
 rw[mN hc];exact fW h
noncomputable def Same(H H':Hp):Prop:=∀b o,H b=some o->H' b=some o
theorem Same.refl(H:Hp):Same H H:=fun _ _ h=>h
theorem Same.trans(a:Same H H1)(b:Same H1 H2):Same H H2:=fun c o h=>b c o (a c o h)
theorem Same.free(e:Same H H'){l:Addr}(h:H' l=Option.none):H l=Option.none:=by
 cases q:H l with
 |none=>rfl
 |some o =>
  rw[e l o q]at h;cases h
theorem Same.seq{K:aH}(e:Same H H')(h:SqL K H a xs):SqL K H' a xs:=by
 rcases h with(h|⟨o,h⟩)|h
 ·exact .inl (.inl (e _ _ h))
 ·exact .inl (.inr #[o,e _ _ h])
 ·exact .inr h
section
variable{κ:Type}[DecidableEq κ]
end
section
variable{X:Cx}
noncomputable def abu(K:aH):List V->Hp->VK->Prop:=fun xs H Q=>(∃x n,xs=[x]/\LenV K x H n/\Q (.int n) H)\/∃a kvs,xs=[V.ref a]/\Rd H a (.dK kvs)/\Q (.int kvs.length) H
theorem ae5:gU X (.builtin "len") (fun xs H Q=>∃a kvs,xs=[V.ref a]/\Rd H a (.dK kvs)/\Q (.int kvs.length) H):=by
 intro pins s σ H xs us Q I r h;obtain⟨a,kvs,rfl,ha,q⟩:=h;obtain⟨u,rfl,ru⟩:=vals1 r;cases ru;exact d_len I ha fun t s' I'=>#[.int kvs.length,H,I',#[t,rfl],q]
theorem ahZ:gU X (.builtin "len") (abu X.K):=amw.or ae5
noncomputable def zA(K:aH):R2:=fun x y H Q=>rIxL K x y H Q\/rIxT K x y H Q\/∃a v,x=.ref a/\ZM H a y (some v)/\Q v H
theorem apO(hu:X.A.units+1<cLine):IxR X (fun x y H Q=>∃a v,x=.ref a/\ZM H a y (some v)/\Q v H):=by
 intro value slice pins s σ H x y v u Q I rx ry h hs;obtain⟨a,z,rfl,g,q⟩:=h;obtain rfl:v=Value.ref a:=rx;have hT:=abr I g;unfold YJ;refine aB ?_;rw[getitemInPython_of_ne hT.not_modules];refine aB (Yc hT PySem.F.slot_dict_getitem.lookup ?_);have fin:wpAny (model X.prog X.w) X.A (adH slice false (.ref a) u) (fun r s₃=>wpAny (model X.prog X.w) X.A (letTemporaryGo value (.ref a) r >>= fun _=>pure r) (EP X pins σ Q) X.xe s₃) X.xe s:=by
  rw[hs];exact wpAny_operating (ahV hu I g ry fun w' s3 I3 rw'=>aB (wpAny_letTemporaryGo (aN #[z,H,I3,rw',q])))
 first
  |exact aN (aB fin)
  |exact aB (aN (aB fin))
  |exact aB fin
theorem ixG(hu:X.A.units+1<cLine):IxR X (zA X.K):=apJ.or (atQ.or (apO hu))
noncomputable def arz:V->V->V->Hp->(Hp->Prop)->Prop:=fun o i v H Q=>aru o i v H Q\/∃a H',o=.ref a/\DPut H a i v H'/\Q H'
theorem setG(hu:X.A.units+1<cLine):PSet X arz:=by
 intro pins s σ H o i v ov iv u Q I ro ri rv h;rcases h with h|⟨a,H',rfl,g,q⟩
 ·exact set_list pins s σ H o i v ov iv u Q I ro ri rv h
 ·obtain rfl:ov=Value.ref a:=ro;exact ahW hu I g ri rv fun s' I'=>#[H',I',q]
noncomputable def rInG(K:aH)(neg:Bool):R2:=fun x y H Q=>rIn K neg x y H Q\/∃a o,y=.ref a/\ZM H a x o/\Q (.bl (if neg then !o.isSome else o.isSome)) H
theorem ZP(hu:X.A.units+1<cLine):OpR X (gq .NotIn) (rInG X.K true):=by
 intro pins s σ H x y v u Q I rx ry h;rcases h with h|⟨a,o,rfl,g,q⟩
 ·exact ZJ pins s σ H x y v u Q I rx ry h
 ·obtain rfl:u=Value.ref a:=ry;exact apL hu I g rx fun s' I'=>#[.bl (!o.isSome),H,I',rfl,q]
noncomputable def at4:List V->Hp->VK->Prop:=fun xs H Q=>∃a kvs,xs=[V.ref a]/\Rd H a (.dK kvs)/\∀p,H p=none->Q (.ref p) (upd H p (.dK kvs))
theorem Rt:gU X (.type "dict") at4:=by
 intro pins s σ H xs us Q I r h;obtain⟨a,kvs,rfl,ha,q⟩:=h;obtain⟨u,rfl,ru⟩:=vals1 r;cases ru;exact amM I ha fun p s' hp I'=>#[.ref p,_,I',rfl,q p hp]
theorem agH{P:aK}(h:(cu P w).is k u=true):RelV (kV k) u:=by
 rcases eG (show Q9 k u=true from h)with⟨i,t,rfl,rfl⟩|⟨x,t,rfl,rfl⟩
 ·show#[t,rfl]
 ·show#[t,rfl]
theorem Aq{P:aK}:∀{kvs:List (Key × V)} {vs:List (Key × Value)} {us:List Value},KV kvs vs->us.length=vs.length ->
  (∀(j:Nat)(u:Value),us[j]? = some u->∃k x,vs[j]? = some (k,x)/\(cu P w).is k u=true)->Vals (kvs.map fun p=>kV p.1) us
 |[],_,[],.nil,_,_=>.nil
 |[],_,_::_,.nil,hl,_=>by cases hl
 |_::_,_,[],.cons _ _,hl,_=>by cases hl
 |p::ps,_,u::us,.cons (b:=q) r t,hl,h=>by
  obtain⟨k,x,e,hk⟩:=h 0 u rfl;have e':q=(k,x):=by simpa using e
  have e2:p.1=k:=by rw[r.1,e']
  refine .cons (by show RelV (kV p.1) u;rw[e2];exact agH hk) (Aq (P:=P) (w:=w) t (by simpa using hl) fun j v hv=>?_);obtain⟨k',x',e'',hk'⟩:=h (j+1) v (by simpa using hv);show#[k',x',by simpa using e'',hk']
theorem Wz:∀{kvs:List (Key × V)} {vs:List (Key × Value)} {us:List Value},KV kvs vs->us.length=vs.length ->
  (∀(j:Nat)(u:Value),us[j]? = some u->∃k,vs[j]? = some (k,u))->Vals (kvs.map (·.2)) us
 |[],_,[],.nil,_,_=>.nil
 |[],_,_::_,.nil,hl,_=>by cases hl
 |_::_,_,[],.cons _ _,hl,_=>by cases hl
 |p::ps,_,u::us,.cons (b:=q) r t,hl,h=>by
  obtain⟨k,e⟩:=h 0 u rfl;have e':q=(k,u):=by simpa using e
  refine .cons (by have:=r.2;rwa[e']at this) (Wz t (by simpa using hl) fun j v hv=>?_);obtain⟨k',e''⟩:=h (j+1) v (by simpa using hv);show#[k',by simpa using e'']
noncomputable def amO:List V->Hp->VK->Prop:=fun xs H Q=>∃a kvs,xs=[V.ref a]/\Rd H a (.dK kvs)/\∀p,H p=none->Q (.ref p) (upd H p (.lst (kvs.map fun p=>kV p.1)))
theorem ae6(hc:X.calm=true):gU X (.type "list") amO:=by
 intro pins s σ H xs us Q I r h;obtain⟨a,kvs,rfl,ha,q⟩:=h;obtain⟨u,rfl,ru⟩:=vals1 r;cases ru;obtain⟨z,hd,vs,rel,dd⟩:=tZ I.hok ha;obtain⟨ep,hat⟩:=dd.dictAt;have hl:=rel.length;refine PySem.W.kdl_call (ajW (knd:=cu X.prog X.w) (kvs:=vs) (ep:=ep) hd) (I.ok.hd hc) hat (by rwa[<-hl]) fun h' tk acc' c' hk hD hacc=>?_;have hv:Vals (kvs.map fun p=>kV p.1) acc'.toList:=Aq rel (by rw[iQ];exact hacc.1) fun j v e=>hacc.2 j v (by rwa[<-gR]);show#[.ref (~~~s),_,I.laid (a:= ~~~s) (o:=.lst (kvs.map fun p=>kV p.1)) (t':=tk) hk (bC _) ?_,rfl,q _ (I.hok.fresh (bC _))];show#[by rwa[aC],acc'.toList,c',hv,by first|(rwa[alj])|simpa using hD]
noncomputable def at5(K:aH):List V->Hp->VK->Prop:=fun xs H Q=>(∃p ys,xs=[.ref p]/\(SqL K H p ys\/SqT K H p ys)/\∀l,H l=none->Q (.ref l) (upd H l (.lst ys)))\/amO xs H Q
theorem Rv(hc:X.calm=true):gU X (.type "list") (at5 X.K):=ZL.or (ae6 hc)
noncomputable def rIsi(K:aH):List V->Hp->VK->Prop:=fun xs H Q=>∃x c t cv b,xs=[x,c]/\RelV c cv/\(∀u,RelV c u->u=cv)/\Ke K H x t/\oU K t cv=some b/\Q (.bl b) H
theorem call_isinstance:gU X (.builtin "isinstance") (rIsi X.K):=by
 intro pins s σ H xs us Q I r h;obtain⟨x,c,t,cv,b,rfl,rc,inj,ty,e,q⟩:=h;obtain⟨u,w',rfl,ru,rw'⟩:=vals2 r;obtain rfl:=inj w' rw';exact ahR I ru ty e fun tk=>#[.bl b,H,I.tok tk,rfl,q]
end
section
variable{P:aK}{H H':Hp}{h h':Heap}{a:Addr}{o:HO}
theorem cT.ex(x:cT P w H h a o):∃u,h.get? a=some u:=by
 cases o with
 |lst xs=>obtain⟨_,_,_,_,e⟩:=x;show#[_,e]
 |tup xs=>obtain⟨_,_,_,ob,e,_⟩:=x;show#[ob,e]
 |dK kvs=>obtain⟨_,_,_,_,o,_,_,e,_⟩:=x;show#[o,e]
 |dT kvs=>obtain⟨_,_,_,_,o,_,_,e,_⟩:=x;show#[o,e]
 |set S n=>obtain⟨o,_,_,_,e,_⟩:=x;show#[o,e]
 |ins C dx fs=>obtain⟨_,_,_,e,_⟩:=x;show#[_,e]
 |own y=>exact x
 |xd fs=>obtain⟨_,⟨o,_,_,e,_⟩,_⟩:=x;show#[o,e]
 |rng lo hi=>obtain⟨_,_,_,e⟩:=x;show#[_,e]
 |frz ob u=>obtain⟨e,_⟩:=x;show#[_,e]
 |tbl ps=>show#[_,show h.get? a=some _ from x]
 |met f y=>show#[_,show h.get? a=some _ from x]
 |ext φ=>obtain⟨_,⟨o,e⟩,_⟩:=x;show#[o,e]
theorem HOk.Ms(x:HOk P w H h)(k:∀b u,h.get? b=some u->h'.get? b=some u)(hn:H a=none)(new:cT P w (upd H a o) h' a o):HOk P w (upd H a o) h':=fun b u e=>by
 by_cases hb:b=a
 ·subst hb;rw[aj]at e;cases e;exact new
 ·rw[ao hb]at e;exact(x b u e).stay (fun c v _ q=>k c v q) (fun c q=>by rwa[ao (ak q hn)]) fun c xs q=>by rwa[ao (ak q hn)]
theorem Un.Ms{fs ex:List Addr}(k:∀b u,h.get? b=some u->h'.get? b=some u)(hne:∀b u,h.get? b=some u->b≠a)(hn:H a=none):Un fs ex H (upd H a o) h h' where
 keep:=fun b u q _ _ _=>k b u q
 slot:=fun b u q _ _ _=>#[u.slots,k b u q]
 free:=fun b u q n _=>by rwa[ao (hne b u q)]
 there:=fun b u q _=>#[u,k b u q]
 tups:=fun b xs q=>by rwa[ao (ak q hn)]
 J9:=fun b u xs q=>by rwa[ao (ak q hn)]
 Ra:=fun b ps q=>#[#[],by rw[ao (ak q hn),q];simp]
end
section
variable{X:Cx}{pins:List (Addr × Obj)}{σ:St}{H H':Hp}{s:Shared}{h':Heap}
theorem Inv.none_of(I:Inv X pins σ H s){a:Addr}(hne:∀b u,s⁻¹ b=some u->b≠a):H a=none:=by
 cases q:H a with
 |none=>rfl
 |some u =>
  obtain⟨v,e⟩:=(I.hok a u q).ex;exact mI rfl (hne a v e)
theorem Inv.Ms{a:Addr}{o:HO}{t':Nat}(I:Inv X pins σ H s)(k:∀b u,s⁻¹ b=some u->h'.get? b=some u)(hne:∀b u,s⁻¹ b=some u->b≠a)(new:cT X.prog X.w (upd H a o) h' a o):
  Inv X pins σ (upd H a o) { s with heap:=h',toks:=t' }:=I.un (Un.Ms k hne (I.none_of hne)) (I.hok.Ms k (I.none_of hne) new)
theorem Inv.amP{t':Nat}{it t:Addr}{o:HO}(I:Inv X pins σ H s)(k:∀b u,b≠it->s⁻¹ b=some u->h'.get? b=some u)(hie:∃u,h'.get? it=some u)(hn:H it=none)(hL:it≠X.env.locals)
  (h1:it∈X.ex\/X.s₀.heap.objs.size<=it) (h2:∀x c,X.env.cells.lookup x=some c->c≠it) (h3:∀p∈X.pn++pins,p.1≠it) (ht: ~~~s<=t)
  (new:cT X.prog X.w (upd H t o) h' t o):Inv X pins σ (upd H t o) { s with heap:=h',toks:=t' }:=by
 have nit:∀b u,H b=some u->b≠it:=fun b u e z=>by rw[z,hn]at e;cases e
 have ntt:H t=none:=I.hok.fresh ht;have lt:∀b u,s⁻¹ b=some u->b≠t:=fun b u e=>cF (cY (bQ e) ht);refine I.step (g':=s.gens) (d':=s.drawn) (ch:=[it]) (fun b hb=>?_) (fun b o _ _ hc e _=>k b o (fun z=>hc (by simp[z])) e) (fun b o _ _ hc e _=>#[o.slots,k b o (fun z=>hc (by simp[z])) e]) (fun b u _ e n=>by rwa[ao (lt b u e)])
  (fun b o hc e=>#[o,k b o (fun z=>hc (by simp[z])) e]) (fun b xs e=>by rwa[ao (ak e ntt)]) (fun b q u e=>by rwa[ao (ak e ntt)]) (fun b ps e=>#[#[],by rw[ao (ak e ntt),e];simp]) (fun m hm=>?_) (fun b u e=>?_) I.bare
 ·have e:b=it:=by simpa using hb
  subst e;show#[h1,hL,h2,h3]
 ·obtain⟨o,es,ep,ho,r⟩:=hm;show#[o,es,ep,k _ o (aG hL) ho,r]
 ·by_cases hb:b=t
  ·subst hb;rw[aj]at e;cases e;exact new
  ·rw[ao hb]at e;refine(I.hok b u e).stay (fun c v hc q=>k c v ?_ q) (fun c q=>by rwa[ao (ak q ntt)]) fun c xs q=>by rwa[ao (ak q ntt)]
   rcases hc with z|z
   ·rw[z];exact nit b u e
   ·exact nit c _ z
theorem Inv.freeze{a:Addr}{kvs:List (Key × V)}(I:Inv X pins σ H s)(e:H a=some (.dK kvs)):∃o es ep,o.data=.dict es ep/\s⁻¹ a=some o/\Inv X pins σ (upd H a (.frz o (.dK kvs))) s:=by
 obtain⟨z,hd,vs,rel,o,es,ep,ho,hx⟩:=arx I.hok e;show#[o,es,ep,hx.2.1,ho,?_];have I':Inv X pins σ (upd H a (.frz o (.dK kvs))) { s with heap:=s.heap,toks:=s.toks }:=I.write (x:=a) (e:=a) (by rw[e];exact trivial) (.inl rfl) (fun _ _ _ q=>q) #[o,ho] #[ho,z,hd,vs,rel,o,es,ep,ho,hx];exact I'
theorem Inv.thaw{a:Addr}{o:Obj}{kvs:List (Key × V)}(I:Inv X pins σ H s)(e:H a=some (.frz o (.dK kvs)))(th:∀q u,X.H₀ a≠some (.frz q u)):Inv X pins σ (upd H a (.dK kvs)) s:=by
 have ne:∀b,H b=none->b≠a:=fun b n z=>by rw[z,e]at n;cases n
 have nt:∀b xs,H b=some (.tup xs)->b≠a:=fun b xs n z=>by rw[z,e]at n;cases n
 have no:∀b y,H b=some (.own y)->b≠a:=fun b y n z=>by rw[z,e]at n;cases n
 show#[I.ok,I.os,I.bare,#[I.base.keep,I.base.slot,fun b ob q n hx=>?_,I.base.there,fun b xs q=>?_,fun b ob u q=>?_,fun b ps q=>?_],I.loc,I.cell,?_,fun x c q=>?_,fun p hp=>?_,fun b u q=>?_,I.len]
 ·have n':=I.base.free b ob q n hx;rwa[ao (ne b n')]
 ·have q':=I.base.tups b xs q;rwa[ao (nt b xs q')]
 ·have q':=I.base.J9 b ob u q;rwa[ao (fun(z:b=a)=>th ob u (z ▸ q))]
 ·obtain⟨m,q'⟩:=I.base.Ra b ps q;show#[m,by rwa[ao (fun z=>by rw[z,e]at q';cases q')]]
 ·rw[ao (ne _ I.free)];exact I.free
 ·have n:=I.wO x c q;rwa[ao (ne _ n)]
 ·obtain⟨h1,n,r⟩:=I.pin p hp;show#[h1,by rwa[ao (ne _ n)],r]
 ·by_cases hb:b=a
  ·subst hb;rw[aj]at q;cases q;obtain⟨_,r⟩:=(show cT X.prog X.w H s.heap b (.frz o (.dK kvs))from I.hok b _ e);exact r
  ·rw[ao hb]at q;exact(I.hok b u q).stay (fun _ _ _ r=>r) (fun c r=>by rwa[ao (no c b r)]) fun c xs r=>by rwa[ao (nt c xs r)]
end
noncomputable def Iti(a:Addr)(o:Obj)(kvs:List (Key × V)):It:=
 #[fun i H=>H a=some (.frz o (.dK kvs))/\i<kvs.length,fun i H x H'=>∃p t,kvs[i]? = some p/\H t=none/\x=.ref t/\H'=upd H t (.tup [kV p.1,p.2]),fun i H=>H a=some (.frz o (.dK kvs))/\kvs.length<=i]
theorem ae7{P:aK}{es:Array adP}{ep:Nat}(hok:HOk P w H h)(e:H a=some (.frz o (.dK kvs)))(hd:o.data=.dict es ep):
  ∃vs,KV kvs vs/\h.DictAt (cu P w) a vs ep:=by
 obtain⟨ho,_,_,vs,rel,o',es',ep',ho',h2,h3,r⟩:=(show cT P w H h a (.frz o (.dK kvs))from hok a _ e);rw[ho]at ho';cases ho';rw[hd]at h3;cases h3;show#[vs,rel,o,_,ho,h2,hd,r]
theorem KV.at{vs:List (Key × Value)}(r:KV kvs vs):∀{i:Nat}{p:Key × V},kvs[i]? = some p->∃v,vs[i]? = some (p.1,v)/\RelV p.2 v:=by
 unfold KV at r
 induction r with
 |nil=>intro i p e;simp at e
 | @cons a b as bs h t ih =>
  intro i p e;cases i with
  |zero =>
   have e':a=p:=by simpa using e
   subst e';show#[b.2,by rw[h.1];rfl,h.2]
  |succ j =>
   obtain⟨v,h1,h2⟩:=ih (i:=j) (p:=p) (by simpa using e);show#[v,by simpa using h1,h2]
theorem Bq:Dj table "dict_itemiterator.__iter__" = some dO.«dict_keyiterator.__iter__» :=
 adB (id' := "dict_keyiterator.__iter__") (by kernel_rfl) rfl tb_g% (by kernel_rfl)
theorem xW{s:Shared}(hit:IsItemIter s.heap it d i n ep ok ov)(h:Q (.ref it) s):
  wpAny (model prog w) A (Dr (.ref it)) Q E s:=by
 have hT:s.TypeIs (.ref it) "dict_itemiterator" := #[_,hit,rfl];refine adA hT F.slot_dict_itemiterator_iter (rN F.slot_dict_itemiterator_iter hT Bq ?_ (F.args_dict_itemiterator_iter_1 _));show wpAny _ _ (ret (.ref it)) _ _ s;exact aN #[_,rfl,"dict_itemiterator",_,hT,F.slot_dict_itemiterator_next.lookup,h]
theorem ae8{P:aK}{w:World}{K:aH}{elts:List Expr}{x1}{tpos:Pos}(a it:Addr)(o:Obj)(kvs:List (Key × V)){es:Array adP}{ep:Nat}(hd:o.data=.dict es ep):
  Turn P w K (.Tuple elts x1 tpos) (Iti a o kvs) [it] it (fun i h=>∃ok ov,IsItemIter h it a i kvs.length ep ok ov) where
 mem:=by simp
 obj:=fun i h st b hb=>by
  have e:b=it:=by simpa using hb
  subst e;obtain⟨ok,ov,e⟩:=st;show#[_,e,fun v z=>by cases z]
 keep:=fun i h h' st k=>by
  obtain⟨ok,ov,e⟩:=st;show#[ok,ov,k it (by simp) _ e]
 item:=by
  intro X hP hw hK hc i pins s σ H E I hf st hg;subst hP hw hK;obtain⟨e,hi⟩:=hg;obtain⟨vs,rel,dm⟩:=ae7 I.hok e hd;have hl:=rel.length;obtain⟨p,hp⟩:∃p,kvs[i]? = some p:=#[kvs[i],by simp[hi]];obtain⟨v,hv,rv⟩:=rel.at hp;obtain⟨f0,f1,f2,f3,f4,f5⟩:=hf it (by simp);obtain⟨ok,ov,st⟩:=st;refine wpAny_pyNext_items_item (knd:=cu X.prog X.w) (by rwa[<-hl]) dm hv fun key h' hkey heo ht hz hk=>?_;have hit:it< ~~~s:=bQ st;have nt:H (~~~s)=none:=I.hok.fresh (bC _);have I1:Inv X pins σ (upd H (~~~s) (.tup [kV p.1,p.2])) { s with heap:=h' }:=I.amP (t':=s.toks) hk #[_,heo] f0 f1 f3 f4 f5 (bC _)
   #[tb_g%,[key,v],.cons (agH hkey) (.cons rv .nil),#[_,ht,rfl,_,rfl]]
  have n1:(upd H (~~~s) (.tup [kV p.1,p.2])) it=none:=by rwa[ao (cF hit)]
  show#[.ref (~~~s),rfl,wpAny_letOwnedTupleGo_items heo fun h2 he2 hs2=>?_];show#[.ref (~~~s),_,I1.turned (t':=s.toks) (fun b ob hb q=>(hs2.2 b hb).trans q) n1 f1 f3 f4 f5,rfl,#[p,_,hp,nt,rfl,rfl],#[key,v,by rwa[<-hl]at he2],fun b hb=>?_];have eb:b=it:=by simpa using hb
  subst eb;exact n1
 done:=by
  intro X hP hw hK hc i pins s σ H E I hf st hg;subst hP hw hK;obtain⟨e,hi⟩:=hg;obtain⟨vs,rel,dm⟩:=ae7 I.hok e hd;have hl:=rel.length;obtain⟨f0,f1,f2,f3,f4,f5⟩:=hf it (by simp);obtain⟨ok,ov,st⟩:=st;exact wpAny_pyNext_items_end (knd:=cu X.prog X.w) (I.ok.hd hc) (by rwa[<-hl]) dm (by rw[ac2];lia) fun h' eb=>#[rfl,I.turned (t':=s.toks) (fun b o hb e=>eb b o hb e) f0 f1 f3 f4 f5]
 self:=fun A i s Q E st h=>by
  obtain⟨ok,ov,e⟩:=st;exact xW e h
section
variable{X:Cx}
noncomputable abbrev Warm(X:Cx)(a:Addr):Prop:=∀q u,X.H₀ a≠some (.frz q u)
theorem Inv.warm{σ:St}{H:Hp}{s:Shared}{a:Addr}{kvs:List (Key × V)}(I:Inv X pins σ H s)(e:H a=some (.dK kvs)):Warm X a:=fun q u z=>by
 have:=I.base.J9 a q u z;rw[e]at this;cases this
noncomputable def amQ(X:Cx)(td:TE):TI:=fun σ H R=>td σ H fun x H1=>∃a kvs,x=.ref a/\H1 a=some (.dK kvs)/\∀o,Warm X a->R (Iti a o kvs) (upd H1 a (.frz o (.dK kvs)))
structure MI(X:Cx)(o:Expr)(m:Str)(apos cpos:Pos):Prop where
 base:yC o m X.env (eval o X.env)=eval o X.env
 line:(apos.endLine == cpos.line)=true
theorem amR{x1}(hl:PE X l td)(m:MI X l "items" apos cpos):PI X (.Tuple elts x1 tpos) (.Call (.Attribute l "items" apos) [] [] cpos) (amQ X td):=by
 intro pins s σ H R I h;refine Qj (T := "dict") (id := "dict.items") m.base rfl m.line QK alH PySem.F.type_dict_items (thn (hl pins s σ H _ I h) fun v s1 zq=>?_);obtain ⟨x,H1,I1,r1,q1⟩:=zq;obtain ⟨a,kvs,rfl,e,q⟩:=q1;obtain rfl:v=Value.ref a:=r1;obtain ⟨t1,t2,hS⟩:=Rq I1 (.inl #[kvs,.inl e]);show#[t1,t2,?_];obtain ⟨o,es,ep,hd,ho,If⟩:=I1.freeze e;obtain ⟨vs,rel,dm⟩:=ae7 If.hok aj hd;have hl':=rel.length;refine Ye alH PySem.F.entry_dict_items rfl (Qh #[rfl,t1,PySem.F.args_dict_items_1 _,_,meets_dict_items (cu X.prog X.w) a hS,#[vs,dm.dictOf],?_]);refine wpAny_pyIter_items (knd:=cu X.prog X.w) (d:=a) #[_,dW _ rfl,rfl,rfl] (dm.push _) ?_;have I2:=If.kept (h':=s1.heap.push { cls:=.type "dict_items",data:=.fields [.ref a].toArray }) (t':=s1.toks) fun b ob e=>dH _ e;show#[(s1.heap.push { cls:=.type "dict_items",data:=.fields [.ref a].toArray }).objs.size,[(s1.heap.push { cls:=.type "dict_items",data:=.fields [.ref a].toArray }).objs.size],_,_,_,rfl,I2.kept (t':=s1.toks) fun b ob e=>dH _ e,ae8 a _ o kvs hd,
  #[.none,.none,by rw [hl'];exact dW _ rfl],fun b hb=>?_,q o (I1.warm e)]
 have eb:b=(s1.heap.push { cls:=.type "dict_items",data:=.fields [.ref a].toArray }).objs.size:=by simpa using hb
 subst eb;exact I2.ahM (bC _) (I2.hok.fresh (bC _))
noncomputable def amS(X:Cx)(D:Ends):Ends where
 nx:=fun σ H=>∃a kvs o,Warm X a/\H a=some (.frz o (.dK kvs))/\D.nx σ (upd H a (.dK kvs))
 rt:=fun v H=>∃a kvs o,Warm X a/\H a=some (.frz o (.dK kvs))/\D.rt v (upd H a (.dK kvs))
theorem apP{D:Ends}{f:Flow}{s':Shared}(h:SP X pins (amS X D) f s'):SP X pins D f s':=by
 cases f with
 |next =>
  obtain⟨σ',H',I,a,kvs,o,w,e,q⟩:=h;show#[σ',_,I.thaw e w,q]
 |brk =>
  obtain⟨σ',H',I,q⟩:=h;exact q.elim
 |cont =>
  obtain⟨σ',H',I,q⟩:=h;exact q.elim
 |ret u =>
  obtain⟨v,σ',H',I,r,a,kvs,o,w,e,q⟩:=h;show#[v,σ',_,I.thaw e w,r,q]
noncomputable def tForI(X:Cx)(td:TE)(g:TG)(tb:TS):TS:=fun D σ H=>tFor (amQ X td) g tb (amS X D) σ H
theorem agI{x1}(hp:adN (model X.prog X.w) X.A X.env X.xe)(hc:X.calm=true)(hl:PE X l td)(m:MI X l "items" apos cpos)
  (hg:PG X (.Tuple elts x1 tpos) g) (hb:PSs X body tb)
  (hs:∀x,yx (.Call (.Attribute l "items" apos) [] [] cpos) X.env x=pure x:=by intro _;rfl):PS X (.For (.Tuple elts x1 tpos) (.Call (.Attribute l "items" apos) [] [] cpos) body [] pos) (tForI X td g tb):=
 fun pins s σ H D I h=>thn (aeV hp hc (amR hl m) hg hb hs pins s σ H (amS X D) I h) fun _ _ q=>apP q
theorem WD{g:TG}{tb:TS}{D:Ends}{σ:St}{H:Hp}(Pv:Nat->St->Hp->Prop)(h0:Pv 0 σ H)(hl:∀i σ H,Pv i σ H->H a=some (.frz o (.dK kvs)))
  (hs:∀i p t σ H,kvs[i]? = some p->Pv i σ H->H t=none->g (.ref t) σ (upd H t (.tup [kV p.1,p.2])) fun σ2 H2=>tb { D with nx:=Pv (i+1),ct:=Pv (i+1),bk:=D.nx } σ2 H2) (hd:∀σ H,Pv kvs.length σ H->D.nx σ H):
  ∃W:Nat->Nat->St->Hp->Prop,(∃m,W 0 m σ H)/\∀i m σ H,W i m σ H ->
   ((Iti a o kvs).stop i H/\D.nx σ H)\/((Iti a o kvs).go i H/\∃N:St->Hp->Prop,(∀σ' H',N σ' H'->∃m',m'<m/\W (i+1) m' σ' H')/\∀x H',(Iti a o kvs).yld i H x H'->g x σ H' fun σ2 H2=>tb { D with nx:=N,ct:=N,bk:=D.nx } σ2 H2):=by
 show#[fun i m σ H=>m=kvs.length-i/\i<=kvs.length/\Pv i σ H,#[kvs.length,by simp,bF _,h0],?_];rintro i m σ H ⟨rfl,hi,p⟩;have q:=hl i σ H p;by_cases hlt:i<kvs.length
 ·refine .inr #[#[q,hlt],Pv (i+1),fun σ' H' p'=>#[kvs.length-(i+1),by lia,rfl,hlt,p'],fun x H' y=>?_];obtain⟨pr,t,hp,ht,ex,e⟩:=y;subst e ex;exact hs i pr t σ H hp p ht
 ·have e:i=kvs.length:=by lia
  subst e;exact .inl #[#[q,bC _],hd σ H p]
end
section
variable{X:Cx}{l:Expr}
noncomputable def apQ(td:TE):TE:=fun σ H Q=>td σ H fun x H1=>∃a kvs ns,x=.ref a/\Rd H1 a (.dK kvs)/\kvs.map (·.2)=ns.map V.int/\ns.length<64 /\
 ∀(l:Addr)(ns':List Int),H1 l=none->ns'.Perm ns->ns'.Pairwise (· >= ·)->Q (.ref l) (upd H1 l (.lst (ns'.map V.int)))
theorem Rx{A:aY}{s:Shared}{P:Nat->Value->Prop}
  (K:ajY X.prog X.w T r d n P OK) (hh:A.handled=none) (hok:OK s.heap) (hn:n<=sizeLine) (h64:n<64) (hP:∀us:List Value,us.length=n->(∀j v,us[j]? = some v->P j v)->IntsAre us ns)
  (h:∀h' tk l out ns' e,(∀ b ob,s⁻¹ b=some ob->h'.get? b=some ob)->(∀ b ob,s⁻¹ b=some ob->b≠l)->h'.get? l=some (cR "list" out e) ->
   IntsAre out.toList ns'->ns'.Perm ns->Ordered bb ns'->Q (.ref l) { s with heap:=h',toks:=tk }) :
  wpAny (model X.prog X.w) A (call (.builtin "sorted") [.ref r] [(Ec "reverse",.bool bb)]) Q E s:=by
 refine call_function_entry_kw YS YL YM (args_sorted_rev _ _) ?_;unfold dO.«sorted»;refine aB (m:=Yo "sorted" 1 1 _) (aN ?_);refine aB (ajQ (A:=A.in1) K hh hok hn fun h1 tk acc hk hacc=>?_);have hl:acc.toList.length=n:=by rw[iQ];exact hacc.1
 have hI:=hP acc.toList hl fun j v e=>hacc.2 j v (by rwa[<-gR]);refine aB (Qm ?_ (by rwa[hl]));have hoL:(h1.push (cR "list" acc.toList.toArray 0)).get? h1.objs.size=some (cR "list" acc.toList.toArray 0):=dW _ rfl;refine aB (oX (wpAny_call_entry_kw YH #[_,hoL,rfl] YG (list_sort_tree_rev hoL hI (by rwa[hl]) fun out ns' a1 a2 a3=>#[_,rfl,?_]) (args_list_sort_rev _ _)));refine aN #[_,rfl,?_];obtain⟨e,he⟩:=aed (vs:=acc.toList) (out:=out) hoL;have hb:∀b ob,s⁻¹ b=some ob->b<h1.objs.size:=fun b ob e'=>bQ (hk b ob e');refine h _ tk _ out ns' e (fun b ob e'=>?_) (fun b ob e'=>cF (hb b ob e')) he a1 a2 a3;have hlt:=hb b ob e';rw[aeb (cF hlt) (by rw[JK];exact yK hlt)];exact dH _ (hk b ob e')
theorem ah0(hm0:X.mg "sorted" = none)(hl:PE X l td)(m:MI X l "values" apos cpos)(hc:X.calm=true)(hg:Gl X "sorted" := by rfl):
  PE X (.Call (.Name "sorted" p) [.Call (.Attribute l "values" apos) [] [] cpos] [#[some "reverse",.Constant (.bool true) j bpos,kp]] pos) (apQ td):=by
 intro pins s σ H Q I h;refine yw (nH I hg hm0 boot_sorted ?_);refine callWith_kw (yV (Qj (T := "dict") (id := "dict.values") m.base rfl m.line QK Zf alF (thn (hl pins s σ H _ I h) fun v s1 zq=>?_)));obtain⟨x,H1,I1,r1,q1⟩:=zq;obtain⟨a,kvs,ns,rfl,e,ei,h64,q⟩:=q1;obtain rfl:v=Value.ref a:=r1;obtain⟨t1,t2,hS⟩:=Rq I1 (.inl #[kvs,e]);show#[t1,t2,?_];obtain⟨z,_,vs,rel,dd⟩:=tZ I1.hok e;obtain⟨ep,dm⟩:=dd.dictAt;have hlen:=rel.length;have hns:ns.length=kvs.length:=by have:=mM jF ei;simpa using this.symm
 refine Ye Zf alE rfl (Qh #[rfl,t1,alD _,_,aj8 (cu X.prog X.w) a hS,#[vs,dd],?_]);refine Eb (kws_cons ?_);refine akT (kws_nil ?_);show wpAny _ _ (call (.builtin "sorted") [.ref (~~~s1)] [(Ec "reverse",.bool true)]) _ _ _;have I2:=I1.kept (h':=s1.heap.push { cls:=.type "dict_values",data:=.fields [.ref a].toArray }) (t':=s1.toks) fun b ob e=>dH _ e;refine Rx (X:=X) (ns:=ns) (bb:=true) (ajR (knd:=cu X.prog X.w) (kvs:=vs) (ep:=ep)) (I1.ok.hd hc) #[#[_,dW _ rfl,rfl,rfl],dm.push _] (by rwa[<-hlen]) tb_g% (fun us hu hv=>?_) fun h' tk l' out ns' e' kp hne hl' hI hp ho=>?_
 ·have vv:=Wz rel hu hv;rw[ei]at vv;exact intsAre_of vv
 ·show#[.ref l',_,I2.Ms (t':=tk) kp hne (show cT X.prog X.w _ h' l' (.lst (ns'.map V.int))from#[?_,out.toList,e',lH hI,by simpa using hl']),rfl,q l' ns' (I2.none_of hne) hp ho];rwa[aC,hp.length_eq,hns]
end
end L2
namespace MG
noncomputable abbrev Tab:=List (Int × Int)
noncomputable def look(c:Tab)(k:Int):Option Int:=(c.find? fun p=>decide (p.1=k)).map (·.2)
noncomputable def low(c:Tab)(k:Int):Int:=(look c k).getD 0
noncomputable def put(c:Tab)(k v:Int):Tab:=
 if(c.any fun p=>decide (p.1=k))=true then c.map (fun p=>if p.1=k then(p.1,v)else p)else c++[(k,v)]
noncomputable def keys(c:Tab):List Int:=c.map (·.1)
noncomputable def vals(c:Tab):List Int:=c.map (·.2)
noncomputable def cM(c:Tab)(cut:Int):Tab:=(c.filter fun p=>decide (cut<p.2)).map fun p=>(p.1,p.2-cut)
theorem amT(k:Int):look [] k=none:=rfl
theorem fX(p:Int × Int)(r:Tab)(k:Int):look (p::r) k=if p.1=k then some p.2 else look r k:=by
 unfold look;rw[yq];by_cases h:p.1=k
 ·rw[mB h];simp[h]
 ·rw[mw h];simp[h]
theorem oF(k:Int):low [] k=0:=rfl
theorem zB(p:Int × Int)(r:Tab)(k:Int):low (p::r) k=if p.1=k then p.2 else low r k:=by
 unfold low;rw[fX];by_cases h:p.1=k
 ·rw[mB h,mB h];rfl
 ·rw[mw h,mw h]
theorem agJ(c:Tab)(k:Int):(c.any fun p=>decide (p.1=k))=true↔k∈keys c:=by
 unfold keys;rw[ajC];constructor
 ·rintro⟨p,h1,h2⟩;exact dU.mpr #[p,h1,mP h2]
 ·intro h;obtain⟨p,h1,h2⟩:=dU.mp h;show#[p,h1,mN h2]
theorem je(c:Tab)(k:Int):look c k=none↔k∉keys c:=by
 induction c with
 |nil=>simp[amT,keys]
 |cons p r ih =>
  rw[fX];by_cases h:p.1=k
  ·rw[mB h];simp[keys,h]
  ·rw[mw h,ih];simp[keys];intro _ e;exact h e.symm
theorem wR(c:Tab)(k:Int):(look c k).isSome=true↔k∈keys c:=by
 have h:=je c k;cases e:look c k with
 |none=>rw[e]at h;simp at h;simp[h]
 |some v=>rw[e]at h;simp at h;simp[h]
theorem fY(h:k∉keys c):low c k=0:=by
 unfold low;rw[(je c k).mpr h];rfl
theorem amU(h:look c k=some v):(k,v)∈c:=by
 induction c with
 |nil=>cases h
 |cons p r ih =>
  rw[fX]at h;by_cases e:p.1=k
  ·rw[mB e]at h;cases h;rw[<-e];exact cJ
  ·rw[mw e]at h;exact cV _ (ih h)
theorem vK(h:∀p∈c,1<=p.2)(k:Int):0<=low c k:=by
 unfold low;cases e:look c k with
 |none=>exact bR 0
 |some v=>have:=h _ (amU e);simp at this ⊢; lia
theorem ah1(c:Tab)(k v:Int):keys (c.map fun p=>if p.1=k then(p.1,v)else p)=keys c:=by
 unfold keys;rw[g8];apply Cy;intro p _;show(if p.1=k then(p.1,v)else p).1=p.1;split <;> rfl
theorem Gv(h:k∈keys c):put c k v=c.map fun p=>if p.1=k then(p.1,v)else p:=by
 unfold put;rw[mB ((agJ c k).mpr h)]
theorem Av(h:k∉keys c):put c k v=c++[(k,v)]:=by
 unfold put;rw[mw (fun z=>h ((agJ c k).mp z))]
theorem abv(c:Tab)(k v:Int):keys (put c k v)=if k∈keys c then keys c else keys c++[k]:=by
 by_cases h:k∈keys c
 ·rw[mB h,Gv h,ah1]
 ·rw[mw h,Av h];simp[keys]
theorem ZQ(c:Tab)(k v j:Int):j∈keys (put c k v)↔j=k\/j∈keys c:=by
 rw[abv];by_cases h:k∈keys c
 ·rw[mB h];show#[Or.inr,fun z=>z.elim (fun e=>e ▸ h) id]
 ·rw[mw h,bO,cC];show#[fun z=>z.elim Or.inr Or.inl,fun z=>z.elim Or.inr Or.inl]
theorem ZR(hn:(keys c).Nodup)(k v:Int):(keys (put c k v)).Nodup:=by
 rw[abv];by_cases h:k∈keys c
 ·rwa[mB h]
 ·rw[mw h,CG];show#[hn,by simp,?_];intro a ha b hb e;rw[cC]at hb;exact h (by rwa[<-hb,<-e])
theorem ZS(c:Tab)(k v:Int):(put c k v).length<=c.length+1:=by
 unfold put;split
 ·rw[aC];lia
 ·rw[dw];simp
theorem ah2(c:Tab)(k v j:Int):look (c.map fun p=>if p.1=k then(p.1,v)else p) j=(look c j).map fun x=>if j=k then v else x:=by
 induction c with
 |nil=>rfl
 |cons p r ih =>
  rw[cX,fX,fX,ih];by_cases h:p.1=k
  ·rw[mB h];by_cases e:p.1=j
   ·rw[mB e,mB e,aes,mB (e.symm.trans h)]
   ·rw[mw e,mw e]
  ·rw[mw h];by_cases e:p.1=j
   ·rw[mB e,mB e,aes,mw (fun z=>h (e.trans z))]
   ·rw[mw e,mw e]
theorem ah3(c:Tab)(k v j:Int)(h:k∉keys c):look (c++[(k,v)]) j=if j=k then some v else look c j:=by
 induction c with
 |nil =>
  rw[adi,fX];by_cases e:k=j
  ·rw[mB e,mB e.symm]
  ·rw[mw e,mw (fun z=>e z.symm)]
 |cons p r ih =>
  have hk:¬ p.1=k:=fun z=>h (by simp[keys,z]);have hr:k∉keys r:=fun z=>h (cV _ z);rw[ajD,fX,fX,ih hr];by_cases e:p.1=j
  ·rw[mB e,mB e,mw (fun z=>hk (e.trans z))]
  ·rw[mw e,mw e]
theorem amV(c:Tab)(k v j:Int):look (put c k v) j=if j=k then some v else look c j:=by
 by_cases h:k∈keys c
 ·rw[Gv h,ah2];by_cases e:j=k
  ·subst e;cases q:look c j with
   |none=>exact mI h ((je c j).mp q)
   |some x=>simp
  ·simp only[mw e];cases look c j <;> rfl
 ·rw[Av h,ah3 c k v j h]
theorem vL(c:Tab)(k v j:Int):low (put c k v) j=if j=k then v else low c j:=by
 unfold low;rw[amV];split <;> rfl
theorem ZV(h:∀p∈c,1<=p.2){k v:Int}(hv:1<=v):∀p∈put c k v,1<=p.2:=by
 intro p hp;unfold put at hp;split at hp
 ·obtain⟨q,hq,e⟩:=dU.mp hp;by_cases z:q.1=k
  ·rw[mB z]at e;subst e;exact hv
  ·rw[mw z]at e;subst e;exact h q hq
 ·rcases bO.mp hp with z|z
  ·exact h p z
  ·rw[cC]at z;subst z;exact hv
theorem amW(hn:(keys c).Nodup){k v:Int}(h:k∈keys c):(vals (c.map fun p=>if p.1=k then(p.1,v)else p)).sum=(vals c).sum-low c k+v:=by
 induction c with
 |nil=>cases h
 |cons p r ih =>
  have hn':(p.1::keys r).Nodup:=hn;rw[iW]at hn';rw[zB];by_cases e:p.1=k
  ·have hr:k∉keys r:=e ▸ hn'.1;have id_r:(r.map fun p=>if p.1=k then(p.1,v)else p)=r:=by
    have:∀q∈r,(if q.1=k then(q.1,v)else q)=q:=fun q hq=>mw (fun(z:q.1=k)=>hr (z ▸ dU.mpr #[q,hq,rfl]));exact(Cy this).trans (ajM r)
   rw[cX,mB e,mB e,id_r];simp only[vals,cX,qZ];lia
  ·have hr:k∈keys r:=by
    rcases aX.mp h with z|z
    ·exact mI z.symm e
    ·exact z
   rw[cX,mw e,mw e];have:=ih hn'.2 hr;simp only[vals,cX,qZ]at this ⊢; lia
theorem agK(hn:(keys c).Nodup)(k w:Int):(vals (put c k (low c k+w))).sum=(vals c).sum+w:=by
 by_cases h:k∈keys c
 ·rw[Gv h,amW hn h];lia
 ·rw[Av h,fY h];simp only[vals,bM,cX,Qd,rK,qZ,List.sum_nil];lia
theorem ZW{cut k:Int}(h:k∈keys (cM c cut)):k∈keys c:=by
 unfold keys cM at h;rw[g8]at h;obtain⟨p,hp,e⟩:=dU.mp h;exact dU.mpr #[p,(jA.mp hp).1,e]
theorem amX(c:Tab)(cut:Int):keys (cM c cut)=keys (c.filter fun p=>decide (cut<p.2)):=by
 unfold keys cM;rw[g8];rfl
theorem at6(hn:(keys c).Nodup)(cut:Int):(keys (cM c cut)).Nodup:=by
 rw[amX];exact al0 (al3 _ List.filter_sublist) hn
theorem apR(c:Tab)(cut:Int):∀p∈cM c cut,1<=p.2:=by
 intro p hp;unfold cM at hp;obtain⟨q,hq,e⟩:=dU.mp hp;have:=mP (jA.mp hq).2;subst e;show 1<=q.2-cut;lia
theorem apS(c:Tab)(cut:Int):(cM c cut).length<=c.length:=by
 unfold cM;rw[aC];exact iV _ _
theorem amY(h:∀p∈c,1<=p.2):cM c 0=c:=by
 unfold cM;rw[ac7.mpr (fun p hp=>mN (by have:=h p hp;lia))];have:∀p∈c,(p.1,p.2-0)=p:=fun p _=>by rw[ala]
 exact(Cy this).trans (ajM c)
theorem agL(hn:(keys c).Nodup){cut:Int}(hc:0<=cut)(hp:∀p∈c,0<=p.2)(k:Int):low (cM c cut) k=if low c k-cut<=0 then 0 else low c k-cut:=by
 induction c with
 |nil=>rw[show cM [] cut=[]from rfl,oF];split <;> lia
 |cons p r ih =>
  have hn':(p.1::keys r).Nodup:=hn;rw[iW]at hn';have ih':=ih hn'.2 (fun q hq=>hp q (cV _ hq));by_cases h:cut<p.2
  ·have e:cM (p::r) cut=(p.1,p.2-cut)::cM r cut:=by
    unfold cM;rw[uR,mB (mN h)];rfl
   rw[e,zB,zB,ih'];by_cases z:p.1=k
   ·rw[mB z,mB z,mw tb_g%]
   ·rw[mw z,mw z]
  ·have e:cM (p::r) cut=cM r cut:=by
    unfold cM;rw[uR,mw (by simp;lia)]
   rw[e,zB,ih'];by_cases z:p.1=k
   ·rw[mB z,mB (show p.2-cut<=0 by lia)];have:low r k=0:=fY (z ▸ hn'.1);rw[this];split <;> lia
   ·rw[mw z]
theorem wU:∀{d:List Int}{room:Nat}{c:Int},d.Pairwise (· >= ·)->d[room]? = some c->(d.filter fun v=>decide (c<v)).length<=room
 |[],_,_,_,h=>by cases h
 |x::r,0,c,hp,h=>by
  have e:x=c:=by simpa using h
  subst e;have:((x::r).filter fun v=>decide (x<v))=[]:=by
   rw[Gg];intro v hv;rcases aX.mp hv with z|z
   ·subst z;simp
   ·have:=(gC.mp hp).1 v z;simp;lia
  rw[this];exact bC _
 |x::r,n+1,c,hp,h=>by
  have ih:=wU (d:=r) (room:=n) (c:=c) (gC.mp hp).2 (by simpa using h);rw[uR];split
  ·simp only[fu];lia
  ·lia
noncomputable def above(c:Int)(l:List Int):Int:=((l.filter fun v=>decide (c<v)).map fun v=>v-c).sum
theorem Er(c x:Int)(r:List Int):above c (x::r)=(if c<x then x-c else 0)+above c r:=by
 unfold above;rw[uR];by_cases h:c<x
 ·rw[mB (mN h),mB h];rfl
 ·rw[mw (by simp;lia),mw h];lia
theorem WK:∀{l:List Int},(∀v∈l,v<=c)->above c l=0
 |[],_=>rfl
 |x::r,h=>by
  rw[Er,WK (l:=r) fun v hv=>h v (cV _ hv)];have:=h x cJ;rw[mw tb_g%];rfl
theorem vM:∀{l:List Int},(∀v∈l,0<=v)->0<=l.sum
 |[],_=>bR 0
 |x::r,h=>by
  have:=vM (l:=r) fun v hv=>h v (cV _ hv);have:=h x cJ;rw[qZ];lia
theorem Ry:∀{d:List Int}{room:Nat}{c:Int},d.Pairwise (· >= ·)->d[room]? = some c->(∀v∈d,0<=v) ->
  above c d+((room:Int)+1)*c<=d.sum/\(d.length=room+1->above c d+((room:Int)+1)*c=d.sum)
 |[],_,_,_,h,_=>by cases h
 |x::r,0,c,hp,h,h0=>by
  have e:x=c:=by simpa using h
  subst e;have hr:∀v∈r,v<=x:=fun v hv=>(gC.mp hp).1 v hv;have hs:=vM (l:=r) fun v hv=>h0 v (cV _ hv);rw[Er,mw tb_g%,WK hr,qZ];show#[by simp;lia,fun hl=>?_];have:r=[]:=by
   have:r.length=0:=by simpa using hl
   exact Mi.mp this
  subst this;simp
 |x::r,n+1,c,hp,h,h0=>by
  have h':r[n]? = some c:=by simpa using h
  have ih:=Ry (d:=r) (room:=n) (c:=c) (gC.mp hp).2 h' fun v hv=>h0 v (cV _ hv);have hx:c<=x:=(gC.mp hp).1 c (mv h');have hm:((n+1:Nat):Int)=(n:Int)+1:=by lia
  have e2:((((n+1:Nat):Int))+1)*c=((n:Int)+1)*c+c:=by rw[hm,mX ((n:Int)+1) 1 c,rY]
  rw[Er,qZ,e2];have ex:(if c<x then x-c else 0)=x-c:=by split <;> lia
  rw[ex];show#[by have:=ih.1;lia,fun hl=>?_];have:=ih.2 (by simpa using hl);lia
theorem abw(c:Tab)(cut:Int):vals (cM c cut)=(((vals c).filter fun v=>decide (cut<v)).map fun v=>v-cut):=by
 induction c with
 |nil=>rfl
 |cons p r ih =>
  have hv:vals (p::r)=p.2::vals r:=rfl;rw[hv];by_cases h:cut<p.2
  ·have e:cM (p::r) cut=(p.1,p.2-cut)::cM r cut:=by
    unfold cM;rw[uR,mB (mN h)];rfl
   rw[e,uR,mB (mN h),cX,<-ih];rfl
  ·have e:cM (p::r) cut=cM r cut:=by
    unfold cM;rw[uR,mw (by simp;lia)]
   rw[e,uR,mw (by simp;lia),ih]
theorem apT(c:Tab)(cut:Int):(vals (cM c cut)).sum=above cut (vals c):=by rw[abw];rfl
theorem abx{l l':List Int}(h:l.Perm l'):l.sum=l'.sum:=by
 induction h with
 |nil=>rfl
 |cons x _ ih=>rw[qZ,qZ,ih]
 |swap x y l=>simp only[qZ];lia
 |trans _ _ a b=>exact a.trans b
theorem ae9{l l':List Int}(h:l.Perm l'):above c l=above c l':=by
 unfold above;exact abx ((h.filter _).map _)
structure IsCut(room:Nat)(c:Tab)(cut:Int):Prop where
 ex:∃d:List Int,d.Perm (vals c)/\d.Pairwise (· >= ·)/\d[room]? = some cut
theorem IsCut.mem{cut:Int}(h:IsCut room c cut):cut∈vals c:=by
 obtain⟨d,h1,_,h3⟩:=h;exact h1.mem_iff.mp (mv h3)
theorem IsCut.len{cut:Int}(h:IsCut room c cut):(cM c cut).length<=room:=by
 obtain⟨d,h1,h2,h3⟩:=h;have e:(cM c cut).length=((vals c).filter fun v=>decide (cut<v)).length:=by
  have:=mM jF (abw c cut);rw[aC]at this;rw[<-this];unfold vals;rw[aC]
 rw[e,<-(h1.filter _).length_eq];exact wU h2 h3
theorem IsCut.sum{cut:Int}(h:IsCut room c cut)(h0:∀p∈c,0<=p.2):
  (vals (cM c cut)).sum+((room:Int)+1)*cut<=(vals c).sum/\(c.length=room+1->(vals (cM c cut)).sum+((room:Int)+1)*cut=(vals c).sum):=by
 obtain⟨d,h1,h2,h3⟩:=h;rw[apT,<-ae9 h1,<-abx h1];have hd:∀v∈d,0<=v:=fun v hv=>by
  obtain⟨p,hp,e⟩:=dU.mp (h1.mem_iff.mp hv);rw[<-e];exact h0 p hp
 have:=Ry h2 h3 hd;show#[this.1,fun hl=>this.2 ?_];rw[h1.length_eq];unfold vals;rwa[aC]
noncomputable def jV(room:Nat)(c:Tab)(c':Tab)(cut:Int):Prop:=
 if c.length<=room then cut=0/\c'=c else IsCut room c cut/\c'=cM c cut
structure Ok(room:Nat)(c:Tab)(total lost:Int)(tw:Int->Int):Prop where
 nd:(keys c).Nodup
 pos:∀p∈c,1<=p.2
 len:c.length<=room
 l0:0<=lost
 sum:(vals c).sum+((room:Int)+1)*lost<=total
 lo:∀k,low c k<=tw k
 hi:∀k,tw k<=low c k+lost
structure Pre(room:Nat)(c:Tab)(total lost:Int)(tw:Int->Int):Prop where
 nd:(keys c).Nodup
 pos:∀p∈c,1<=p.2
 l0:0<=lost
 sum:(vals c).sum+((room:Int)+1)*lost<=total
 lo:∀k,low c k<=tw k
 hi:∀k,tw k<=low c k+lost
theorem jV.nn{cut:Int}(f:jV room c c' cut)(hp:∀p∈c,1<=p.2):0<=cut:=by
 unfold jV at f;by_cases e:c.length<=room
 ·rw[mB e]at f;lia
 ·rw[mw e]at f;obtain⟨p,hp',e'⟩:=dU.mp f.1.mem;have:=hp p hp';lia
theorem Pre.fit{total lost cut:Int}{tw:Int->Int}(h:Pre room c total lost tw)(f:jV room c c' cut):Ok room c' total (lost+cut) tw:=by
 have hc:=f.nn h.pos;unfold jV at f;by_cases e:c.length<=room
 ·rw[mB e]at f;obtain⟨rfl,rfl⟩:=f;show#[h.nd,h.pos,e,by have:=h.l0;lia,by rw[jL];exact h.sum,h.lo,fun k=>by have:=h.hi k;lia]
 ·rw[mw e]at f;obtain⟨f,rfl⟩:=f;have hs:=(f.sum fun p hp=>by have:=h.pos p hp;lia).1;have h0:∀p∈c,0<=p.2:=fun p hp=>by have:=h.pos p hp;lia
  show#[at6 h.nd _,apR _ _,f.len,by have:=h.l0;lia,?_,fun k=>?_,fun k=>?_]
  ·rw[iT];have:=h.sum;lia
  ·rw[agL h.nd hc h0 k];have:=h.lo k;have:=vK h.pos k;split <;> lia
  ·rw[agL h.nd hc h0 k];have:=h.hi k;split <;> lia
theorem Ok.pre{tw:Int->Int}(h:Ok room c total lost tw):Pre room c total lost tw:=#[h.nd,h.pos,h.l0,h.sum,h.lo,h.hi]
theorem Ok.add{tw:Int->Int}(h:Ok room c total lost tw)(hw:1<=w):
  Pre room (put c k (low c k+w)) (total+w) lost (fun j=>if j=k then tw j+w else tw j):=by
 show#[ZR h.nd _ _,ZV h.pos (by have:=vK h.pos k;lia),h.l0,by rw[agK h.nd];have:=h.sum;lia,fun j=>?_,fun j=>?_]
 ·rw[vL];have:=h.lo j;by_cases e:j=k
  ·subst e;rw[mB rfl,mB rfl];lia
  ·rwa[mw e,mw e]
 ·rw[vL];have:=h.hi j;by_cases e:j=k
  ·subst e;rw[mB rfl,mB rfl];lia
  ·rwa[mw e,mw e]
theorem Ok.heavy{tw:Int->Int}(h:Ok room c total lost tw)(hk:total<tw k*((room:Int)+1)):k∈keys c:=by
 refine alQ fun n=>?_;have h1:=h.hi k;rw[fY n]at h1;have h2:=h.sum;have h3:0<=(vals c).sum:=vM fun v hv=>by
  obtain⟨p,hp,e⟩:=dU.mp hv;have:=h.pos p hp;lia
 have h4:tw k*((room:Int)+1)<=((room:Int)+1)*lost:=by
  rw[DX];exact QD tb_g% tb_g%
 lia
noncomputable def aV(c d:Tab):Tab:=d.foldl (fun acc p=>put acc p.1 (low acc p.1+p.2)) c
theorem Gw(c:Tab):aV c []=c:=rfl
theorem iG(c:Tab)(p:Int × Int)(d:Tab):aV c (p::d)=aV (put c p.1 (low c p.1+p.2)) d:=rfl
theorem Aw(c d:Tab)(p:Int × Int):aV c (d++[p])=put (aV c d) p.1 (low (aV c d) p.1+p.2):=by
 unfold aV;rw[Xy];rfl
theorem Ax:∀(d:Tab){c:Tab},(keys c).Nodup->(keys (aV c d)).Nodup
 |[],_,h=>h
 |p::d,c,h=>by rw[iG];exact Ax d (ZR h _ _)
theorem Rz:∀(d:Tab){c:Tab},(∀p∈c,1<=p.2)->(∀p∈d,1<=p.2)->∀p∈aV c d,1<=p.2
 |[],_,h,_=>h
 |q::d,c,h,hd=>by
  rw[iG];refine Rz d (ZV h ?_) fun p hp=>hd p (cV _ hp);have:=vK h q.1;have:=hd q cJ;lia
theorem uc:∀d c,(aV c d).length<=c.length+d.length
 |[],c=>by rw[Gw];simp
 |p::d,c=>by
  rw[iG];have:=uc d (put c p.1 (low c p.1+p.2));have:=ZS c p.1 (low c p.1+p.2);simp only[fu];lia
theorem RD:∀d c k,(keys d).Nodup->low (aV c d) k=low c k+low d k
 |[],c,k,_=>by rw[Gw,oF];lia
 |p::d,c,k,h=>by
  have h':(p.1::keys d).Nodup:=h;rw[iW]at h';rw[iG,RD d _ k h'.2,vL,zB];by_cases e:k=p.1
  ·rw[mB e,mB e.symm,e,fY h'.1];lia
  ·rw[mw e,mw (fun z=>e z.symm)]
theorem Ay:∀(d:Tab){c:Tab},(keys c).Nodup->(vals (aV c d)).sum=(vals c).sum+(vals d).sum
 |[],c,_=>by rw[Gw];simp[vals]
 |p::d,c,h=>by
  rw[iG,Ay d (ZR h _ _),agK h];simp only[vals,cX,qZ];lia
theorem ud:∀d c k,k∈keys (aV c d)↔k∈keys c\/k∈keys d
 |[],c,k=>by rw[Gw];simp[keys]
 |p::d,c,k=>by
  rw[iG,ud d,ZQ];have e:keys (p::d)=p.1::keys d:=rfl;rw[e,aX];constructor
  ·rintro((h|h)|h)
   ·exact .inr (.inl h)
   ·exact .inl h
   ·exact .inr (.inr h)
  ·rintro(h|h|h)
   ·exact .inl (.inr h)
   ·exact .inl (.inl h)
   ·exact .inr h
theorem Ok.xX{tw tw':Int->Int}(h:Ok room c t l tw)(h':Ok room d t' l' tw'):
  Pre room (aV c d) (t+t') (l+l') (fun k=>tw k+tw' k):=by
 show#[Ax d h.nd,Rz d h.pos h'.pos,by have:=h.l0;have:=h'.l0;lia,?_,fun k=>?_,fun k=>?_]
 ·rw[Ay d h.nd,iT];have:=h.sum;have:=h'.sum;lia
 ·rw[RD d c k h'.nd];have:=h.lo k;have:=h'.lo k;lia
 ·rw[RD d c k h'.nd];have:=h.hi k;have:=h'.hi k;lia
theorem Ok.empty(room:Nat):Ok room [] 0 0 (fun _=>0):=
 #[qY,(fun _ h=>by cases h),bF _,bR 0,by simp[vals],fun k=>by rw[oF];exact bR 0,fun k=>by rw[oF];exact bR 0]
end MG
namespace MK
noncomputable def Vl(r:Int)(h:Nat):Prop:=∃m:Int,r=m*2 ^ h/\m % 2=1
theorem jf(n:Nat):(0:Int)<2 ^ n:=QH tb_g%
theorem Vl.uniq(a:Vl r h)(b:Vl r k):h=k:=by
 have key:∀{h k:Nat}{m n:Int},h<k->m*2 ^ h=n*2 ^ k->m % 2=1->False:=by
  intro h k m n hlt e hm;obtain⟨d,rfl⟩:∃d,k=h+(d+1):=#[k-h-1,by lia];rw[Y6,<-jK,ak1]at e;have e2:=Int.eq_of_mul_eq_mul_right (alb (jf h)) e;rw[mj,<-jK]at e2;lia
 obtain⟨m,e1,h1⟩:=a;obtain⟨n,e2,h2⟩:=b;rcases akC h k with l|l|l
 ·exact(key l (e1.symm.trans e2) h1).elim
 ·exact l
 ·exact(key l (e2.symm.trans e1) h2).elim
noncomputable def To(r x:Int)(i:Nat):Prop:=r=x*2 ^ i/\x≠0
theorem To.step(h:To r x i)(e:x % 2=0):To r (x / 2) (i+1):=by
 obtain⟨h1,h2⟩:=h;have hx:x=x / 2*2:=by lia
 show#[?_,by lia];rw[h1,mj,DX (2 ^ i) 2,<-jK,<-hx]
theorem To.stop(h:To r x i)(e:¬ x % 2=0):Vl r i:=#[x,h.1,by lia]
noncomputable def M:Int:=1152921504606846976
theorem arA:(2:Int) ^ 60=1152921504606846976:=by decide
theorem Vl.ne(a:Vl r h):r≠0:=by
 obtain⟨m,e,hm⟩:=a;intro z;rw[z]at e;rcases Int.mul_eq_zero.mp e.symm with q|q
 ·lia
 ·exact mI q (alb (jf h))
theorem Vl.lt(a:Vl r h)(h0:0<=r)(h1:r<1152921504606846976):h<60:=by
 obtain⟨m,e,hm⟩:=a;rcases lZ h 60 with q|q
 ·exact q
 ·obtain⟨d,rfl⟩:∃d,h=60+d:=#[h-60,by lia];exfalso;rw[Y6,arA]at e;have hd:=jf d;rcases alc m 0 with l|l
  ·have:m*(1152921504606846976*2 ^ d)<0:=akY l tb_g%;lia
  ·have h3:1*(1152921504606846976*1)<=m*(1152921504606846976*2 ^ d):=yR tb_g% tb_g% tb_g% tb_g%;lia
theorem To.lt(h:To r x i)(h0:0<r)(h1:r<1152921504606846976):i<60/\0<x/\x<=r:=by
 obtain⟨e,hx⟩:=h;have hp:=jf i;have x0:0<x:=by
  rcases alc x 0 with l|l
  ·have:x*2 ^ i<0:=akY l hp;lia
  ·lia
 show#[?_,x0,?_]
 ·rcases lZ i 60 with q|q
  ·exact q
  ·obtain⟨d,rfl⟩:∃d,i=60+d:=#[i-60,by lia];exfalso;rw[Y6,arA]at e;have hd:=jf d;have h3:1*(1152921504606846976*1)<=x*(1152921504606846976*2 ^ d):=yR tb_g% tb_g% tb_g% tb_g%;lia
 ·have h3:x*1<=x*2 ^ i:=QD tb_g% tb_g%;lia
end MK
namespace L2
open PySem MG
noncomputable def emb(c:Tab):List (Key × V):=c.map fun p=>((Sum.inl p.1:Key),V.int p.2)
theorem jW(c:Tab):(emb c).length=c.length:=aC _
theorem RJ(c:Tab):(emb c).map (·.2)=(vals c).map V.int:=by
 unfold emb vals;rw[g8,g8];rfl
theorem uf(c:Tab):((emb c).map fun p=>kV p.1)=(keys c).map V.int:=by
 unfold emb keys;rw[g8,g8];rfl
theorem amZ{c:Tab}{i:Nat}{p:Key × V}(h:(emb c)[i]? = some p):∃q,c[i]? = some q/\p=(Sum.inl q.1,V.int q.2):=by
 unfold emb at h;rw[dG]at h;cases e:c[i]? with
 |none=>rw[e]at h;cases h
 |some q=>rw[e]at h;show#[q,rfl,(cA h).symm]
theorem O9:((Sum.inl a:Key)=Sum.inl b)↔a=b:=#[fun h=>Zh h,fun h=>by rw[h]]
theorem zE(c:Tab)(k:Int):sW (emb c) (Sum.inl k:Key)=(look c k).map V.int:=by
 induction c with
 |nil=>rfl
 |cons p r ih =>
  have e:emb (p::r)=(Sum.inl p.1,V.int p.2)::emb r:=rfl;rw[e,fX];by_cases h:p.1=k
  ·rw[Gq (p:=((Sum.inl p.1:Key),V.int p.2)) (O9.mpr h),mB h];rfl
  ·rw[Gs (p:=((Sum.inl p.1:Key),V.int p.2)) (fun z=>h (O9.mp z)),mw h,ih]
theorem vN(c:Tab)(k:Int):(sW (emb c) (Sum.inl k:Key)).getD (.int 0)=.int (low c k):=by
 rw[zE];unfold low;cases look c k <;> rfl
theorem am0(h:look c k=some v):sW (emb c) (Sum.inl k:Key)=some (.int v):=by rw[zE,h];rfl
theorem RK(c:Tab)(k:Int):(sW (emb c) (Sum.inl k:Key)).isSome=decide (k∈keys c):=by
 rw[zE,aep];by_cases h:k∈keys c
 ·rw[mN h];exact(wR c k).mpr h
 ·rw[mS h];cases e:(look c k).isSome with
  |false=>rfl
  |true=>exact mI ((wR c k).mp e) h
theorem apU(c:Tab)(k:Int):((emb c).any fun kv=>decide (kv.1=(Sum.inl k:Key)))=c.any fun p=>decide (p.1=k):=by
 induction c with
 |nil=>rfl
 |cons p r ih =>
  have e:emb (p::r)=(Sum.inl p.1,V.int p.2)::emb r:=rfl;rw[e,CT,CT,ih];congr 1;by_cases h:p.1=k
  ·rw[mN h,mN (O9.mpr h)]
  ·rw[mS h,mS (fun z=>h (O9.mp z))]
theorem zF(c:Tab)(k v:Int):putK (emb c) (Sum.inl k:Key) (.int v)=emb (put c k v):=by
 unfold putK put;rw[apU];by_cases h:(c.any fun p=>decide (p.1=k))=true
 ·rw[mB h,mB h];unfold emb;rw[g8,g8];apply Cy;intro p _;by_cases e:p.1=k
  ·simp[e]
  ·simp[e]
 ·rw[mw h,mw h];unfold emb;rw[bM];rfl
noncomputable def But(p:Addr)(H H':Hp):Prop:=∀b o,H b=some o->b≠p->H' b=some o
theorem Same.but(h:Same H H')(p:Addr):But p H H':=fun b o e _=>h b o e
theorem But.trans(a:But p H H1)(b:But p H1 H2):But p H H2:=fun c o h n=>b c o (a c o h n) n
theorem But.upd:But p H (upd H p o):=fun b u h n=>by rwa[ao n]
theorem Same.new(h:H p=none):Same H (upd H p o):=fun b u e=>by rwa[ao (ak e h)]
section
variable{K:aH}
theorem rdF{f:Str}{v:V}(h:H a=some (.ins C dx fs))(c:Cls K C)(n:cj K C f)(l:fs.lookup f=some v)(q:Q v H):rFld K f (.ref a) H Q:=#[a,C,dx,fs,v,rfl,h,c,n,l,q]
theorem dj(h:SqL K H a xs)(e:atI xs i=some v)(q:Q v H):zA K (.ref a) (.int i) H Q:=.inl #[a,xs,i,v,rfl,rfl,h,e,q]
theorem bY(h:SqT K H a xs)(e:atI xs i=some v)(q:Q v H):zA K (.ref a) (.int i) H Q:=.inr (.inl #[a,xs,i,v,rfl,rfl,h,e,q])
theorem aby{i:Int}{v:V}(h:Rd H a (.dK kvs))(e:sW kvs (Sum.inl i:Key)=some v)(q:Q v H):zA K (.ref a) (.int i) H Q:=
 .inr (.inr #[a,v,rfl,.inl #[kvs,Sum.inl i,h,rfl,e.symm],q])
theorem eX(h:SqL K H a xs)(q:Q (.int xs.length) H):abu K [.ref a] H Q:=.inl #[.ref a,xs.length,rfl,.inl #[xs,h,rfl],q]
theorem ZX(h:Rd H a (.dK kvs))(q:Q (.int kvs.length) H):abu K [.ref a] H Q:=.inr #[a,kvs,rfl,h,q]
theorem zH{i:Int}(h:Rd H a (.dK kvs)):ZM H a (.int i) (sW kvs (Sum.inl i:Key)):=.inl #[kvs,Sum.inl i,h,rfl,rfl]
theorem Kl{i:Int}{v:V}{R:Hp->Prop}(h:H a=some (.dK kvs))(hl:kvs.length<sizeLine)(q:R (upd H a (.dK (putK kvs (Sum.inl i) v)))):arz (.ref a) (.int i) v H R:=
 .inr #[a,_,rfl,.inl #[kvs,Sum.inl i,h,rfl,hl,rfl],q]
theorem am1(e:oU K (.type "int") (.type T)=some b)(q:Q (.bl b) H):rIsi K [.int i,.ty T] H Q:=
 #[_,_,_,_,b,rfl,rfl,fun _ h=>h,.int i,e,q]
end
theorem zJ(K:aH)(t:Value)(h:(t == t)=true):oU K t t=some true:=by unfold oU;rw[mB h]
theorem at7{K:aH}(h1:(Value.type a == Value.type b)=false)(h2:ajX b=true)(h3:(fastBuiltinMro a).map (·.contains (Value.type b))=some r):
  oU K (.type a) (.type b)=some r:=by
 unfold oU PySem.W.kitCls;rw[mw (by rw[h1];exact iR)];show(if ajX b=true then PySem.W.subIn K (.type a) (.type b)else none)=some r;rwa[mB h2]
theorem sX(h0:-(2 ^ 64)<i)(h1:i<2 ^ 64):ams i j:=.inl #[by lia,by lia]
theorem dB(h0:-(2 ^ 64)<j)(h1:j<2 ^ 64):ams i j:=.inr #[by lia,by lia]
end L2
namespace L2
open PySem PySem.Spec PyProof.Rows
noncomputable def abz(cells:List (Str × Addr)):List (Str × Addr)->Prop
 |[]=>True
 |p::r=>cells.lookup p.1=some p.2/\abz cells r
theorem abz.of:∀{cl:List (Str × Addr)} {y:Str} {c:Addr},abz cells cl->cl.lookup y=some c->cells.lookup y=some c
 |[],_,_,_,h=>by cases h
 |p::r,y,c,hs,h=>by
  obtain⟨n,a⟩:=p;rw[adf]at h;by_cases e:y=n
  ·subst e;rw[beq_self_eq_true]at h;cases h;exact hs.1
  ·rw[xj.mpr e]at h;exact abz.of hs.2 h
@[reducible] noncomputable def dg(X:Cx)(N:List Str)(scope:Scope)(cl:List (Str × Addr))(s:Shared)(H:Hp)(fp:List Addr)(C:Addr):Cx where
 prog:=X.prog
 w:=X.w
 K:=X.K
 mg:=X.mg
 base:=X.base
 A:=X.A
 N:=N
 s₀:=s
 H₀:=H
 env:=compEnvC scope cl C X.env
 outer:=X.stack
 stack:=X.stack
 ex:=fp
 fn:=fun _=>false
 calm:=X.calm
 pn:=[]
 xe:=fun _ _=>False
structure abA(X:Cx)(N:List Str)(scope:Scope)(cl:List (Str × Addr))(i j:Nat):Prop where
 ok:∃y c,N[i]? = some y/\X.N[j]? = some y/\(X.env.kindOf y=some .cell\/X.env.kindOf y=some .free)/\((mU scope X.env).names.lookup y=some .cell\/(mU scope X.env).names.lookup y=some .free)/\cl.lookup y=some c
noncomputable def vO(σ:St)(x:Option V)(caps:List Nat):St:=x::caps.map fun j=>(σ[j]?).join
noncomputable def oG(σ:St)(zs:List (Option V))(caps:List Nat):St:=zs++caps.map fun j=>(σ[j]?).join
noncomputable def ug(J:It)(g:TG)(k:Nat)(caps:List Nat)(tt:TT)(te:TE)(σ:St)(D:Addr)(Q:VK)(H1:Hp):Prop:=∃W:Nat->Nat->List V->Hp->Prop,(∃m,W 0 m [] (upd H1 D (.lst [])))/\∀i m ys H,W i m ys H ->
 H D=some (.lst ys)/\((J.stop i H/\Q (.ref D) H)\/(J.go i H/\ys.length<sizeLine/\∀ x H',J.yld i H x H'->∀ zs:List (Option V),zs.length=k->g x (oG σ zs caps) H' fun σ2 H2=>(∃ zs':List (Option V),zs'.length=k/\σ2=oG σ zs' caps)/\tt σ2 H2 fun b H3=>if b=true then
  te σ2 H3 fun y H4=>H4 D=some (.lst ys)/\∃m',m'<m/\W (i+1) m' (ys++[y]) (upd H4 D (.lst (ys++[y])))
  else H3 D=some (.lst ys)/\∃ m',m'<m/\W (i+1) m' ys H3))
noncomputable def am2(wi:TI)(g:TG)(k:Nat)(caps:List Nat)(tt:TT)(te:TE):TE:=fun σ H Q=>wi σ H fun J H1=>∀D,H1 D=none->ug J g k caps tt te σ D Q H1
section
variable{X:Cx}{pins:List (Addr × Obj)}{σ:St}{H:Hp}{s:Shared}
theorem Inv.compT{k:Nat}{N:List Str}{scope:Scope}{cl:List (Str × Addr)}{fp:List Addr}{caps:List Nat}{h4:Heap}{D C:Addr}{tk:Nat}(I:Inv X pins σ H s)(hkind:scope.kind=.function)(hsub:abz X.env.cells cl)
  (hhas:∀y,((mU scope X.env).names.lookup y=some .cell\/(mU scope X.env).names.lookup y=some .free)->∃c,cl.lookup y=some c) (hf:∀b∈fp,Kc X pins H b) (hfo:∀b∈fp,∃o,s⁻¹ b=some o)
  (hlen:N.length=k+caps.length) (hcap:∀i j,caps[i]? = some j->abA X N scope cl (i+k) j) (hD: ~~~s<=D) (hC: ~~~s<=C) (hDC:C≠D)
  (hk:∀b o,s⁻¹ b=some o->h4.get? b=some o) (hlist:∃n,h4.get? D=some { cls:=.type "list",data:=.seq #[] n }) (hns:∃m,h4.Ns C m):
  Inv (dg X N scope cl s H fp C) (X.pn++pins) (oG σ (Qc k none) caps) (upd H D (.lst [])) { s with heap:=h4,toks:=tk }:=by
 have hnD:H D=none:=I.hok.fresh hD;have hnC:H C=none:=I.hok.fresh hC;have lt:∀b o,s⁻¹ b=some o->b≠D/\b≠C:=fun b o e=>#[cF (cY (bQ e) hD),cF (cY (bQ e) hC)];have nst:∀b,b≠X.env.locals->b∉X.fs->b∉frs X.stack:=fun b h1 h2 z=>by
  rcases aX.mp (I.Zr b z)with e|e
  ·exact h1 e
  ·exact h2 e
 show#[#[I.ok.mod,hkind,I.ok.glob,I.ok.blt,hC,fun x y c h1 h2=>I.ok.inj x y c (hsub.of h1) (hsub.of h2),fun y hy=>hhas y hy,fun y c h=>(nomatch h),I.ok.hd,I.ok.frames,.inl rfl,fun b hb=>?_,I.bs,cH I.ok.bsz I.sz,fun b o e hb=>?_,fun b hb=>?_,I.stack,I.agt],
  rfl,I.bare,Un.laid hk hD hnD,?_,fun y c e=>?_,?_,fun y c e=>?_,fun p hp=>?_,?_,?_]
 ·obtain⟨o,e⟩:=hfo b hb;show#[(lt b o e).2,fun x c q=>(hf b hb).2.2.2.2.1 x c (hsub.of q)]
 ·rcases(hf b hb).2.2.2.1 with z|z
  ·exact I.ok.amj b o e z
  ·exact mI (cY (bQ e) I.ok.bsz) (QB.mpr z)
 ·exact nst b (hf b hb).2.1 (hf b hb).2.2.1
 ·obtain⟨m,hm⟩:=hns;obtain⟨m0,_,hl⟩:=I.loc;show#[m,hm,fun i y v h1 h2 h3=>?_];have h2a:(Qc k (none:Option V)++caps.map fun j=>(σ[j]?).join)[i]? = some (some v):=h2;by_cases hik:i<k
  ·rw[PK (by rwa[Jl]),ajn,mB hik]at h2a;cases h2a
  ·rw[xZ (by rw[Jl];lia),Jl]at h2a;obtain⟨i',rfl⟩:∃i',i=i'+k:=#[i-k,by lia];rw[Nat.add_sub_cancel]at h2a;have h2':=h2a;rw[dG]at h2';cases ec:caps[i']? with
   |none=>rw[ec]at h2';cases h2'
   |some j =>
    rw[ec]at h2';have h2'':(σ[j]?).join=some v:=cA h2';have e2:σ[j]? = some (some v):=by
     cases q:σ[j]? with
     |none=>rw[q]at h2'';cases h2''
     |some z=>rw[q]at h2'';exact mM some h2''
    obtain⟨y',c,n1,n2,k1,k2,lc⟩:=(hcap i' j ec).ok;have ey:y=y':=by
     have h1':N[i'+k]? = some y:=h1;rw[n1]at h1';exact(cA h1').symm
    subst ey;have vis:Vis X.env.scope y:=k1.elim (fun z=>.inr (.inl z)) fun z=>.inr (.inr z);obtain⟨u,ru,lk⟩:=hl j y v n2 e2 vis;show#[u,ru,.inr #[k2,c,lc,?_]];rcases lk with⟨z,_⟩|⟨_,c',lc',ic⟩
    ·rcases k1 with k1|k1 <;> (rw[z]at k1;cases k1)
    ·rw[hsub.of lc]at lc';cases lc';obtain⟨o,ho,hd⟩:=ic;show#[o,hk c o ho,hd]
 ·obtain⟨v,o,ho,hd⟩:=I.cell y c (hsub.of e);show#[v,o,hk c o ho,hd]
 ·show(upd H D (.lst [])) C=none;rwa[ao hDC]
 ·have n:=I.wO y c (hsub.of e);obtain⟨v,o,ho,hd⟩:=I.cell y c (hsub.of e);rwa[ao (lt c o ho).1]
 ·have hp':p∈X.pn++pins:=hp;obtain⟨e,n,ne,nf,d⟩:=I.pin p hp';show#[hk _ _ e,by rwa[ao (lt _ _ e).1],(lt _ _ e).2,nst _ ne nf,d]
 ·obtain⟨n,e⟩:=hlist;exact I.hok.laid hk hD #[bF _,[],n,.nil,e]
 ·show(oG σ (Qc k none) caps).length=N.length;unfold oG;rw[dw,Jl,aC,hlen]
theorem Inv.am3{N:List Str}{scope:Scope}{cl:List (Str × Addr)}{fp:List Addr}{C:Addr}{agv:List (Addr × Obj)}{σ':St}{H':Hp}{s':Shared}{h':Heap}(I:Inv X pins σ H s)(hf:∀b∈fp,Kc X pins H b)(hC: ~~~s<=C)
  (I':Inv (dg X N scope cl s H fp C) agv σ' H' s') (hs:yJ C s'.heap h'):Inv X pins σ H' { s' with heap:=h' }:=by
 obtain⟨hp,g,d,t,os⟩:=s';have eo:os=s.os:=I'.os;subst eo;have ne:∀b o,s⁻¹ b=some o->b≠C:=fun b o e=>cF (cY (bQ e) hC);have hn:H' C=none:=I'.free;have B:Un (frs X.stack) fp H H' s.heap hp:=I'.base;have kp:∀b o,b≠C->hp.get? b=some o->h'.get? b=some o:=fun b o hb e=>(hs.2 b hb).trans e
 suffices r:Inv X pins σ H' { s with heap:=h',gens:=g,drawn:=d,toks:=t }from r
 refine I.call (h':=h') (g':=g) (d':=d) (t':=t) (ch:=fp) #[fun b o e n h1 h2=>kp b o (ne b o e) (B.keep b o e n h1 h2),fun b o e n h1 h2=>?_,B.free,fun b o e h2=>?_,B.tups,B.J9,B.Ra] (fun b u e=>?_) I'.bare fun b hb=>?_
 ·obtain⟨sl,q⟩:=B.slot b o e n h1 h2;show#[sl,kp b _ (ne b o e) q]
 ·obtain⟨o',q⟩:=B.there b o e h2;show#[o',kp b _ (ne b o e) q]
 ·have nb:∀c v,H' c=some v->c≠C:=fun c v q z=>by rw[z,hn]at q;cases q
  refine(I'.hok b u e).stay (fun c v hc q=>kp c v ?_ q) (fun _ q=>q) fun _ _ q=>q;rcases hc with z|z
  ·rw[z];exact nb b u e
  ·exact nb c _ z
 ·obtain⟨f0,f1,f2,f3,f4,f5⟩:=hf b hb;show#[f3,f1,f4,f5]
end
noncomputable def oH(J:It)(caps:List Nat)(tt:TT)(te:TE)(σ:St)(D:Addr)(Q:VK)(H1:Hp):Prop:=∃W:Nat->Nat->List V->Hp->Prop,(∃m,W 0 m [] (upd H1 D (.lst [])))/\∀i m ys H,W i m ys H ->
 H D=some (.lst ys)/\((J.stop i H/\Q (.ref D) H)\/(J.go i H/\ys.length<sizeLine/\∀ x H',J.yld i H x H'->tt (vO σ (some x) caps) H' fun b H2=>if b=true then
  te (vO σ (some x) caps) H2 fun y H3=>H3 D=some (.lst ys)/\∃m',m'<m/\W (i+1) m' (ys++[y]) (upd H3 D (.lst (ys++[y])))
  else H2 D=some (.lst ys)/\∃ m',m'<m/\W (i+1) m' ys H2))
noncomputable def arB(wi:TI)(caps:List Nat)(tt:TT)(te:TE):TE:=fun σ H Q=>wi σ H fun J H1=>∀D,H1 D=none->oH J caps tt te σ D Q H1
noncomputable def PTs(X:Cx)(ifs:List Expr)(tt:TT):Prop:=∀(pins:List (Addr × Obj)) (s:Shared) (σ:St) (H:Hp) (Q:Bool->Hp->Prop),Inv X pins σ H s->tt σ H Q ->
 wpAny (model X.prog X.w) X.A (forIn ifs true fun c r=>if r=true then do let ok <-Qt c X.env (eval c X.env);pure (ForInStep.yield ok)else pure (ForInStep.yield r)) (TP X pins σ Q) X.xe s
noncomputable def Gx:TT:=fun _ H Q=>Q true H
theorem Z0:PTs X [] Gx:=fun _ _ _ H _ I h=>wpAny_tests_nil #[H,I,h]
theorem lU(h:PT X c tt):PTs X [c] tt:=fun pins s σ H Q I q=>wpAny_tests_one (h pins s σ H Q I q)
section
variable{P:aK}
noncomputable def am4(P:aK)(w:World)(B:aY)(R:o8->Shared->Prop)(elt tg:Expr)(ifs:List Expr)(it acc:Value)(en:Env)(J:Nat->Shared->Prop)(n:Nat):Option Value->Shared->Prop
 |none,t1=>R (.ok .next) t1
 |some v,t1 =>
  let X:=notedBy (model P w) B en fun e t=>R (.error e) t
  wpAny (model P w) B (Yb tg it v) (fun _ t2=>wpAny (model P w) B (uX tg en v) (fun _ t3 =>
   wpAny (model P w) B (forIn ifs true fun c r=>if r=true then do let yes <- Qt c en (eval c en);pure (ForInStep.yield yes) else pure (ForInStep.yield r)) (fun yes t4 =>
    if yes=true then wpAny (model P w) B (eval elt en) (fun x t5=>wpAny (model P w) B (call (.builtin "list.append") [acc,x]) (fun _ t6=>∃m,m<n/\J m t6) X t5) X t4
    else ∃ m,m<n/\J m t4) X t3) X t2) X t1
theorem afa(J:Nat->Shared->Prop)
  (owe:∀n t,J n t->wpAny (model P w) B (lA it) (am4 P w B R elt tg ifs it acc en J n) (notedBy (model P w) B en fun e t'=>R (.error e) t') t) (n:Nat) (h:J n s):
  gO (model P w) B (.compLoop (.ListComp elt [#[tg,iter,ifs,0]] scope pos) 0 it acc en) R s:=by
 have same:∀{X:Value->Shared->Prop}(a:Value)(b:Shared),X a b->X a b:=fun _ _ h=>h;refine codeAny_loop rfl J (fun n t hJ=>?_) n h;show wpAny _ B ((compTurn (.ListComp elt [#[tg,iter,ifs,0]] scope pos) 0 it acc en).onRaise (fun x=>do noteFrame x en;theTreesLotGoes x)) _ _ t;refine wpAny_noted ?_;rw[compTurn_list];refine aB (adC (aB (iY (owe n t hJ) (fun r t1 h1=>?_) same)));cases r with
 |none=>exact aN h1
 |some v =>
  refine aB (iY h1 (fun _ t2 h2=>aB (iY h2 (fun _ t3 h3=>aB (iY h3 (fun yes t4 h4=>?_) same)) same)) same);cases yes with
  |false=>exact aN #[rfl,h4]
  |true=>exact aB (aB (iY h4 (fun x t5 h5=>aB (iY h5 (fun _ t6 h6=>aN (aN #[rfl,h6])) same)) same))
end
section
variable{X:Cx}
theorem Mt{scope:Scope}{N:List Str}{caps:List Nat}{tt:TT}{te:TE}{pins:List (Addr × Obj)}{σ:St}{H2:Hp}{s2:Shared}{Q:VK}{it:Addr}{fp:List Addr}{tn:Nat->Heap->Prop}{J:It}
  {RR:Value->Addr->o8->Shared->Prop} {E:Value->Shared->Prop} (hc:X.calm=true)
  (hcell:∀y∈scope.names,y.2≠.cell) (hkind:scope.kind=.function) (hsub:abz X.env.cells cl)
  (hhas:∀y,((mU scope X.env).names.lookup y=some .cell\/(mU scope X.env).names.lookup y=some .free)->∃c,cl.lookup y=some c)
  (hg:∀s H fp C,PG (dg X N scope cl s H fp C) tg g) (hlen:N.length=k+caps.length) (hcap:∀i j,caps[i]? = some j->abA X N scope cl (i+k) j)
  (ht:∀s H fp C,PTs (dg X N scope cl s H fp C) ifs tt) (he:∀s H fp C,PE (dg X N scope cl s H fp C) elt te)
  (I2:Inv X pins σ H2 s2) (T:Turn X.prog X.w X.K tg J fp it tn) (st2:tn 0 s2.heap) (f2:∀b∈fp,Kc X pins H2 b) (w2:∀D,H2 D=none->ug J g k caps tt te σ D Q H2)
  (hRR:∀D C σ' H' s5,~~~s2<=C->Inv (dg X N scope cl s2 H2 fp C) (X.pn++pins) σ' H' s5->Q (.ref D) H'->RR (.ref D) C (.ok .next) s5):
  wpAny (model X.prog X.w) X.A (newList []) (fun acc s₃=>wpAny (model X.prog X.w) X.A (newFunctionEnv scope X.env.globals cl [] X.env.qual none .none (some X.env)) (fun cenv s₄ =>
   gO (model X.prog X.w) X.A (.compStart (.ListComp elt [#[tg,iter,ifs,0]] scope pos) 0 (.ref it) acc { cenv with scope:=mU scope X.env }) (RR acc cenv.locals) s₄) E s₃) E s2:=by
 refine CZ (wpAny_newFunctionEnv hcell (by intro y hy;simp at hy) (fun h₁ hns₁ hsb₁=>?_) hkind);dsimp only at hns₁ hsb₁ ⊢;generalize hH2:s2.heap.push { cls:=.type "list",dict:=none,data:=.seq ([]:List Value).toArray }=G2 at hns₁ hsb₁ ⊢;have hC:G2.objs.size= ~~~s2+1:=by rw[<-hH2,Dt]
 have hCle: ~~~s2<=G2.objs.size:=by rw[hC];exact pC _
 have hDC:G2.objs.size≠ ~~~s2:=by rw[hC];exact yL (Du _)
 have old:∀b o,s2⁻¹ b=some o->h₁.get? b=some o:=fun b o e =>
  hsb₁.extBut b o (by rw[hC];exact cF (yK (bQ e))) (dH _ (hH2 ▸ dH _ e))
 have hacc:∃n,h₁.get? (~~~s2)=some { cls:=.type "list",data:=.seq #[] n }:=#[_,hsb₁.extBut _ _ (aG hDC) (dH _ (hH2 ▸ dW _ rfl))];have hnD:H2 (~~~s2)=none:=I2.hok.fresh (bC _);obtain⟨W,⟨m0,w0⟩,turn⟩:=w2 (~~~s2) hnD;have fo:∀b∈fp,∃o,s2⁻¹ b=some o:=fun b hb=>by
  obtain⟨o,e,_⟩:=T.obj _ _ st2 b hb;show#[o,e]
 have I3:Inv (dg X N scope cl s2 H2 fp G2.objs.size) (X.pn++pins) (oG σ (Qc k none) caps) (upd H2 (~~~s2) (.lst [])) { s2 with heap:=h₁,toks:=s2.toks+([]:List (Str × Value)).length }:=
  I2.compT hkind hsub hhas f2 fo hlen hcap (bC _) hCle hDC old hacc #[_,hns₁]
 have st3:tn 0 h₁:=T.keep _ _ _ st2 fun b _ o e=>old b o e;have nf:∀b∈fp,b≠ ~~~s2:=fun b hb=>by
  obtain⟨o,e⟩:=fo b hb;exact cF (bQ e)
 have stat:∀{H':Hp},(∀b∈fp,H' b=none)->∀b∈fp,Kc (dg X N scope cl s2 H2 fp G2.objs.size) (X.pn++pins) H' b:=fun {H'} hn b hb=>by
  obtain⟨f0,f1,f2',f3,f4,f5⟩:=f2 b hb;obtain⟨o,e⟩:=fo b hb;show#[hn b hb,cF (cY (bQ e) hCle),fun z=>?_,.inl hb,fun y c q=>f4 y c (hsub.of q),fun p hp=>f5 p hp];rcases aX.mp (I2.Zr b z)with q|q
  ·exact f1 q
  ·exact f2' q
 have loop:gO (model X.prog X.w) X.A (.compLoop (.ListComp elt [#[tg,iter,ifs,0]] scope pos) 0 (.ref it) (.ref (~~~s2)) (compEnvC scope cl G2.objs.size X.env))
   (RR (.ref (~~~s2)) G2.objs.size) { s2 with heap:=h₁,toks:=s2.toks+([]:List (Str × Value)).length }:=by
  refine afa (fun n s'=>∃i ys σ' H',Inv (dg X N scope cl s2 H2 fp G2.objs.size) (X.pn++pins) σ' H' s'/\(∃zs:List (Option V),zs.length=k/\σ'=oG σ zs caps)/\tn i s'.heap/\(∀b∈fp,H' b=none)/\W i n ys H') ?_ m0
   #[0,[],_,_,I3,#[_,Jl,rfl],st3,fun b hb=>by rw[ao (nf b hb)];exact(f2 b hb).1,w0]
  rintro n s' ⟨i,ys,σ',H',I',⟨zs,hzs,rfl⟩,st',fr',w'⟩;obtain⟨hl,ends⟩:=turn i n ys H' w';rcases ends with⟨stop,q⟩|⟨go,hsz,step⟩
  ·refine iY (T.done (dg X N scope cl s2 H2 fp G2.objs.size) rfl rfl rfl hc i _ s' _ H' (fun _ _=>False) I' (stat fr') st' stop) (fun r s5 zq=>?_) fun _ _ f=>f.elim;obtain⟨hr,I5⟩:=zq;subst hr;exact hRR _ _ _ _ _ hCle I5 q
  ·refine iY (T.item (dg X N scope cl s2 H2 fp G2.objs.size) rfl rfl rfl hc i _ s' _ H' (fun _ _=>False) I' (stat fr') st' go) (fun r s5 zq=>?_) fun _ _ f=>f.elim;obtain⟨u,hr,h5⟩:=zq;subst hr;refine iY h5 (fun _ s6 zq=>?_) fun _ _ f=>f.elim;obtain⟨y,H6,I6,r6,y6,st6,fr6⟩:=zq;have I6':=I6.pinned (stat fr6) (T.obj _ _ st6);have again:∀{σ7:St}{H7:Hp}{s7:Shared},Inv (dg X N scope cl s2 H2 fp G2.objs.size) ((X.pn++pins)++Rh fp s6.heap) σ7 H7 s7->tn (i+1) s7.heap/\∀b∈fp,H7 b=none:=fun {σ7 H7 s7} I7=>by
    show#[T.keep _ _ _ st6 fun b hb o e=>(I7.pin (b,o) (wK _ (wK _ (vJ hb e)))).1,fun b hb=>?_];obtain⟨o,e,d⟩:=T.obj _ _ st6 b hb;exact(I7.pin (b,o) (wK _ (wK _ (vJ hb e)))).2.1
   refine iY (hg s2 H2 fp G2.objs.size _ s6 _ H6 y u _ I6' r6 (step y H6 y6 zs hzs)) (fun _ s7 ⟨σ7,H7,I7,⟨zs7,hz7,e7⟩,q7⟩=>?_) fun _ _ f=>f.elim;subst e7;refine iY (ht s2 H2 fp G2.objs.size _ s7 _ _ _ I7 q7) (fun ok s8 zq=>?_) fun _ _ f=>f.elim;obtain⟨H8,I8,q8⟩:=zq;cases ok with
   |false =>
    obtain⟨_,m',hm,w8⟩:=q8;have a8:=again I8;show#[m',hm,i+1,ys,_,H8,I8.zm,#[zs7,hz7,rfl],a8.1,a8.2,w8]
   |true =>
    refine iY (he s2 H2 fp G2.objs.size _ s8 _ _ _ I8 q8) (fun x9 s9 zq=>?_) fun _ _ f=>f.elim;obtain⟨y9,H9,I9,r9,l9,m',hm,w9⟩:=zq;refine iY (Ww (X:=dg X N scope cl s2 H2 fp G2.objs.size) _ s9 _ H9 (.ref (~~~s2)) [y9] _ [x9] (fun _ H10=>H10=upd H9 (~~~s2) (.lst (ys++[y9]))) I9 rfl (.cons r9 .nil) #[_,ys,y9,rfl,rfl,l9,hsz,rfl]) (fun _ s10 zq=>?_) fun _ _ f=>f.elim;obtain⟨_,H10,I10,_,e10⟩:=zq;subst e10;have a10:=again I10;show#[m',hm,i+1,ys++[y9],_,_,I10.zm,#[zs7,hz7,rfl],a10.1,a10.2,w9]
 exact codeAny_compStart_list loop (T.self _ 0 _ _ _ st3 loop)
structure Es(X:Cx)(scope:Scope)(cl:List (Str × Addr))(N:List Str)(caps:List Nat)(k:Nat):Prop where
 calm:X.calm=true
 clos:closureFor scope X.env=pure cl
 cell:∀y∈scope.names,y.2≠.cell
 kind:scope.kind=.function
 names:∀y∈scope.names,y.2=.local->scope.names.lookup y.1=some .local
 sub:abz X.env.cells cl
 has:∀y,((mU scope X.env).names.lookup y=some .cell\/(mU scope X.env).names.lookup y=some .free)->∃c,cl.lookup y=some c
 len:N.length=k+caps.length
 cap:∀(i:Nat)(j:Nat),caps[i]? = some j->abA X N scope cl (i+k) j
variable{elt iter tg:Expr}{x y:Str}{px py spos:Pos}{g:TG}{k i:Nat}{ifs:List Expr}{scope:Scope}{pos:Pos}{cl:List (Str × Addr)}{N:List Str}{caps:List Nat}{wi:TI}{tt:TT}{te:TE}{R:It->St->Addr->VK->Hp->Prop}
theorem abB(O:Es X scope cl N caps k)(hg:∀s H fp C,PG (dg X N scope cl s H fp C) tg g)(hi:PI X tg iter wi)(ht:∀s H fp C,PTs (dg X N scope cl s H fp C) ifs tt)(he:∀s H fp C,PE (dg X N scope cl s H fp C) elt te)
  (hR:∀{J σ D Q H},R J σ D Q H->ug J g k caps tt te σ D Q H) (hs:∀x,yx iter X.env x=pure x):PE X (.ListComp elt [#[tg,iter,ifs,0]] scope pos) (fun σ H Q=>wi σ H fun J H1=>∀D,H1 D=none->R J σ D Q H1):=by
 intro pins s σ H Q I h;rw[eval_ListComp];refine aj0 (use:=none) rfl hs O.clos O.kind O.names (thn (hi pins s σ H _ I h) fun v s1 h1=>thn h1 fun itv s2 h2=>?_);obtain⟨it,fp,tn,J,H2,e,I2,T,st2,f2,w2⟩:=h2;subst e;exact Mt O.calm O.cell O.kind O.sub O.has hg O.len O.cap ht he I2 T st2 f2 (fun D n=>hR (w2 D n)) fun D C σ' H' s5 hC I5 q=>by
  obtain⟨m,hm,_⟩:=I5.loc;show#[m,hm,fun h' hs'=>#[.ref D,H',I2.am3 f2 hC I5 hs',rfl,q]]
theorem Mu(hXN:X.N.Nodup)(hi0:X.N[i]? = some y)(hy:Loc X.env.scope y)(O:Es X scope cl N caps k)(hg:∀s H fp C,PG (dg X N scope cl s H fp C) tg g)(hi:PI X tg iter wi)(ht:∀s H fp C,PTs (dg X N scope cl s H fp C) ifs tt)(he:∀s H fp C,PE (dg X N scope cl s H fp C) elt te)
  (hR:∀{J σ D Q H},R J σ D Q H->ug J g k caps tt te σ D Q H) (hs:∀x,yx iter X.env x=pure x) (hsw:Df (.ListComp elt [#[tg,iter,ifs,0]] scope pos) (some (.Name y py)) spos.line X.env=pure true) (hf:X.fn y=true\/X.env.scope.names.lookup y=some .local):
  PS X (.Assign [.Name y py] (.ListComp elt [#[tg,iter,ifs,0]] scope pos) spos) (ahL (fun σ H Q=>wi σ H fun J H1=>∀D,H1 D=none->R J σ D Q H1) (mF i)):=by
 intro pins s σ H D I h;rw [exec_Assign_Name_used _ _ _ _ hsw];refine aB (adC (aB ?_));show wpAny _ X.A (do let _ <- comprehension (.ListComp elt [#[tg,iter,ifs,0]] scope pos) scope X.env _ (newList []) false (eval iter X.env) (some (uX (.Name y py) X.env))) _ _ s;refine aB (iY (aj0 (use:=some (uX (.Name y py) X.env)) (Q:=fun _ s'=>SP X pins D .next s') rfl hs O.clos O.kind O.names
  (thn (hi pins s σ H _ I h) fun v s1 h1=>thn h1 fun itv s2 h2=>?_)) (fun _ s' hq=>aN (aN hq)) fun _ _ e=>e)
 obtain⟨it,fp,tn,J,H2,e,I2,T,st2,f2,w2⟩:=h2;subst e;refine Mt (RR:=fun acc C=>compPost (model X.prog X.w) X.A X.xe (some (uX (.Name y py) X.env)) (fun _ s'=>SP X pins D .next s') acc C) O.calm O.cell O.kind O.sub O.has hg O.len O.cap ht he I2 T st2 f2 (fun D n=>hR (w2 D n)) fun D' C σ' H' s5 hC I5 q=>?_;show wpAny _ X.A (uX (.Name y py) X.env (.ref D')) _ _ _;have IX:Inv X pins σ H' s5:=I2.am3 (h':=s5.heap) f2 hC I5 #[rfl,fun _ _=>rfl];have nL:C≠X.env.locals:=by
  obtain⟨m,⟨o,_,_,ho,_⟩,_⟩:=I2.loc;exact yL (cY (bQ ho) hC)
 have nC:∀z c,X.env.cells.lookup z=some c->c≠C:=fun z c e=>by
  obtain⟨v,o,ho,_⟩:=I2.cell z c e;exact cF (cY (bQ ho) hC)
 refine aj6 (Wq IX hXN hi0 hy (v:=.ref D') rfl (fun s6 I6 hb=>?_) hf);obtain⟨m,hm,_⟩:=I5.loc;obtain⟨a,sb,ha⟩:=hb;have na:C≠a:=by
  rcases ha with z|z
  ·rwa[z]
  ·exact aG (nC _ _ z)
 show#[m,hm.sameBut sb na,fun h' hs'=>#[_,H',?_,q]];obtain⟨hp6,g6,d6,t6,o6⟩:=s6;refine I6.turned (it:=C) (t':=t6) (fun b o hb e=>(hs'.2 b hb).trans e) I5.free nL (.inr (cH I2.sz hC)) nC fun p hp z=>?_;have:=(I2.pin p hp).1;exact mI (cY (bQ this) (by rwa[z])) (q9 _)
theorem oH.T(h:oH J caps tt te σ D Q H):ug J (mF 0) 1 caps tt te σ D Q H:=by
 obtain⟨W,w0,turn⟩:=h;show#[W,w0,fun i m ys H w=>?_];obtain⟨a,b⟩:=turn i m ys H w;show#[a,b.imp id fun b=>?_];obtain⟨go,l,st⟩:=b;show#[go,l,fun x H' y zs hz=>?_];obtain⟨z,rfl⟩:=List.length_eq_one_iff.mp hz;show#[#[[some x],rfl,rfl],st x H' y]
end
theorem at8{names:List (Str × Dh)}{cl:List (Str × Addr)}(h:(names.all fun p=>(p.2 != .cell && p.2 != .free) || (cl.lookup p.1).isSome)=true)(y:Str)(hy:names.lookup y=some .cell\/names.lookup y=some .free):∃c,cl.lookup y=some c:=by
 have key:∀k:Dh,(k=.cell\/k=.free)->names.lookup y=some k->∃c,cl.lookup y=some c:=fun k hk e=>by
  have m:=Xz.mp h _ (Jp e);have:(k != .cell && k != .free)=false:=by rcases hk with z|z <;> (subst z;rfl)
  rw[show((y,k):Str × Dh).2=k from rfl,this,als]at m;exact alx.mp m
 rcases hy with z|z
 ·exact key _ (.inl rfl) z
 ·exact key _ (.inr rfl) z
noncomputable def RL(X:Cx)(N:List Str)(scope:Scope)(cl:List (Str × Addr)):Nat->List Nat->Prop
 |_,[]=>True
 |i,j::r=>abA X N scope cl i j/\RL X N scope cl (i+1) r
theorem RL.at:∀{caps:List Nat}{k:Nat},RL X N scope cl k caps->∀i j,caps[i]? = some j->abA X N scope cl (i+k) j
 |[],_,_,i,j,h=>by simp at h
 |a::r,k,hc,0,j,h=>by
  have e:a=j:=by simpa using h
  subst e;rw[oE];exact hc.1
 |a::r,k,hc,i+1,j,h=>by
  have:=RL.at hc.2 i j (by simpa using h);rwa[show i+1+k=i+(k+1) by lia]
section
variable{X:Cx}{elt iter tg:Expr}{x y:Str}{px py spos:Pos}{g:TG}{k:Nat}{ifs:List Expr}{scope:Scope}{pos:Pos}{wi:TI}{tt:TT}{te:TE}
theorem Z1{cl:List (Str × Addr)}{N:List Str}{caps:List Nat}(ca:X.calm=true:=by rfl)(a:closureFor scope X.env=pure cl:=by with_unfolding_all rfl)(b:∀y∈scope.names,y.2≠.cell:=by decide +kernel)(c:scope.kind=.function:=by rfl)
  (d:∀y∈scope.names,y.2=.local->scope.names.lookup y.1=some .local:=by decide +kernel) (e:abz X.env.cells cl:=by repeat' first|exact trivial|show#[rfl,?_]) (f:((mU scope X.env).names.all fun p=>(p.2 != .cell && p.2 != .free) || (cl.lookup p.1).isSome)=true:=by with_unfolding_all rfl)
  (l:N.length=k+caps.length:=by rfl) (m:RL X N scope cl k caps:=by repeat' first|exact trivial|show#[#[_,_,rfl,rfl,.inl rfl,.inl rfl,rfl],?_]):Es X scope cl N caps k:=#[ca,a,b,c,d,e,at8 f,l,m.at]
theorem uh(cl:List (Str × Addr))(N:List Str)(caps:List Nat)(hi:PI X (.Name x px) iter wi)(ht:∀s H fp C,PTs (dg X N scope cl s H fp C) ifs tt)(he:∀s H fp C,PE (dg X N scope cl s H fp C) elt te)(O:Es X scope cl N caps 1:=by exact Z1)
  (hN:N.Nodup:=by decide +kernel) (h0:N[0]? = some x:=by rfl) (hx:(mU scope X.env).names.lookup x=some .local:=by rfl) (hs:∀x,yx iter X.env x=pure x:=by intro _;rfl):PE X (.ListComp elt [#[.Name x px,iter,ifs,0]] scope pos) (arB wi caps tt te):=
 abB O (fun _ _ _ _=>vI hN h0 (.inl hx) (.inr hx)) hi ht he oH.T hs
theorem mG(i:Nat)(hXN:X.N.Nodup)(cl:List (Str × Addr))(N:List Str)(caps:List Nat)(hi:PI X (.Name x px) iter wi)(ht:∀s H fp C,PTs (dg X N scope cl s H fp C) ifs tt)(he:∀s H fp C,PE (dg X N scope cl s H fp C) elt te)(O:Es X scope cl N caps 1:=by exact Z1)
  (hN:N.Nodup:=by decide +kernel) (h0:N[0]? = some x:=by rfl) (hx:(mU scope X.env).names.lookup x=some .local:=by rfl) (hs:∀x,yx iter X.env x=pure x:=by intro _;rfl) (hi0:X.N[i]? = some y:=by rfl) (hy:Loc X.env.scope y:=by exact Or.inl rfl)
  (hsw:Df (.ListComp elt [#[.Name x px,iter,ifs,0]] scope pos) (some (.Name y py)) spos.line X.env=pure true:=by rfl) (hf:X.fn y=true\/X.env.scope.names.lookup y=some .local:=by first|exact .inl rfl|exact .inr rfl|assumption):
  PS X (.Assign [.Name y py] (.ListComp elt [#[.Name x px,iter,ifs,0]] scope pos) spos) (ahL (arB wi caps tt te) (mF i)):=Mu hXN hi0 hy O (fun _ _ _ _=>vI hN h0 (.inl hx) (.inr hx)) hi ht he oH.T hs hsw hf
theorem ah4(k:Nat)(cl:List (Str × Addr))(N:List Str)(caps:List Nat)(hg:∀s H fp C,PG (dg X N scope cl s H fp C) tg g)(hi:PI X tg iter wi)(ht:∀s H fp C,PTs (dg X N scope cl s H fp C) ifs tt)(he:∀s H fp C,PE (dg X N scope cl s H fp C) elt te)(O:Es X scope cl N caps k:=by exact Z1)
  (hs:∀x,yx iter X.env x=pure x:=by intro _;rfl):PE X (.ListComp elt [#[tg,iter,ifs,0]] scope pos) (am2 wi g k caps tt te):=abB O hg hi ht he id hs
theorem Z2(i:Nat)(hXN:X.N.Nodup)(k:Nat)(cl:List (Str × Addr))(N:List Str)(caps:List Nat)(hg:∀s H fp C,PG (dg X N scope cl s H fp C) tg g)(hi:PI X tg iter wi)(ht:∀s H fp C,PTs (dg X N scope cl s H fp C) ifs tt)(he:∀s H fp C,PE (dg X N scope cl s H fp C) elt te)(O:Es X scope cl N caps k:=by exact Z1)
  (hs:∀x,yx iter X.env x=pure x:=by intro _;rfl) (hi0:X.N[i]? = some y:=by rfl) (hy:Loc X.env.scope y:=by exact Or.inl rfl)
  (hsw:Df (.ListComp elt [#[tg,iter,ifs,0]] scope pos) (some (.Name y py)) spos.line X.env=pure true:=by rfl) (hf:X.fn y=true\/X.env.scope.names.lookup y=some .local:=by first|exact .inl rfl|exact .inr rfl|assumption):
  PS X (.Assign [.Name y py] (.ListComp elt [#[tg,iter,ifs,0]] scope pos) spos) (ahL (am2 wi g k caps tt te) (mF i)):=Mu hXN hi0 hy O hg hi ht he id hs hsw hf
end
theorem ah5{K:aH}{xs:List V}(Pv:Nat->List V->Hp->Prop)(h0:Pv 0 [] (upd H D (.lst [])))
  (hl:∀i ys H,i<=xs.length->Pv i ys H->SqL K H a xs/\H D=some (.lst ys)/\ys.length<sizeLine)
  (hs:∀i ys H x,xs[i]? = some x->Pv i ys H->te (vO σ (some x) caps) H fun y H3=>H3 D=some (.lst ys)/\Pv (i+1) (ys++[y]) (upd H3 D (.lst (ys++[y])))) (hd:∀ys H,Pv xs.length ys H->Q (.ref D) H)
  (mono:∀σ H (Q Q':VK),(∀y H,Q y H->Q' y H)->te σ H Q->te σ H Q'):
  oH (Itl K a) caps Gx te σ D Q H:=by
 show#[fun i m ys H=>m=xs.length-i/\i<=xs.length/\Pv i ys H,#[xs.length,by simp,bF _,h0],?_];rintro i m ys H ⟨rfl,hi,p⟩;obtain⟨sq,q,z⟩:=hl i ys H hi p;show#[q,?_];by_cases hlt:i<xs.length
 ·refine .inr #[#[xs,xs[i],sq,by simp[hlt]],z,fun x H' y=>?_];obtain⟨e,y⟩:=y;subst e;unfold Gx;dsimp only;rw[mB rfl];exact mono _ _ _ _ (fun y H3 ⟨a,b⟩=>#[a,xs.length-(i+1),by lia,rfl,hlt,b]) (hs i ys _ x (y xs sq) p)
 ·have e:i=xs.length:=by lia
  subst e;exact .inl #[#[xs,sq,bC _],hd ys H p]
section
variable{X:Cx}
theorem RM{A:aY}{s:Shared}{P:Nat->Value->Prop}
  (K:ajY X.prog X.w T r d n P OK) (hh:A.handled=none) (hok:OK s.heap) (hn:n<=sizeLine) (h64:n<64) (hP:∀us:List Value,us.length=n->(∀j v,us[j]? = some v->P j v)->IntsAre us ns)
  (h:∀h' tk l out ns' e,(∀ b ob,s⁻¹ b=some ob->h'.get? b=some ob)->(∀ b ob,s⁻¹ b=some ob->b≠l)->h'.get? l=some (cR "list" out e) ->
   IntsAre out.toList ns'->ns'.Perm ns->ns'.Pairwise (· <= ·)->Q (.ref l) { s with heap:=h',toks:=tk }) :
  wpAny (model X.prog X.w) A (call (.builtin "sorted") [.ref r]) Q E s:=by
 refine aev YS YL YM (aeg _) ?_;unfold dO.«sorted»;refine aB (m:=Yo "sorted" 1 1 _) (aN ?_);refine aB (ajQ (A:=A.in1) K hh hok hn fun h1 tk acc hk hacc=>?_);have hl:acc.toList.length=n:=by rw[iQ];exact hacc.1
 have hI:=hP acc.toList hl fun j v e=>hacc.2 j v (by rwa[<-gR]);refine aB (Qm ?_ (by rwa[hl]));have hoL:(h1.push (cR "list" acc.toList.toArray 0)).get? h1.objs.size=some (cR "list" acc.toList.toArray 0):=dW _ rfl;refine aB (oX (rN YH #[_,hoL,rfl] YG (akR hoL hI (by rwa[hl]) fun out ns' a1 a2 a3=>#[_,rfl,?_]) (aec _)));refine aN #[_,rfl,?_];obtain⟨e,he⟩:=aed (vs:=acc.toList) (out:=out) hoL;have hb:∀b ob,s⁻¹ b=some ob->b<h1.objs.size:=fun b ob e'=>bQ (hk b ob e');refine h _ tk _ out ns' e (fun b ob e'=>?_) (fun b ob e'=>cF (hb b ob e')) he a1 a2 a3;have hlt:=hb b ob e';rw[aeb (cF hlt) (by rw[JK];exact yK hlt)];exact dH _ (hk b ob e')
noncomputable def am5:List V->Hp->VK->Prop:=fun xs H Q=>∃a kvs ns,xs=[V.ref a]/\Rd H a (.dK kvs)/\(kvs.map fun p=>kV p.1)=ns.map V.int/\ns.length<64 /\
 ∀(l:Addr)(ns':List Int),H l=none->ns'.Perm ns->ns'.Pairwise (· <= ·)->Q (.ref l) (upd H l (.lst (ns'.map V.int)))
noncomputable def am6(K:aH):List V->Hp->VK->Prop:=fun xs H Q=>∃a ns,xs=[V.ref a]/\SqL K H a (ns.map V.int)/\ns.length<64 /\
 ∀(l:Addr)(ns':List Int),H l=none->ns'.Perm ns->ns'.Pairwise (· <= ·)->Q (.ref l) (upd H l (.lst (ns'.map V.int)))
theorem afb(hc:X.calm=true):gU X (.builtin "sorted") am5:=by
 intro pins s σ H xs us Q I r h;obtain⟨a,kvs,ns,rfl,ha,ei,h64,q⟩:=h;obtain⟨u,rfl,ru⟩:=vals1 r;cases ru;obtain⟨z,hd,vs,rel,dd⟩:=tZ I.hok ha;obtain⟨ep,hat⟩:=dd.dictAt;have hl:=rel.length;have hns:ns.length=kvs.length:=by have:=mM jF ei;simpa using this.symm
 refine RM (X:=X) (ns:=ns) (ajW (knd:=cu X.prog X.w) (kvs:=vs) (ep:=ep) hd) (I.ok.hd hc) hat (by rwa[<-hl]) tb_g% (fun us hu hv=>?_) fun h' tk l' out ns' e' kp hne hl' hI hp ho=>?_
 ·have vv:=Aq rel hu hv;rw[ei]at vv;exact intsAre_of vv
 ·show#[.ref l',_,I.Ms (t':=tk) kp hne (show cT X.prog X.w _ h' l' (.lst (ns'.map V.int))from#[?_,out.toList,e',lH hI,by simpa using hl']),rfl,q l' ns' (I.none_of hne) hp ho];rwa[aC,hp.length_eq,hns]
theorem afc:gU X (.builtin "sorted") (am6 X.K):=by
 intro pins s σ H xs us Q I r h;obtain⟨a,ns,rfl,ha,h64,q⟩:=h;obtain⟨u,rfl,ru⟩:=vals1 r;cases ru;obtain⟨its,rv,p,hz⟩:=I.list ha;have hI:=intsAre_of rv;have hl:its.length=ns.length:=by rw[<-rv.length,aC]
 refine sorted_ints p.isList hI tb_g% fun out ns' a1 a2 a3=>?_;obtain⟨e,he⟩:=akW s.heap its out;show#[.ref (~~~s+1),_,I.laid (t':=s.toks) (fun _ _=>akU) (pC _) (show cT X.prog X.w _ _ (~~~s+1) (.lst (ns'.map V.int))from#[?_,out.toList,e,lH a1,by simpa using he]),rfl,q _ ns' (I.hok.fresh (pC _)) a2 a3];rw[aC,a2.length_eq];rwa[aC]at hz
noncomputable def at9(K:aH):List V->Hp->VK->Prop:=fun xs H Q=>am5 xs H Q\/am6 K xs H Q
theorem jX(hc:X.calm=true):gU X (.builtin "sorted") (at9 X.K):=(afb hc).or afc
end
structure Fg(K:aH)(mg:Str->Option Value)(x:Str)(s:Stmt)(f:Addr)(d:FuncData)(ps:List Str):Prop extends Fun K x x s f d where
 b:Binds K d ps []
 g:mg x=some (.ref f)
section
variable{X:Cx}{pos pos':Pos}{i:Nat}
theorem gi{l:List Str}{y:Str}(i:Nat)(h:l[i]? = some y:=by rfl):l[i]? = some y:=h
theorem cpE(h:PE X (.ListComp elt gs scope pos) te):PE X (.ListComp elt gs scope pos) te:=h
theorem cpS(h:PS X (.Assign [.Name x pos] (.ListComp elt gs scope pos') p2) t):PS X (.Assign [.Name x pos] (.ListComp elt gs scope pos') p2) t:=h
theorem cpN(h:PE X (.Name x pos) te):PE X (.Name x pos) te:=h
theorem pwB(h:PW X (.BoolOp op es pos) t):PT X (.BoolOp op es pos) t:=PW.pt h
structure Hold(p:Prop):Prop where
 h:p
theorem hdA(h:Hold (OpR X (jH .Add) r)):OpR X (jH .Add) r:=h.h
theorem hdE(h:Hold (OpR X (gq .Eq) r)):OpR X (gq .Eq) r:=h.h
theorem hdM(h:Hold (PE X (.Call (.Attribute o m pos) es kw pos') te)):PE X (.Call (.Attribute o m pos) es kw pos') te:=h.h
theorem psS(i:Nat)(hN:X.N.Nodup)(he:PE X e te)(hi:X.N[i]? = some x:=by rfl)(hx:Loc X.env.scope x:=by exact Or.inl rfl)(hs:Df e (some (.Name x pos')) pos.line X.env=pure false:=by rfl)(hf:X.fn x=true\/X.env.scope.names.lookup x=some .local:=by first|exact .inl rfl|exact .inr rfl|assumption):
  PS X (.Assign [.Name x pos'] e pos) (ahL te (mF i)):=Zw hN hi hx he hs hf
theorem pgN(i:Nat)(hN:X.N.Nodup)(hi:X.N[i]? = some x:=by rfl)(hx:Loc X.env.scope x:=by exact Or.inl rfl)(hf:X.fn x=true\/X.env.scope.names.lookup x=some .local:=by first|exact .inl rfl|exact .inr rfl|assumption):PG X (.Name x pos) (mF i):=vI hN hi hx hf
theorem pf(i:Nat){f:Str}(hN:X.N[i]? = some x:=by rfl)(hv:Vis X.env.scope x:=by first|exact Or.inl rfl|exact Or.inr (Or.inl rfl)|exact Or.inr (Or.inr rfl))(hd:(x == ("__debug__" : Str))=false:=by decide)(hcd:(x == ("__classdict__" : Str))=false:=by decide)
  (hb:yC (.Name x pos) f X.env (eval (.Name x pos) X.env)=eval (.Name x pos) X.env:=by rfl):PE X (.Attribute (.Name x pos) f pos') (amz X.K (tVar i) f):=atN (pv i hN hv hd hcd) hb
end
noncomputable abbrev FnK(P:aK)(w:World)(base:Heap){K:aH}{mg:Str->Option Value}{x:Str}{s:Stmt}{f:Addr}{d:FuncData}{ps:List Str}(_:Fg K mg x s f d ps)(CX:CXT)(k:Nat)(sp:Sp):Prop:=Fg K mg x s f d ps/\tX P w K mg base CX k f d ps sp
structure Mg(K:aH)(C:Addr)(n q:Str)(s:Stmt)(f:Addr)(d:FuncData)(ps:List Str):Prop extends Fun K n q s f d where
 b:Binds K d ps []
 m:Meth K C n f
noncomputable abbrev FnM(P:aK)(w:World)(mg:Str->Option Value)(base:Heap){K:aH}{C:Addr}{n q:Str}{s:Stmt}{f:Addr}{d:FuncData}{ps:List Str}(_:Mg K C n q s f d ps)(CX:CXT)(k:Nat)(sp:Sp):Prop:=Mg K C n q s f d ps/\tX P w K mg base CX k f d ps sp
section
variable{X:Cx}{x m n q:Str}{pos apos pos':Pos}{e o:Expr}{es:List Expr}{ta:TE}{t:TA}{CX:CXT}{k:Nat}{C f:Addr}{fd:FuncData}{ps:List Str}{sp:Sp}{E:XK}{s:Stmt}
theorem aD(F:Fg X.K X.mg x s f fd ps/\tX X.prog X.w X.K X.mg X.base CX k f fd ps sp)(ha:PA X (e::es) t)(hr:ig k X.A:=by exact ig.mono (by assumption) tb_g%)(hx:Passes CX X E:=by first|exact Gu|exact am7|exact arC|exact am8)
  (hg:Gl X x:=by rfl) (hdb:(x == ("__debug__" : Str))=false:=by decide) (he:cD (e::es) X.env=(false,eval e X.env)::cD es X.env:=by rfl) (hpl:(fV pos (cD es X.env)).any (·.1)=false:=by rfl):
  PE X (.Call (.Name x pos') (e::es) [] pos) (amB sp [] E t):=apC F.2 hr hg F.1.g F.1.kp F.1.b .nil hx ha hdb he hpl
theorem aU{pl:Sem Bool}(ho:PE X o ta)(c:Cls X.K C)(F:Mg X.K C m q s f fd ps/\tX X.prog X.w X.K X.mg X.base CX k f fd ps sp)(ha:PA X (e::es) t)(hr:ig k X.A:=by exact ig.mono (by assumption) tb_g%)(hx:Passes CX X E:=by first|exact Gu|exact am7|exact arC|exact am8)
  (hst:cD (e::es) X.env=(false,eval e X.env)::cD es X.env:=by rfl) (hpl:(fV pos (cD es X.env)).any (·.1)=false:=by rfl)
  (ht:eval (.Call (.Attribute o m apos) (e::es) [] pos) X.env=(do
   let ov <-eval o X.env
   Qs apos.atName
   let (f,first) <-yG [ov] (Qp ov m pl)
   adU pos f first (fV pos (cD (e::es) X.env)) (Jz pos (Jw [] X.env))):=by rfl) :
  PE X (.Call (.Attribute o m apos) (e::es) [] pos) (amC C m sp [] E ta t):=apD ho c F.1.m F.2 hr F.1.b .nil hx ha hst hpl ht
theorem gF(hk:Mk X.K C f)(hm:X.mg x=some (.ref C))(F:Mg X.K C n q s f fd ps/\tX X.prog X.w X.K X.mg X.base CX k f fd ps sp)(ha:PA X (e::es) t)(hr:ig (k+1) X.A:=by exact ig.mono (by assumption) tb_g%)(hx:Passes CX X E:=by first|exact Gu|exact am7|exact arC|exact am8)
  (hg:Gl X x:=by rfl) (hdb:(x == ("__debug__" : Str))=false:=by decide) (he:cD (e::es) X.env=(false,eval e X.env)::cD es X.env:=by rfl) (hpl:(fV pos (cD es X.env)).any (·.1)=false:=by rfl):
  PE X (.Call (.Name x pos') (e::es) [] pos) (arq C sp [] E t):=apE hk F.2 hr hg hm F.1.b .nil hx ha hdb he hpl
end
end L2
namespace Tm
open PySem PyProof.Rows
class Rk where
 kd:SortKind
 R:Keyed->Int
 Ok:Keyed->Prop
class Rl [Rk] (prog:aK) (w:World) (A:aY) (E:Value->Shared->Prop) (s:Shared):Prop where
 lt:∀{x y:Keyed}{st:SortSt}{Q:Option Bool->SortSt->Prop},kindOf st=Rk.kd->Rk.Ok x->Rk.Ok y->Q (some (decide (Rk.R x<Rk.R y))) st->wpS (model prog w) A E s (lt' x y) Q st
section
variable[Rk]
noncomputable def K(xs:Array Keyed)(i:Nat):Int:=match xs[i]? with
 |some x=>Rk.R x
 |none=>0
noncomputable def kd0:SortKind:=Rk.kd
noncomputable def Is(x:Keyed)(n:Int):Prop:=Rk.Ok x/\Rk.R x=n
noncomputable def SortedTo(xs:Array Keyed)(k:Nat):Prop:=∀i j,i<=j->j<k->K xs i<=K xs j
noncomputable def IntKeys(xs:Array Keyed):Prop:=∀x,x∈xs.toList->Rk.Ok x
structure SBase(a₀:Array Keyed)(st:SortSt):Prop where
 perm:(arrOf st).Perm a₀
 kind:kindOf st=kd0
 failed:pD st=none
 pend:cZ st=#[]
theorem SBase.size{a₀:Array Keyed}{st:SortSt}(h:SBase a₀ st):(arrOf st).size=a₀.size:=h.perm.size_eq
theorem K_congr(h:xs[i]? = ys[j]?):K xs i=K ys j:=by unfold K;rw[h]
theorem K_bubble{xs:Array Keyed}(hs:src<xs.size)(hd:d<=src)(k:Nat):
  K (bubble xs src d) k=if k=src-d then K xs src else if src-d<k/\k<=src then K xs (k-1)else K xs k:=by
 have e:=akQ hs d hd k;split at e
 ·rename_i h;rw[mB h];exact K_congr e
 ·rename_i h;rw[mw h];split at e
  ·rename_i h';rw[mB h'];exact K_congr e
  ·rename_i h';rw[mw h'];exact K_congr e
theorem K_mirror{xs:Array Keyed}(hj:j<=xs.size)(k:Nat):K (DQ xs i j ((j-i) / 2)) k=if i<=k/\k<j then K xs (i+j-1-k)else K xs k:=by
 have e:=QC (i:=i) hj k;split at e
 ·rename_i h;rw[mB h];exact K_congr e
 ·rename_i h;rw[mw h];exact K_congr e
theorem K_mirror_equal{xs:Array Keyed}(hj:j<=xs.size)(heq:∀k,i<=k->k<j->K xs k=K xs (j-1))(k:Nat):K (DQ xs i j ((j-i) / 2)) k=K xs k:=by
 rw[K_mirror hj];split
 ·rw[heq _ tb_g% tb_g%,heq k tb_g% tb_g%]
 ·rfl
noncomputable def gal:Bool->Keyed->Array Keyed->Nat->Nat->Nat->StateT SortSt Sem (Option Nat):=sortPriv% PySem.Builtin.gallop
section
variable{prog:aK}{w:World}{A:aY}{E:Value->Shared->Prop}{s:Shared}[Rl prog w A E s]
theorem RN{st:SortSt}{a b:Int}{x y:Keyed}{Q:Option Bool->SortSt->Prop}(hk:kindOf st=kd0)(h:Q (some (decide (a<b))) st)(hx:Is x a:=by assumption)(hy:Is y b:=by assumption):
  wpS (model prog w) A E s (lt' x y) Q st:=Rl.lt hk hx.1 hy.1 (by rwa[hx.2,hy.2])
theorem cP{st:SortSt}{arr:Array Keyed}{i:Nat}{x:Keyed}{Q:Keyed->SortSt->Prop}(hi:arr[i]? = some x)(h:Q x st):wpS (model prog w) A E s (elem' arr i) Q st:=by
 rw[elem'_eq,hi];exact aR h
noncomputable def bey(left:Bool)(key:Int)(arr:Array Keyed)(i:Nat):Bool:=if left then decide (K arr i<key)else !decide (key<K arr i)
noncomputable def Ints(arr:Array Keyed)(a b:Nat):Prop:=∀i,a<=i->i<b->∃(u:Keyed) (_:Is u (K arr i)),arr[i]? = some u
theorem apV{left:Bool}{key:Int}{y:Keyed}{arr:Array Keyed}{i:Nat}{st:SortSt}{u:Keyed}{Q:Option Bool->SortSt->Prop}(hk:kindOf st=kd0)(hy:Is y key)(hu:Is u (K arr i))(hi:arr[i]? = some u)(h:Q (some (bey left key arr i)) st):
  wpS (model prog w) A E s (do
   let x <-elem' arr i
   if left=true then lt' x y else do
    let r <-lt' y x
    pure (Zb (fun x=>!x) r)) Q st:=by
 refine aL (cP hi ?_);unfold bey at h;cases left with
 |true=>exact RN hk h
 |false=>exact aL (RN hk (aR h))
theorem afd{left:Bool}{key:Int}{y:Keyed}{arr:Array Keyed}{base n hint:Nat}{st:SortSt}{Q:Option Nat->SortSt->Prop}(hk:kindOf st=kd0)(hI:Ints arr base (base+n))(hh:hint<n)
  (hm:∀i j,i<=j->j<n->bey left key arr (base+j)=true->bey left key arr (base+i)=true)
  (h:∀k,k<=n->(∀i,i<k->bey left key arr (base+i)=true)->(∀i,k<=i->i<n->bey left key arr (base+i)=false)->Q (some k) st) (hy:Is y key:=by assumption):
  wpS (model prog w) A E s (gal left y arr base n hint) Q st:=by
 have ask:∀ i,i<n->∀ {Q:Option Bool->SortSt->Prop},Q (some (bey left key arr (base+i))) st->wpS (model prog w) A E s (do
   let x <-elem' arr (base+i)
   if left=true then lt' x y else do
    let r <-lt' y x
    pure (Zb (fun x=>!x) r)) Q st:=fun i hi {Q} hQ=>by
  obtain⟨u,q,e⟩:=hI (base+i) tb_g% tb_g%;exact apV hk hy q e hQ
 have up:∀i j,i<=j->j<n->bey left key arr (base+i)=false->bey left key arr (base+j)=false:=fun i j hij hj hf=>by
  cases e:bey left key arr (base+j)with
  |false=>rfl
  |true=>rw[hm i j hij hj e]at hf;cases hf
 refine aL (ask hint hh ?_);dsimp only;cases hb:bey left key arr (base+hint)with
 |true =>
  rw [mB rfl];refine aL (fC (kW (I:=fun x c st'=>st'=st/\∃ lastofs ofs,c=(none,lastofs,ofs)/\lastofs<ofs/\x+1<=ofs/\(lastofs=0\/hint+lastofs<n)/\bey left key arr (base+(hint+lastofs))=true)
   (Q:=fun c st'=>st'=st/\∃ lastofs ofs,c=(none,lastofs,ofs)/\lastofs<ofs/\(lastofs=0\/hint+lastofs<n)/\bey left key arr (base+(hint+lastofs))=true/\(n-hint<=ofs\/(hint+ofs<n/\bey left key arr (base+(hint+ofs))=false))) ?_ ?_ #[rfl,0,1,rfl,by lia,by lia,.inl rfl,hb]) ?_)
  ·rintro x c st' _ hx ⟨rfl,la,of,rfl,h1,h2,h3,h4⟩;dsimp only;by_cases hge:of>=n-hint
   ·rw[mB hge];exact aR #[rfl,la,of,rfl,h1,h3,h4,.inl hge]
   ·rw[mw hge];refine aL (ask (hint+of) tb_g% ?_);dsimp only;cases hb2:bey left key arr (base+(hint+of))with
    |false=>exact aR #[rfl,la,of,rfl,h1,h3,h4,.inr #[by lia,hb2]]
    |true=>exact aR #[rfl,of,2*of+1,rfl,by lia,by lia,.inr tb_g%,hb2]
  ·rintro c st' ⟨rfl,la,of,rfl,h1,h2,h3,h4⟩;show#[rfl,la,of,rfl,h1,h3,h4,.inl tb_g%]
  ·rintro c st' ⟨rfl,la,of,rfl,h1,h3,h4,h5⟩;dsimp only;have lo1:∀i,i<hint+la+1->bey left key arr (base+i)=true:=fun i hi=>hm i (hint+la) tb_g% tb_g% h4;have hi1:∀i,hint+min of (n-hint)<=i->i<n->bey left key arr (base+i)=false:=fun i h6 h7=>by
    rcases h5 with z|⟨z,z'⟩
    ·lia
    ·exact up (hint+of) i tb_g% h7 z'
   have le1:hint+la+1<=hint+min of (n-hint):=by lia
   have le2:hint+min of (n-hint)<=n:=by lia
   generalize hint+la+1=lo at lo1 le1 ⊢;generalize hint+min of (n-hint)=hi at hi1 le1 le2 ⊢;refine aL (fC (kW (I:=fun x c s2=>s2=st'/\∃ lo hi,c=(none,lo,hi)/\lo<=hi/\hi<=n/\(hi-lo<=n-x)/\(∀ i,i<lo->bey left key arr (base+i)=true)/\∀ i,hi<=i->i<n->bey left key arr (base+i)=false)
    (Q:=fun c s2=>s2=st'/\∃ lo hi,c=(none,lo,hi)/\lo=hi/\hi<=n/\(∀ i,i<lo->bey left key arr (base+i)=true)/\∀ i,hi<=i->i<n->bey left key arr (base+i)=false) ?_ ?_ #[rfl,lo,hi,rfl,le1,le2,by lia,lo1,hi1]) ?_)
   ·rintro x c s2 _ hx ⟨rfl,lo,hi,rfl,g1,g2,g3,g4,g5⟩;dsimp only;by_cases hge:lo>=hi
    ·rw[mB hge];exact aR #[rfl,lo,hi,rfl,by lia,g2,g4,g5]
    ·rw[mw hge];refine aL (ask (lo+(hi-lo) / 2) tb_g% ?_);dsimp only;cases hb2:bey left key arr (base+(lo+(hi-lo) / 2))with
     |true=>exact aR #[rfl,lo+(hi-lo) / 2+1,hi,rfl,by lia,g2,by lia,fun i hi'=>hm i (lo+(hi-lo) / 2) tb_g% tb_g% hb2,g5]
     |false=>exact aR #[rfl,lo,lo+(hi-lo) / 2,rfl,by lia,by lia,by lia,g4,fun i h6 h7=>up (lo+(hi-lo) / 2) i h6 h7 hb2]
   ·rintro c s2 ⟨rfl,lo,hi,rfl,g1,g2,g3,g4,g5⟩;show#[rfl,lo,hi,rfl,by lia,g2,g4,g5]
   ·rintro c s2 ⟨rfl,lo,hi,rfl,rfl,g2,g4,g5⟩;exact aR (h lo g2 g4 g5)
 |false =>
  rw [mw tb_g%];refine aL (fC (kW (I:=fun x c st'=>st'=st/\∃ lastofs ofs,c=(none,lastofs,ofs)/\lastofs<ofs/\x+1<=ofs/\lastofs<=hint/\bey left key arr (base+(hint-lastofs))=false)
   (Q:=fun c st'=>st'=st/\∃ lastofs ofs,c=(none,lastofs,ofs)/\lastofs<ofs/\lastofs<=hint/\bey left key arr (base+(hint-lastofs))=false/\(hint+1<=ofs\/bey left key arr (base+(hint-ofs))=true)) ?_ ?_ #[rfl,0,1,rfl,by lia,by lia,by lia,hb]) ?_)
  ·rintro x c st' _ hx ⟨rfl,la,of,rfl,h1,h2,h3,h4⟩;dsimp only;by_cases hge:of>=hint+1
   ·rw[mB hge];exact aR #[rfl,la,of,rfl,h1,h3,h4,.inl hge]
   ·rw[mw hge];refine aL (ask (hint-of) tb_g% ?_);dsimp only;cases hb2:bey left key arr (base+(hint-of))with
    |true=>exact aR #[rfl,la,of,rfl,h1,h3,h4,.inr hb2]
    |false=>exact aR #[rfl,of,2*of+1,rfl,by lia,by lia,by lia,hb2]
  ·rintro c st' ⟨rfl,la,of,rfl,h1,h2,h3,h4⟩;show#[rfl,la,of,rfl,h1,h3,h4,.inl tb_g%]
  ·rintro c st' ⟨rfl,la,of,rfl,h1,h3,h4,h5⟩;dsimp only;have lo1:∀i,i<hint+1-min of (hint+1)->bey left key arr (base+i)=true:=fun i hi=>by
    rcases h5 with z|z
    ·lia
    ·exact hm i (hint-of) tb_g% tb_g% z
   have hi1:∀i,hint-la<=i->i<n->bey left key arr (base+i)=false:=fun i h6 h7=>up (hint-la) i h6 h7 h4;have le1:hint+1-min of (hint+1)<=hint-la:=by lia
   have le2:hint-la<=n:=by lia
   generalize hint+1-min of (hint+1)=lo at lo1 le1 ⊢;generalize hint-la=hi at hi1 le1 le2 ⊢;refine aL (fC (kW (I:=fun x c s2=>s2=st'/\∃ lo hi,c=(none,lo,hi)/\lo<=hi/\hi<=n/\(hi-lo<=n-x)/\(∀ i,i<lo->bey left key arr (base+i)=true)/\∀ i,hi<=i->i<n->bey left key arr (base+i)=false)
    (Q:=fun c s2=>s2=st'/\∃ lo hi,c=(none,lo,hi)/\lo=hi/\hi<=n/\(∀ i,i<lo->bey left key arr (base+i)=true)/\∀ i,hi<=i->i<n->bey left key arr (base+i)=false) ?_ ?_ #[rfl,lo,hi,rfl,le1,le2,by lia,lo1,hi1]) ?_)
   ·rintro x c s2 _ hx ⟨rfl,lo,hi,rfl,g1,g2,g3,g4,g5⟩;dsimp only;by_cases hge:lo>=hi
    ·rw[mB hge];exact aR #[rfl,lo,hi,rfl,by lia,g2,g4,g5]
    ·rw[mw hge];refine aL (ask (lo+(hi-lo) / 2) tb_g% ?_);dsimp only;cases hb2:bey left key arr (base+(lo+(hi-lo) / 2))with
     |true=>exact aR #[rfl,lo+(hi-lo) / 2+1,hi,rfl,by lia,g2,by lia,fun i hi'=>hm i (lo+(hi-lo) / 2) tb_g% tb_g% hb2,g5]
     |false=>exact aR #[rfl,lo,lo+(hi-lo) / 2,rfl,by lia,by lia,by lia,g4,fun i h6 h7=>up (lo+(hi-lo) / 2) i h6 h7 hb2]
   ·rintro c s2 ⟨rfl,lo,hi,rfl,g1,g2,g3,g4,g5⟩;show#[rfl,lo,hi,rfl,by lia,g2,g4,g5]
   ·rintro c s2 ⟨rfl,lo,hi,rfl,rfl,g2,g4,g5⟩;exact aR (h lo g2 g4 g5)
end
noncomputable def Srt(xs:Array Keyed)(a b:Nat):Prop:=∀i j,a<=i->i<=j->j<b->K xs i<=K xs j
structure Within(xs ys:Array Keyed)(a b:Nat):Prop where
 perm:ys.Perm xs
 out:∀i,i<a\/b<=i->ys[i]? = xs[i]?
theorem Within.refl(xs:Array Keyed)(a b:Nat):Within xs xs a b:=#[aeB _,fun _ _=>rfl]
theorem Within.trans(h:Within xs ys a b)(h':Within ys zs a b):Within xs zs a b:=#[h'.perm.trans h.perm,fun i hi=>(h'.out i hi).trans (h.out i hi)]
theorem Within.wide(h:Within xs ys a b)(ha:a'<=a)(hb:b<=b'):Within xs ys a' b':=#[h.perm,fun i hi=>h.out i tb_g%]
theorem Et(h0:IntKeys xs){i:Nat}(hi:i<xs.size):∃(t:Keyed) (_:Is t (K xs i)),xs[i]? = some t:=by
 have e:xs[i]? = some xs[i]:=getElem?_pos _ i hi;show#[xs[i],#[h0 xs[i] (by simp),?_],e];unfold K;rw[e]
theorem Az{xs ys:Array Keyed}(h:IntKeys xs)(p:ys.Perm xs):IntKeys ys:=fun q hq=>h q ((aen.mp p).mem_iff.mp hq)
section
variable{prog:aK}{w:World}{A:aY}{E:Value->Shared->Prop}{s:Shared}[Rl prog w A E s]
theorem Km{st:SortSt}{i j:Nat}{Q:Option Bool->SortSt->Prop}(hk:kindOf st=kd0)(h0:IntKeys (arrOf st))(hi:i<(arrOf st).size)(hj:j<(arrOf st).size)
  (h:Q (some (decide (K (arrOf st) i<K (arrOf st) j))) st):wpS (model prog w) A E s (ltAt' i j) Q st:=by
 obtain⟨t,p,e1⟩:=Et h0 hi;obtain⟨u,q,e2⟩:=Et h0 hj;rw[ltAt'_eq];refine aL (rT ?_);show wpS _ _ _ _ (do let x <-elem' (arrOf st) i;let y <-elem' (arrOf st) j;lt' x y) Q st;rw[elem'_eq,elem'_eq,e1,e2];refine aL (aR (aL (aR ?_)));exact RN hk h
theorem am9{lo n ok:Nat}{st:SortSt}{Q:Bool->SortSt->Prop}(hk:kindOf st=kd0)(h0:IntKeys (arrOf st))(hz:lo+n<=(arrOf st).size)(hok:ok<=n)(hs:Srt (arrOf st) lo (lo+ok))
  (h:∀ys,Within (arrOf st) ys lo (lo+n)->Srt ys lo (lo+n)->Q true (d8 st ys)):wpS (model prog w) A E s (binarySort' lo n ok) Q st:=by
 have hs1:Srt (arrOf st) lo (lo+max ok 1):=fun i j h1 h2 h3=>by
  by_cases e:j<lo+ok
  ·exact hs i j h1 h2 e
  ·have:i=j:=by lia
   rw[this];exact bR _
 refine aL (fC (kW (I:=fun k c st'=>c=(none,())/\∃ ys,st'=d8 st ys/\Within (arrOf st) ys lo (lo+n)/\Srt ys lo (lo+k))
  (Q:=fun c st'=>c=(none,())/\∃ ys,st'=d8 st ys/\Within (arrOf st) ys lo (lo+n)/\Srt ys lo (lo+n)) ?_ ?_ #[rfl,arrOf st,rfl,Within.refl _ _ _,hs1]) ?_)
 ·rintro k c st' hk1 hk2 ⟨rfl,ys,rfl,hw,hsr⟩;have sz:ys.size=(arrOf st).size:=hw.perm.size_eq;have hi0:IntKeys ys:=Az h0 hw.perm;dsimp only;refine aL (fC (kW (I:=fun x c st'=>st'=d8 st ys/\∃ l r,c=(none,l,r)/\l<=r/\r<=k/\r-l<=k-x/\(∀ i,i<l->K ys (lo+i)<=K ys (lo+k))/\∀ i,r<=i->i<k->K ys (lo+k)<K ys (lo+i))
   (Q:=fun c st'=>st'=d8 st ys/\∃ l r,c=(none,l,r)/\l=r/\r<=k/\(∀ i,i<l->K ys (lo+i)<=K ys (lo+k))/\∀ i,r<=i->i<k->K ys (lo+k)<K ys (lo+i)) ?_ ?_ #[rfl,0,k,rfl,bF _,bC _,by lia,fun i hi=>by lia,fun i h1 h2=>by lia]) ?_)
  ·rintro x c st' _ hx ⟨rfl,l,r,rfl,g1,g2,g3,g4,g5⟩;dsimp only;by_cases hge:l>=r
   ·rw[mB hge];exact aR #[rfl,l,r,rfl,by lia,g2,g4,g5]
   ·rw[mw hge];refine aL (Km (st:=d8 st ys) hk hi0 (by show lo+k<ys.size;lia) (by show lo+(l+r) / 2<ys.size;lia) ?_);dsimp only;show wpS _ _ _ _ (if decide (K ys (lo+k)<K ys (lo+(l+r) / 2))=true then _ else _) _ _;by_cases hl:K ys (lo+k)<K ys (lo+(l+r) / 2)
    ·rw[mB (mN hl)];refine aR #[rfl,l,(l+r) / 2,rfl,by lia,by lia,by lia,g4,fun i h1 h2=>?_];exact ak2 hl (hsr (lo+(l+r) / 2) (lo+i) tb_g% tb_g% tb_g%)
    ·rw[mw (by simpa using hl)];refine aR #[rfl,(l+r) / 2+1,r,rfl,by lia,g2,by lia,fun i h1=>?_,g5];exact gn (hsr (lo+i) (lo+(l+r) / 2) tb_g% tb_g% tb_g%) (jM.mp hl)
  ·rintro c st' ⟨rfl,l,r,rfl,g1,g2,g3,g4,g5⟩;show#[rfl,l,r,rfl,by lia,g2,g4,g5]
  ·rintro c st' ⟨rfl,l,r,rfl,rfl,g2,g4,g5⟩;dsimp only;show wpS _ _ _ _ (moveDown' (lo+k) (lo+l) >>= _) _ _;rw[moveDown'_eq];refine aL (mW (aR #[rfl,bubble ys (lo+k) (lo+k-(lo+l)),rfl,hw.trans #[bubble_perm _ _ _,fun i hi=>?_],fun i j h1 h2 h3=>?_]))
   ·rw[akQ tb_g% _ tb_g%,mw tb_g%,mw tb_g%]
   ·rw[K_bubble tb_g% tb_g%,K_bubble tb_g% tb_g%];have e:lo+k-(lo+k-(lo+l))=lo+l:=by lia
    rw[e];by_cases a1:i=lo+l
    ·rw[mB a1];by_cases b1:j=lo+l
     ·rw[mB b1];exact bR _
     ·rw[mw b1,mB tb_g%];have:=g5 (j-1-lo) tb_g% tb_g%;rw[show lo+(j-1-lo)=j-1 by lia]at this;exact jt this
    ·rw[mw a1];by_cases a2:lo+l<i/\i<=lo+k
     ·rw[mB a2,mw tb_g%,mB tb_g%];exact hsr (i-1) (j-1) tb_g% tb_g% tb_g%
     ·rw[mw a2];by_cases b1:j=lo+l
      ·rw[mB b1];have:=g4 (i-lo) tb_g%;rwa[show lo+(i-lo)=i by lia]at this
      ·rw[mw b1];by_cases b2:lo+l<j/\j<=lo+k
       ·rw[mB b2];exact hsr i (j-1) tb_g% tb_g% tb_g%
       ·rw[mw b2];exact hsr i j tb_g% tb_g% tb_g%
 ·rintro c st' ⟨rfl,ys,rfl,hw,hsr⟩;show#[rfl,ys,rfl,hw,?_];by_cases hn:n=0
  ·intro i j h1 h2 h3;lia
  ·rwa[show max (max ok 1) n=n by lia]at hsr
 ·rintro c st' ⟨rfl,ys,rfl,hw,hsr⟩;exact aR (h ys hw hsr)
theorem apW{lo nrem:Nat}{st:SortSt}{Q:Option Nat->SortSt->Prop}(hk:kindOf st=kd0)(h0:IntKeys (arrOf st))(hz:lo+nrem<=(arrOf st).size)(h1:1<=nrem)
  (h:∀n ys,1<=n->n<=nrem->(∀q,q<=nrem->Srt (arrOf st) lo (lo+q)->q<=n)->Within (arrOf st) ys lo (lo+nrem)->Srt ys lo (lo+n)->Q (some n) (d8 st ys)):wpS (model prog w) A E s (countRun' lo nrem) Q st:=by
 refine aL (fC (kW (I:=fun x c st'=>st'=st/\c=(none,x)/\Srt (arrOf st) lo (lo+x))
  (Q:=fun c st'=>st'=st/\∃ n,c=(none,n)/\1<=n/\n<=nrem/\Srt (arrOf st) lo (lo+n)/\(n<nrem->K (arrOf st) (lo+n)<K (arrOf st) (lo+n-1))) ?_ ?_ #[rfl,rfl,fun i j g1 g2 g3=>by
   have:i=j:=by lia
   rw [this];exact bR _]) ?_)
 ·rintro x c st' hx1 hx2 ⟨rfl,rfl,hs⟩;dsimp only;refine aL (Km hk h0 tb_g% tb_g% ?_);dsimp only;by_cases hl:K (arrOf st') (lo+x)<K (arrOf st') (lo+x-1)
  ·rw[mB (mN hl)];exact aR #[rfl,x,rfl,hx1,by lia,hs,fun _=>hl]
  ·rw[mw (by simpa using hl)];refine aR #[rfl,rfl,fun i j g1 g2 g3=>?_];by_cases e:j<lo+x
   ·exact hs i j g1 g2 e
   ·have ej:j=lo+x:=by lia
    subst ej;by_cases e2:i=lo+x
    ·rw[e2];exact bR _
    ·exact gn (hs i (lo+x-1) g1 tb_g% tb_g%) (jM.mp hl)
 ·rintro c st' ⟨rfl,rfl,hs⟩;rw[show max 1 nrem=nrem by lia]at hs ⊢;show#[rfl,nrem,rfl,h1,bC _,hs,fun z=>mI z (q9 _)]
 ·rintro c st' ⟨rfl,n,rfl,n1,n2,hs,hlt⟩
  k_dat (r0,hr0) "a"
  subst hr0
  k_dat (n0,hn0) "a"
  subst hn0;have hq0:∀q,q<=nrem->Srt (arrOf st') lo (lo+q)->q<=n0:=fun q g1 g2=>QB.mp fun z=>by
   have:=hlt tb_g%;have:=g2 (lo+n0-1) (lo+n0) tb_g% tb_g% tb_g%;lia
  show wpS _ _ _ _ (if(n0 == nrem)=true then _ else _) Q st';by_cases hn:n0=nrem
  ·rw[mB (by simpa using hn)];exact aR (h n0 (arrOf st') n1 n2 hq0 (Within.refl _ _ _) hs)
  rw[mw (by simpa using hn)];have hlt':=hlt tb_g%
  k_dat (jp,hjp) "a"
  have key:∀(u:PUnit)(ys:Array Keyed),Within (arrOf st') ys lo (lo+nrem)->(∀i,lo<=i->i<lo+n0->K ys i=K ys (lo+n0-1))->K ys (lo+n0)<K ys (lo+n0-1)->wpS (model prog w) A E s (jp u) Q (d8 st' ys):=by
   intro u ys hw heq hless;rw[hjp];refine aL (DN (oY #[rfl,?_]))
   k_dat (n,hn') "a"
   k_dat (neq,hneq) "a"
   subst hneq;refine aL (fC (kW (I:=fun x c st2=>∃ zs q,c=(none,x,q)/\st2=d8 st' zs/\Within (arrOf st') zs lo (lo+nrem)/\q+1<x/\(∀ i j,lo<=i->i<=j->j<lo+x->K zs j<=K zs i)/\(∀ i,lo+x-(q+1)<=i->i<lo+x->K zs i=K zs (lo+x-1)))
    (Q:=fun c st2=>∃ zs x q,c=(none,x,q)/\n<=x/\x<=nrem/\st2=d8 st' zs/\Within (arrOf st') zs lo (lo+nrem)/\q+1<x/\(∀ i j,lo<=i->i<=j->j<lo+x->K zs j<=K zs i)/\(∀ i,lo+x-(q+1)<=i->i<lo+x->K zs i=K zs (lo+x-1))) ?_ ?_ ?_) ?_)
   ·rintro x c st2 hx1 hx2 ⟨zs,q,rfl,rfl,w2,q1,q2,q3⟩;have sz:zs.size=(arrOf st').size:=w2.perm.size_eq;have hi0:IntKeys zs:=Az h0 w2.perm;dsimp only;refine aL (Km (st:=d8 st' zs) hk hi0 (by show lo+x<zs.size;lia) (by show lo+x-1<zs.size;lia) ?_);dsimp only;show wpS _ _ _ _ (if decide (K zs (lo+x)<K zs (lo+x-1))=true then _ else _) _ _;by_cases hl:K zs (lo+x)<K zs (lo+x-1)
    ·rw[mB (mN hl)];have ext:∀vs:Array Keyed,(∀i,K vs i=K zs i)->(∀i j,lo<=i->i<=j->j<lo+(x+1)->K vs j<=K vs i):=fun vs hv i j g1 g2 g3=>by
      rw[hv,hv];by_cases e:j<lo+x
      ·exact q2 i j g1 g2 e
      ·have ej:j=lo+x:=by lia
       subst ej;by_cases e2:i=lo+x
       ·rw[e2];exact bR _
       ·exact gn (jt hl) (q2 i (lo+x-1) g1 tb_g% tb_g%)
     have one:∀vs:Array Keyed,∀i,lo+(x+1)-(0+1)<=i->i<lo+(x+1)->K vs i=K vs (lo+(x+1)-1):=fun vs i g1 g2=>by
      have:i=lo+(x+1)-1:=by lia
      rw[this]
     by_cases hq:q>0
     ·rw[mB hq];have me:=K_mirror_equal (xs:=zs) (i:=lo+x-(q+1)) (j:=lo+x) tb_g% (fun k g1 g2=>q3 k g1 g2);show wpS _ _ _ _ (YK (lo+x-(q+1)) (lo+x) >>= _) _ _;rw[YF];refine aL (mW (aR #[DQ zs (lo+x-(q+1)) (lo+x) ((lo+x-(lo+x-(q+1))) / 2),0,rfl,rfl,w2.trans #[YT _ _ _ _,fun i hi=>?_],by lia,ext _ me,one _]));rw[QC tb_g%,mw tb_g%]
     ·rw[mw hq];exact aR #[zs,0,rfl,rfl,w2,by lia,ext zs (fun _=>rfl),one zs]
    ·rw[mw (by simpa using hl)];refine aL (Km (st:=d8 st' zs) hk hi0 (by show lo+x-1<zs.size;lia) (by show lo+x<zs.size;lia) ?_);dsimp only;show wpS _ _ _ _ (if decide (K zs (lo+x-1)<K zs (lo+x))=true then _ else _) _ _;by_cases hl2:K zs (lo+x-1)<K zs (lo+x)
     ·rw[mB (mN hl2)];exact aR #[zs,x,q,rfl,hx1,by lia,rfl,w2,q1,q2,q3]
     ·rw[mw (by simpa using hl2)];have heq2:K zs (lo+x)=K zs (lo+x-1):=by lia
      refine aR #[zs,q+1,rfl,rfl,w2,by lia,fun i j g1 g2 g3=>?_,fun i g1 g2=>?_]
      ·by_cases e:j<lo+x
       ·exact q2 i j g1 g2 e
       ·have ej:j=lo+x:=by lia
        subst ej;by_cases e2:i=lo+x
        ·rw[e2];exact bR _
        ·rw[heq2];exact q2 i (lo+x-1) g1 tb_g% tb_g%
      ·rw[show lo+(x+1)-1=lo+x by lia];by_cases e:i=lo+x
       ·rw[e]
       ·rw[heq2];exact q3 i tb_g% tb_g%
   ·rintro c st2 ⟨zs,q,rfl,rfl,w2,q1,q2,q3⟩;have e:max n nrem=nrem:=by lia
    rw[e]at q1 q2 q3 ⊢;show#[zs,nrem,q,rfl,by lia,bC _,rfl,w2,q1,q2,q3]
   ·show#[ys,0,rfl,rfl,hw,by lia,fun i j g1 g2 g3=>?_,fun i g1 g2=>?_]
    ·subst hn';by_cases e:j<lo+n0
     ·rw[heq i g1 tb_g%,heq j tb_g% e];exact bR _
     ·have ej:j=lo+n0:=by lia
      subst ej;by_cases e2:i=lo+n0
      ·rw[e2];exact bR _
      ·rw[heq i g1 tb_g%];exact jt hless
    ·have:i=lo+n-1:=by lia
     rw[this]
   ·rintro c st2 ⟨zs,x,q,rfl,hx1,hx2,rfl,w2,q1,q2,q3⟩
    k_dat (r2,hr2) "a"
    subst hr2
    k_dat (s2,hs2) "a"
    subst hs2
    k_dat (n2',hn2') "a"
    have hn3:x=n2':=hn2'.symm;subst hn3
    k_dat (neq2,hneq2) "a"
    have hn4:q=neq2:=hneq2.symm;subst hn4
    walk_at "b"
    k_dat (jp2,Ni) "a"
    have fin:∀(u:PUnit)(vs:Array Keyed),Within (arrOf st') vs lo (lo+nrem)->(∀i j,lo<=i->i<=j->j<lo+x->K vs j<=K vs i)->wpS (model prog w) A E s (jp2 u) Q (d8 st' vs):=by
     intro u vs w3 dec;rw[Ni];have sz:vs.size=(arrOf st').size:=w3.perm.size_eq;show wpS _ _ _ _ (YK lo (lo+x) >>= _) _ _;rw[YF];refine aL (mW ?_);have w4:Within (arrOf st') (DQ vs lo (lo+x) ((lo+x-lo) / 2)) lo (lo+nrem):=w3.trans #[YT _ _ _ _,fun i hi=>by rw[QC tb_g%,mw tb_g%]];have s4:Srt (DQ vs lo (lo+x) ((lo+x-lo) / 2)) lo (lo+x):=fun i j g1 g2 g3=>by
      rw[K_mirror tb_g%,K_mirror tb_g%,mB tb_g%,mB tb_g%];exact dec _ _ tb_g% tb_g% tb_g%
     show wpS _ _ _ _ _ Q (d8 st' (DQ vs lo (lo+x) ((lo+x-lo) / 2)));generalize DQ vs lo (lo+x) ((lo+x-lo) / 2)=us at w4 s4 ⊢;have sz4:us.size=(arrOf st').size:=w4.perm.size_eq;have hi4:IntKeys us:=Az h0 w4.perm;refine aL (fC (kW (I:=fun y c st3=>st3=d8 st' us/\c=(none,y)/\Srt us lo (lo+y))
      (Q:=fun c st3=>st3=d8 st' us/\∃ m,c=(none,m)/\x<=m/\m<=nrem/\Srt us lo (lo+m)) ?_ ?_ #[rfl,rfl,s4]) ?_)
     ·rintro y c st3 hy1 hy2 ⟨rfl,rfl,hs5⟩;dsimp only;refine aL (Km (st:=d8 st' us) hk hi4 (by show lo+y<us.size;lia) (by show lo+y-1<us.size;lia) ?_);dsimp only;show wpS _ _ _ _ (if decide (K us (lo+y)<K us (lo+y-1))=true then _ else _) _ _;by_cases hl:K us (lo+y)<K us (lo+y-1)
      ·rw[mB (mN hl)];exact aR #[rfl,y,rfl,by lia,by lia,hs5]
      ·rw[mw (by simpa using hl)];refine aR #[rfl,rfl,fun i j g1 g2 g3=>?_];by_cases e:j<lo+y
       ·exact hs5 i j g1 g2 e
       ·have ej:j=lo+y:=by lia
        subst ej;by_cases e2:i=lo+y
        ·rw[e2];exact bR _
        ·exact gn (hs5 i (lo+y-1) g1 tb_g% tb_g%) (jM.mp hl)
     ·rintro c st3 ⟨rfl,rfl,hs5⟩;rw[show max x nrem=nrem by lia]at hs5 ⊢;show#[rfl,nrem,rfl,hx2,bC _,hs5]
     ·rintro c st3 ⟨rfl,m,rfl,m1,m2,hs5⟩;exact aR (h m us tb_g% m2 (fun z g1 g2=>cH (hq0 z g1 g2) tb_g%) w4 hs5)
    have sz:zs.size=(arrOf st').size:=w2.perm.size_eq;by_cases hq:q>0
    ·rw[mB hq];have me:=K_mirror_equal (xs:=zs) (i:=lo+x-(q+1)) (j:=lo+x) tb_g% (fun k g1 g2=>q3 k g1 g2);show wpS _ _ _ _ (YK (lo+x-(q+1)) (lo+x) >>= _) _ _;rw[YF];refine aL (mW (fin _ _ (w2.trans #[YT _ _ _ _,fun i hi=>?_]) fun i j g1 g2 g3=>?_))
     ·rw[QC (by show lo+x<=zs.size;lia),mw tb_g%]
     ·rw[me,me];exact q2 i j g1 g2 g3
    ·rw[mw hq];exact fin _ zs w2 q2
  by_cases hn1:n0>1
  ·rw[mB hn1];refine aL (Km hk h0 tb_g% tb_g% ?_);dsimp only;by_cases hl:K (arrOf st') lo<K (arrOf st') (lo+n0-1)
   ·rw[mB (mN hl)];exact aR (h n0 (arrOf st') n1 n2 hq0 (Within.refl _ _ _) hs)
   ·rw[mw (by simpa using hl)];have alike:∀i,lo<=i->i<lo+n0->K (arrOf st') i=K (arrOf st') (lo+n0-1):=fun i g1 g2=>by
     have a1:=hs lo i (bC _) g1 g2;have a2:=hs i (lo+n0-1) g1 tb_g% tb_g%;lia
    have me:=K_mirror_equal (xs:=arrOf st') (i:=lo) (j:=lo+n0) tb_g% alike;show wpS _ _ _ _ (YK lo (lo+n0) >>= _) _ _;rw[YF];refine aL (mW (key _ _ #[YT _ _ _ _,fun i hi=>?_] (fun i g1 g2=>?_) ?_))
    ·rw[QC tb_g%,mw tb_g%]
    ·rw[me,me];exact alike i g1 g2
    ·rwa[me,me]
  ·rw[mw hn1];refine key _ (arrOf st') (Within.refl _ _ _) (fun i g1 g2=>?_) hlt';rw[show i=lo+n0-1 by lia]
end
noncomputable def kv(p:Keyed):Int:=Rk.R p
noncomputable def Asc(l:List Keyed):Prop:=l.Pairwise fun x y=>kv x<=kv y
structure Mg(A B out ra rb:List Keyed):Prop where
 perm:(out++(ra++rb)).Perm (A++B)
 srt:Asc out
 sa:Asc ra
 sb:Asc rb
 le:∀x∈out,∀y∈ra++rb,kv x<=kv y
theorem abC(h:Asc l)(hx:∀y∈l,kv y<=kv x):Asc (l++[x]):=
 lW.mpr #[h,PN _ _,fun a ha b hb=>by rw[cC.mp hb];exact hx a ha]
theorem Mg.abD{A B out ra rb:List Keyed}{x:Keyed}(h:Mg A B out (x::ra) rb)(hx:∀y∈rb,kv x<=kv y):Mg A B (out++[x]) ra rb where
 perm:=by have:=h.perm;rwa[gD]
 srt:=abC h.srt fun y hy=>h.le y hy x (by simp)
 sa:=(gC.mp h.sa).2
 sb:=h.sb
 le:=fun y hy z hz=>by
  rcases bO.mp hy with m|m
  ·exact h.le y m z (by rcases bO.mp hz with q|q <;> simp[q])
  ·rw[cC.mp m];rcases bO.mp hz with q|q
   ·exact(gC.mp h.sa).1 z q
   ·exact hx z q
theorem Mg.WL{A B out ra rb:List Keyed}{x:Keyed}(h:Mg A B out ra (x::rb))(hx:∀y∈ra,kv x<=kv y):Mg A B (out++[x]) ra rb where
 perm:=by
  refine List.Perm.trans ?_ h.perm;rw[gD];exact QL _ (adg (l₁:=ra) (l₂:=rb) (a:=x)).symm
 srt:=abC h.srt fun y hy=>h.le y hy x (by simp)
 sa:=h.sa
 sb:=(gC.mp h.sb).2
 le:=fun y hy z hz=>by
  rcases bO.mp hy with m|m
  ·exact h.le y m z (by rcases bO.mp hz with q|q <;> simp[q])
  ·rw[cC.mp m];rcases bO.mp hz with q|q
   ·exact hx z q
   ·exact(gC.mp h.sb).1 z q
theorem Mg.ana:∀{xs out ra:List Keyed},Mg A B out (xs++ra) rb->(∀x∈xs,∀y∈rb,kv x<=kv y)->Mg A B (out++xs) ra rb
 |[],out,ra,h,_=>by rwa[gk]
 |x::xs,out,ra,h,hx=>by
  have h1:=Mg.abD (x:=x) (ra:=xs++ra) h (hx x cJ);have h2:=Mg.ana h1 fun z hz=>hx z (cV _ hz);rwa[gD]at h2
theorem Mg.anb:∀{xs out rb:List Keyed},Mg A B out ra (xs++rb)->(∀x∈xs,∀y∈ra,kv x<=kv y)->Mg A B (out++xs) ra rb
 |[],out,rb,h,_=>by rwa[gk]
 |x::xs,out,rb,h,hx=>by
  have h1:=Mg.WL (x:=x) (rb:=xs++rb) h (hx x cJ);have h2:=Mg.anb h1 fun z hz=>hx z (cV _ hz);rwa[gD]at h2
structure fP(A B out:List Keyed):Prop where
 perm:out.Perm (A++B)
 srt:Asc out
theorem Mg.anc(h:Mg A B out ra rb)(hx:∀x∈ra,∀y∈rb,kv x<=kv y):fP A B (out++ra++rb):=
 #[by rw [gD];exact h.perm,by
  rw [gD];exact lW.mpr #[h.srt,lW.mpr #[h.sa,h.sb,hx],h.le]]
theorem Mg.ane(h:Mg A B out ra rb)(hx:∀x∈rb,∀y∈ra,kv x<=kv y):fP A B (out++rb++ra):=
 #[by rw [gD];exact (QL _ ajs).trans h.perm,by
  rw [gD];exact lW.mpr #[h.srt,lW.mpr #[h.sb,h.sa,hx],fun x m y n=>h.le x m y (by rcases bO.mp n with q | q <;> simp [q])]]
theorem Mg.start(ha:Asc A)(hb:Asc B)(e:B=x::rb)(hx:∀y∈A,kv x<=kv y):Mg A B [x] A rb:=by
 have h0:Mg A B [] A B:=#[alN _,List.Pairwise.nil,ha,hb,fun _ h=>(nomatch h)];rw[e]at h0;have:=h0.WL hx;rwa[<-e]at this
structure Mh(A B out ra rb:List Keyed):Prop where
 perm:(ra++(rb++out)).Perm (A++B)
 srt:Asc out
 sa:Asc ra
 sb:Asc rb
 le:∀x∈ra++rb,∀y∈out,kv x<=kv y
theorem Gy(h:Asc (l++[x])):Asc l/\∀y∈l,kv y<=kv x:=by
 obtain⟨a,_,b⟩:=lW.mp h;show#[a,fun y hy=>b y hy x (by simp)]
theorem Mh.abD{A B out ra rb:List Keyed}{x:Keyed}(h:Mh A B out (ra++[x]) rb)(hx:∀y∈rb,kv y<=kv x):Mh A B (x::out) ra rb where
 perm:=by
  refine List.Perm.trans ?_ h.perm;rw[gD];exact QL _ (adg (l₁:=rb) (l₂:=out) (a:=x))
 srt:=gC.mpr #[fun y hy=>h.le x (by simp) y hy,h.srt]
 sa:=(Gy h.sa).1
 sb:=h.sb
 le:=fun y hy z hz=>by
  rcases aX.mp hz with m|m
  ·rw[m];rcases bO.mp hy with q|q
   ·exact(Gy h.sa).2 y q
   ·exact hx y q
  ·exact h.le y (by rcases bO.mp hy with q|q <;> simp[q]) z m
theorem Mh.WL{A B out ra rb:List Keyed}{x:Keyed}(h:Mh A B out ra (rb++[x]))(hx:∀y∈ra,kv y<=kv x):Mh A B (x::out) ra rb where
 perm:=by
  refine List.Perm.trans (asj ?_) h.perm;simp
 srt:=gC.mpr #[fun y hy=>h.le x (by simp) y hy,h.srt]
 sa:=h.sa
 sb:=(Gy h.sb).1
 le:=fun y hy z hz=>by
  rcases aX.mp hz with m|m
  ·rw[m];rcases bO.mp hy with q|q
   ·exact hx y q
   ·exact(Gy h.sb).2 y q
  ·exact h.le y (by rcases bO.mp hy with q|q <;> simp[q]) z m
theorem Mh.ana:∀{xs:List Keyed}{out:List Keyed},Mh A B out (ra++xs.reverse) rb->(∀x∈xs,∀y∈rb,kv y<=kv x)->Mh A B (xs.reverse++out) ra rb
 |[],out,h,_=>by simpa using h
 |x::xs,out,h,hx=>by
  rw[Cz,<-gD]at h;have h2:=Mh.ana (xs:=xs) (h.abD (hx x cJ)) fun z hz=>hx z (cV _ hz);rwa[Cz,gD]
theorem Mh.anb:∀{xs:List Keyed}{out:List Keyed},Mh A B out ra (rb++xs.reverse)->(∀x∈xs,∀y∈ra,kv y<=kv x)->Mh A B (xs.reverse++out) ra rb
 |[],out,h,_=>by simpa using h
 |x::xs,out,h,hx=>by
  rw[Cz,<-gD]at h;have h2:=Mh.anb (xs:=xs) (h.WL (hx x cJ)) fun z hz=>hx z (cV _ hz);rwa[Cz,gD]
theorem Mh.anc(h:Mh A B out ra rb)(hx:∀x∈ra,∀y∈rb,kv x<=kv y):fP A B (ra++rb++out):=
 #[by rw[gD];exact h.perm,lW.mpr #[lW.mpr #[h.sa,h.sb,hx],h.srt,h.le]]
theorem Mh.ane(h:Mh A B out ra rb)(hx:∀x∈rb,∀y∈ra,kv x<=kv y):fP A B (rb++ra++out):=by
 show#[?_,lW.mpr #[lW.mpr #[h.sb,h.sa,hx],h.srt,fun x m y n=>h.le x (by rcases bO.mp m with q|q <;> simp[q]) y n]];refine List.Perm.trans ?_ h.perm;rw[<-gD];exact alL _ ajs
theorem Mv{a:Array Keyed}(h:i<a.toList.length):kv (a.toList[i])=K a i:=by
 unfold K kv;have:a[i]? = some a.toList[i]:=by rw[<-gR];exact eU h
 rw[this]
theorem mH{a:Array Keyed}(h:x∈a.toList.drop i):∃j,i<=j/\j<a.size/\kv x=K a j:=by
 obtain⟨j,hj,e⟩:=Cw.mp h;rw[adb]at e;rw[CN]at hj;have q:=adW hj;show#[i+j,iZ ..,q,by rw[<-e];exact Mv q]
theorem mJ{a:Array Keyed}(h:x∈a.toList.take i):∃j,j<i/\j<a.size/\kv x=K a j:=by
 obtain⟨j,hj,e⟩:=Cw.mp h;rw[ade]at e;rw[dN,akH]at hj;show#[j,hj.1,hj.2,by rw[<-e];exact Mv hj.2]
theorem d9{a:Array Keyed}{i:Nat}{x:Keyed}(h:a[i]? = some x):a.toList.drop i=x::a.toList.drop (i+1):=by
 rw[<-gR]at h;obtain⟨hi,e⟩:=dh.mp h;rw[Ji hi,e]
theorem jm{a:Array Keyed}{i:Nat}{x:Keyed}(h:a[i]? = some x):a.toList.take (i+1)=a.toList.take i++[x]:=by
 rw[<-gR]at h;rw[jE,h];rfl
theorem Gz{a:Array Keyed}:a.toList.drop i=(a.extract i (i+k)).toList++a.toList.drop (i+k):=by
 rw[JN,Jj,Qv,<-ajH,Cv]
theorem Bb{a:Array Keyed}(h:x∈(a.extract i k).toList):∃j,i<=j/\j<k/\j<a.size/\kv x=K a j:=by
 rw[JN,Jj]at h;obtain⟨j,hj,e⟩:=Cw.mp h;rw[ade,adb]at e;rw[dN,CN,akH]at hj;have q:=adW hj.2;show#[i+j,iZ ..,adW hj.1,q,by rw[<-e];exact Mv q]
theorem abE{a:Array Keyed}(h:i<=k):a.toList.take k=a.toList.take i++(a.extract i k).toList:=by
 rw[JN,Jj]
 conv=>lhs;rw[<-Qx h,List.take_add]
theorem GC(h:a[i]? = some x):kv x=K a i:=by unfold K kv;rw[h]
noncomputable def Lo(a b out:Array Keyed)(ia ib:Nat):Prop:=Mg a.toList b.toList out.toList (a.toList.drop ia) (b.toList.drop ib)
theorem Lo.a{a b out:Array Keyed}{ia ib:Nat}{x:Keyed}(h:Lo a b out ia ib)(e:a[ia]? = some x)(hx:∀j,ib<=j->j<b.size->K a ia<=K b j):Lo a b (out.push x) (ia+1) ib:=by
 unfold Lo at h ⊢;rw[d9 e]at h;rw[yS];exact h.abD fun y hy=>by obtain⟨j,h1,h2,h3⟩:=mH hy;rw[GC e,h3];exact hx j h1 h2
theorem Lo.b{a b out:Array Keyed}{ia ib:Nat}{x:Keyed}(h:Lo a b out ia ib)(e:b[ib]? = some x)(hx:∀j,ia<=j->j<a.size->K b ib<=K a j):Lo a b (out.push x) ia (ib+1):=by
 unfold Lo at h ⊢;rw[d9 e]at h;rw[yS];exact h.WL fun y hy=>by obtain⟨j,h1,h2,h3⟩:=mH hy;rw[GC e,h3];exact hx j h1 h2
theorem Lo.as{a b out:Array Keyed}{ia ib k:Nat}(h:Lo a b out ia ib)(hx:∀i j,ia<=i->i<ia+k->i<a.size->ib<=j->j<b.size->K a i<=K b j):Lo a b (out++a.extract ia (ia+k)) (ia+k) ib:=by
 unfold Lo at h ⊢;rw[Gz (k:=k)]at h;rw[wN];exact h.ana fun x hx' y hy=>by
  obtain⟨i,g1,g2,g3,g4⟩:=Bb hx';obtain⟨j,h1,h2,h3⟩:=mH hy;rw[g4,h3];exact hx i j g1 g2 g3 h1 h2
theorem Lo.bs{a b out:Array Keyed}{ia ib k:Nat}(h:Lo a b out ia ib)(hx:∀i j,ib<=i->i<ib+k->i<b.size->ia<=j->j<a.size->K b i<=K a j):Lo a b (out++b.extract ib (ib+k)) ia (ib+k):=by
 unfold Lo at h ⊢;rw[Gz (a:=b) (k:=k)]at h;rw[wN];exact h.anb fun x hx' y hy=>by
  obtain⟨i,g1,g2,g3,g4⟩:=Bb hx';obtain⟨j,h1,h2,h3⟩:=mH hy;rw[g4,h3];exact hx i j g1 g2 g3 h1 h2
theorem Pa(a:Array Keyed)(i:Nat):(a.extract i a.size).toList=a.toList.drop i:=by
 rw[JN,Jj];exact jD (by rw[CN];exact bC _)
theorem Lo.done{a b out:Array Keyed}{ia ib:Nat}(h:Lo a b out ia ib)(hx:∀i j,ia<=i->i<a.size->ib<=j->j<b.size->K a i<=K b j):fP a.toList b.toList (out++a.extract ia a.size++b.extract ib b.size).toList:=by
 rw[wN,wN,Pa,Pa];exact Mg.anc h fun x hx' y hy=>by
  obtain⟨i,g1,g2,g3⟩:=mH hx';obtain⟨j,h1,h2,h3⟩:=mH hy;rw[g3,h3];exact hx i j g1 g2 h1 h2
theorem Lo.last{a b out:Array Keyed}{ia ib:Nat}(h:Lo a b out ia ib)(hx:∀i j,ib<=i->i<b.size->ia<=j->j<a.size->K b i<=K a j):fP a.toList b.toList (out++b.extract ib b.size++a.extract ia a.size).toList:=by
 rw[wN,wN,Pa,Pa];exact Mg.ane h fun x hx' y hy=>by
  obtain⟨i,g1,g2,g3⟩:=mH hx';obtain⟨j,h1,h2,h3⟩:=mH hy;rw[g3,h3];exact hx i j g1 g2 h1 h2
noncomputable def Hi(a b out:Array Keyed)(na nb:Nat):Prop:=Mh a.toList b.toList out.toList.reverse (a.toList.take na) (b.toList.take nb)
theorem Hi.a{a b out:Array Keyed}{na nb:Nat}{x:Keyed}(h:Hi a b out (na+1) nb)(e:a[na]? = some x)(hx:∀j,j<nb->j<b.size->K b j<=K a na):Hi a b (out.push x) na nb:=by
 unfold Hi at h ⊢;rw[jm e]at h;rw[yS,yd,ajq,ajt];exact h.abD fun y hy=>by obtain⟨j,h1,h2,h3⟩:=mJ hy;rw[GC e,h3];exact hx j h1 h2
theorem Hi.b{a b out:Array Keyed}{na nb:Nat}{x:Keyed}(h:Hi a b out na (nb+1))(e:b[nb]? = some x)(hx:∀j,j<na->j<a.size->K a j<=K b nb):Hi a b (out.push x) na nb:=by
 unfold Hi at h ⊢;rw[jm e]at h;rw[yS,yd,ajq,ajt];exact h.WL fun y hy=>by obtain⟨j,h1,h2,h3⟩:=mJ hy;rw[GC e,h3];exact hx j h1 h2
theorem Hi.as{a b out:Array Keyed}{na nb k:Nat}(h:Hi a b out na nb)(hk:k<=na)(hx:∀i j,k<=i->i<na->i<a.size->j<nb->j<b.size->K b j<=K a i):Hi a b (out++(a.extract k na).reverse) k nb:=by
 unfold Hi at h ⊢;rw[abE hk]at h;rw[wN,yd,Y7];refine Mh.ana (out:=out.toList.reverse) (by rwa[PX]) fun x hx' y hy=>?_;obtain⟨i,g1,g2,g3,g4⟩:=Bb (yj.mp hx');obtain⟨j,h1,h2,h3⟩:=mJ hy;rw[g4,h3];exact hx i j g1 g2 g3 h1 h2
theorem Hi.bs{a b out:Array Keyed}{na nb k:Nat}(h:Hi a b out na nb)(hk:k<=nb)(hx:∀i j,k<=i->i<nb->i<b.size->j<na->j<a.size->K a j<=K b i):Hi a b (out++(b.extract k nb).reverse) na k:=by
 unfold Hi at h ⊢;rw[abE (a:=b) hk]at h;rw[wN,yd,Y7];refine Mh.anb (out:=out.toList.reverse) (by rwa[PX]) fun x hx' y hy=>?_;obtain⟨i,g1,g2,g3,g4⟩:=Bb (yj.mp hx');obtain⟨j,h1,h2,h3⟩:=mJ hy;rw[g4,h3];exact hx i j g1 g2 g3 h1 h2
theorem GD(a:Array Keyed)(i:Nat):(a.extract 0 i).toList=a.toList.take i:=by
 rw[JN,Jj];rfl
theorem Hi.done{a b out:Array Keyed}{na nb:Nat}(h:Hi a b out na nb)(hx:∀i j,i<na->i<a.size->j<nb->j<b.size->K a i<=K b j):fP a.toList b.toList (a.extract 0 na++b.extract 0 nb++out.reverse).toList:=by
 rw[wN,wN,GD,GD,Y7];exact Mh.anc h fun x hx' y hy=>by
  obtain⟨i,g1,g2,g3⟩:=mJ hx';obtain⟨j,h1,h2,h3⟩:=mJ hy;rw[g3,h3];exact hx i j g1 g2 h1 h2
theorem Hi.first{a b out:Array Keyed}{na nb:Nat}(h:Hi a b out na nb)(hx:∀i j,i<nb->i<b.size->j<na->j<a.size->K b i<=K a j):fP a.toList b.toList (b.extract 0 nb++a.extract 0 na++out.reverse).toList:=by
 rw[wN,wN,GD,GD,Y7];exact Mh.ane h fun x hx' y hy=>by
  obtain⟨i,g1,g2,g3⟩:=mJ hx';obtain⟨j,h1,h2,h3⟩:=mJ hy;rw[g3,h3];exact hx i j g1 g2 h1 h2
theorem Z4(h:Srt a 0 a.size):Asc a.toList:=by
 refine Jk.mpr fun i j hi hj hij=>?_;rw[Mv hi,Mv hj];exact h i j (bF _) (eF hij) (by rwa[<-iQ])
theorem Lo.start{a b:Array Keyed}(ha:Srt a 0 a.size)(hb:Srt b 0 b.size):Lo a b #[] 0 0:=
 #[alN _,List.Pairwise.nil,Z4 ha,Z4 hb,fun _ h=>(nomatch h)]
theorem Hi.start{a b:Array Keyed}(ha:Srt a 0 a.size)(hb:Srt b 0 b.size):Hi a b #[] a.size b.size:=by
 have e1:a.toList.take a.size=a.toList:=jD (by rw[iQ];exact bC _);have e2:b.toList.take b.size=b.toList:=jD (by rw[iQ];exact bC _);unfold Hi;rw[e1,e2];show#[by simp,List.Pairwise.nil,Z4 ha,Z4 hb,fun _ _ _ h=>(nomatch h)]
noncomputable def mlo:Array Keyed->Array Keyed->StateT SortSt Sem (Array Keyed):=sortPriv% PySem.Builtin.mergeLo
section
variable{prog:aK}{w:World}{A:aY}{E:Value->Shared->Prop}{s:Shared}
theorem bV{α:Type}{c:Prop}[Decidable c]{x y:StateT SortSt Sem α}{Q:α->SortSt->Prop}{st:SortSt}(hc:c)(h:wpS (model prog w) A E s x Q st):wpS (model prog w) A E s (if c then x else y) Q st:=by rwa[mB hc]
theorem bN{α:Type}{c:Prop}[Decidable c]{x y:StateT SortSt Sem α}{Q:α->SortSt->Prop}{st:SortSt}(hc:¬ c)(h:wpS (model prog w) A E s y Q st):wpS (model prog w) A E s (if c then x else y) Q st:=by rwa[mw hc]
end
section
variable{prog:aK}{w:World}{A:aY}{E:Value->Shared->Prop}{s:Shared}[Rl prog w A E s]
noncomputable abbrev setG(st:SortSt)(g:Nat):SortSt:=Ed (kindOf st) (arrOf st) (cZ st) g (pD st)
noncomputable def GF:Nat->StateT SortSt Sem Unit:=sortPriv% PySem.Builtin.setMinGallop
theorem vP(g:Nat):GF g=modify fun s=>setG s g:=rfl
theorem y1(h:y+p<=q):y+1+p<=q+1:=by lia
theorem y2(h:y+p<=i+j):y+1+p<=i+1+j:=by lia
theorem y3(h:y+p<=i+j)(a:i<=u)(b:j+1<=v):y+1+p<=u+1+v:=by lia
theorem n1(h:y+1+p<=q):p+1<=q:=by lia
theorem afe(e:t=m+n)(h:max 0 t+p<=i+j)(hi:i+1<m)(hj:j<n):False:=by lia
theorem p1(h:0<n)(g:n<=m):n-1<m:=cY (yN h yM) g
theorem z1(h:y+n+m<=p)(g:0<n):y+1+(n-1)+m<=p:=by lia
theorem z2(h:y+n+m<=p)(g:0<m):y+1+n+(m-1)<=p:=by lia
theorem z3(h:y+n+m<=p)(a:u<=n)(b:v+1<=m):y+1+(u-1)+v<=p:=by lia
theorem n3(h:y+1+n+m<=p):n+m+1<=p:=by lia
theorem afg(e:t=a+b)(h:max 0 t+n+m<=p+q)(h1:p<=a)(h2:q<=b)(h3:0<n):False:=by lia
theorem jB{left:Bool}{key:Int}{y:Keyed}{arr:Array Keyed}{base n e hint:Nat}{st:SortSt}{Q:Option Nat->SortSt->Prop}(he:base+n=e)(hk:kindOf st=kd0)(hI:Ints arr base e)(hh:hint<n)
  (hm:∀i j,base<=i->i<=j->j<e->bey left key arr j=true->bey left key arr i=true)
  (h:∀k,base+k<=e->(∀i,base<=i->i<base+k->bey left key arr i=true)->(∀i,base+k<=i->i<e->bey left key arr i=false)->Q (some k) st) (hy:Is y key:=by assumption):
  wpS (model prog w) A E s (gal left y arr base n hint) Q st:=by
 subst he;refine afd hk hI hh (fun i j a b=>hm _ _ (iZ ..) (JF a _) (Yx b _)) fun k a b c=>h k (JF a _) (fun i u v=>?_) fun i u v=>?_
 ·obtain⟨d,rfl⟩:=Yv u;exact b d (adV v)
 ·obtain⟨d,rfl⟩:=Yv (cH (iZ ..) u);exact c d (akx u) (adV v)
theorem Bc{α:Type}{x:StateT SortSt Sem α}{Q:α->SortSt->Prop}{st:SortSt}(h:∀Q':α->SortSt->Prop,(∀r u,Q r u->Q' r u)->wpS (model prog w) A E s x Q' st):wpS (model prog w) A E s x Q st:=h Q fun _ _ z=>z
theorem apY{a b:Array Keyed}{st:SortSt}{Q:Array Keyed->SortSt->Prop}(hk:kindOf st=kd0)(ka:IntKeys a)(kb:IntKeys b)(sa:Srt a 0 a.size)(sb:Srt b 0 b.size)(na:1<=a.size)(nb:1<=b.size)
  (hF:∀i,i<a.size->K b 0<=K a i) (hL:∀j,j<b.size->K b j<=K a (a.size-1)) (h:∀out g,fP a.toList b.toList out.toList->Q out (setG st g)):
  wpS (model prog w) A E s (mlo a b) Q st:=by
 refine aL (DN (oY #[rfl,?_]))
 k_dat (total,htot) "a"
 k_dat (done,hdone) "a"
 k_dat (lastOfA,arD) "a"
 have ea:∀i,i<a.size->∃(t:Keyed) (_:Is t (K a i)),a[i]? = some t:=fun i hi=>Et ka hi;have eb:∀i,i<b.size->∃(t:Keyed) (_:Is t (K b i)),b[i]? = some t:=fun i hi=>Et kb hi;have zK:∀out ia ib,Lo a b out ia ib->(ib=b.size\/ia=a.size)->fP a.toList b.toList (done out ia ib).toList:=fun out ia ib hl hc=>by
  rw[hdone];exact hl.done fun i j h1 h2 h3 h4=>by
   rcases hc with rfl|rfl
   ·exact mI h3 (DG.mpr h4)
   ·exact mI h1 (DG.mpr h2)
 have agM:∀out ia ib,Lo a b out ia ib->ia+1=a.size->fP a.toList b.toList (lastOfA out ia ib).toList:=fun out ia ib hl hc=>by
  rw[arD];exact hl.last fun i j h1 h2 h3 h4=>by
   have:j=a.size-1:=Yz (BJ h4) (by rwa[<-hc]);subst this;exact hL i h2
 clear hdone arD;obtain⟨t0,q0,e0⟩:=eb 0 nb;refine aL (cP e0 ?_)
 k_dat (afh,abF) "a"
 k_dat (ia0,hia0) "a"
 k_dat (ib0,hib0) "a"
 have hLo:Lo a b afh ia0 ib0:=by
  subst abF hia0 hib0;exact(Lo.start sa sb).b e0 fun j _ hj=>hF j hj
 by_cases c1:ib0=b.size
 ·refine bV (by simpa using c1) ?_;exact aR (h _ (yO st) (zK _ _ _ hLo (.inl c1)))
 refine bN (by simpa using c1) ?_;by_cases c2:ia0+1=a.size
 ·refine bV (by simpa using c2) ?_;exact aR (h _ (yO st) (agM _ _ _ hLo c2))
 refine bN (by simpa using c2) ?_;have ba0:ia0+1<a.size:=jJ (by rwa[hia0]) c2;have bb0:ib0<b.size:=jJ (by rwa[hib0]) c1;clear abF hia0 hib0 c1 c2;refine aL (rT ?_)
 k_dat (mg0,hmg0) "a"
 clear hmg0;refine aL (fC (kW (I:=fun x c st'=>(∃ g,st'=setG st g)/\∃ out ia ib mg,c=(none,out,ia,ib,mg)/\Lo a b out ia ib/\ia+1<a.size/\ib<b.size/\x<=ia+ib)
  (Q:=fun c st'=>(∃ g,st'=setG st g)/\∃ r c',c=(some r,c')/\fP a.toList b.toList r.toList) ?_ ?_ #[#[yO st,rfl],afh,ia0,ib0,mg0,rfl,hLo,ba0,bb0,bF _]) ?_)
 ·rintro x c st' _ hx ⟨⟨g,rfl⟩,out,ia,ib,mg,rfl,hl,ba,bb,hp⟩;refine Bc fun Q0 hQ0=>?_
  iterate 9 (extract_lets +onlyGivenNames -underBinder -merge zz;subst zz)
  walk_at "b"
  refine aL (fC (kW (I:=fun y c st'=>st'=setG st g/\∃ out' ia' ib' ac bc,c=(none,out',ia',ib',ac,bc)/\Lo a b out' ia' ib'/\ia'+1<a.size/\ib'<b.size/\y+(ia+ib)<=ia'+ib')
   (Q:=fun c st'=>st'=setG st g/\((∃ r c',c=(some r,c')/\fP a.toList b.toList r.toList)\/∃ out' ia' ib' ac bc,c=(none,out',ia',ib',ac,bc)/\Lo a b out' ia' ib'/\ia'+1<a.size/\ib'<b.size/\ia+ib+1<=ia'+ib')) ?_ ?_ #[rfl,out,ia,ib,0,0,rfl,hl,ba,bb,Dw (oE _)]) ?_)
  ·rintro y c st' _ hy ⟨rfl,out,ia,ib,ac,bc,rfl,hl,ba,bb,hp'⟩;refine Bc fun Q1 hQ1=>?_;have hM:=fun r c' m=>hQ1 (.done (some r,c')) (setG st g) #[rfl,.inl #[r,c',rfl,m]];have hN:=fun o i j ac bc h1 h2 h3 h4=>hQ1 (.done (none,o,i,j,ac,bc)) (setG st g) #[rfl,.inr #[o,i,j,ac,bc,rfl,h1,h2,h3,n1 (y:=y) h4]];have hY:=fun o i j ac bc h1 h2 h3 h4=>hQ1 (.yield (none,o,i,j,ac,bc)) (setG st g) #[rfl,o,i,j,ac,bc,rfl,h1,h2,h3,h4];clear hQ1
   iterate 9 (extract_lets +onlyGivenNames -underBinder -merge zz;subst zz)
   walk_at "b"
   obtain⟨t1,q1,e1⟩:=eb ib bb;obtain⟨t2,q2,e2⟩:=ea ia (adZ ba);refine aL (cP e1 ?_);refine aL (cP e2 ?_);refine aL (RN hk ?_)
   walk_at "b"
   by_cases hw:K b ib<K a ia
   ·refine bV (mN hw) ?_;refine aL (cP e1 ?_)
    iterate 4 (extract_lets +onlyGivenNames -underBinder -merge zz;subst zz)
    walk_at "b"
    have hl':=hl.b e1 fun j h1 h2=>gn (jt hw) (sa ia j (bF _) h1 h2);by_cases c1:ib+1=b.size
    ·refine bV (by simpa using c1) ?_;exact aR (hM _ _ (zK _ _ _ hl' (.inl c1)))
    refine bN (by simpa using c1) ?_;by_cases c2:bc+1>=mg
    ·refine bV c2 ?_;exact aR (hN _ _ _ _ _ hl' ba (jJ bb c1) (y1 hp'))
    ·refine bN c2 ?_;exact aR (hY _ _ _ _ _ hl' ba (jJ bb c1) (y1 hp'))
   ·refine bN (by simpa using hw) ?_;refine aL (cP e2 ?_)
    iterate 4 (extract_lets +onlyGivenNames -underBinder -merge zz;subst zz)
    walk_at "b"
    have hl':=hl.a e2 fun j h1 h2=>gn (jM.mp hw) (sb ib j (bF _) h1 h2);by_cases c1:ia+1+1=a.size
    ·refine bV (by simpa using c1) ?_;exact aR (hM _ _ (agM _ _ _ hl' c1))
    refine bN (by simpa using c1) ?_;by_cases c2:ac+1>=mg
    ·refine bV c2 ?_;exact aR (hN _ _ _ _ _ hl' (jJ ba c1) bb (y2 hp'))
    ·refine bN c2 ?_;exact aR (hY _ _ _ _ _ hl' (jJ ba c1) bb (y2 hp'))
  ·rintro c st' ⟨rfl,out,ia,ib,ac,bc,rfl,hl,ba,bb,hp'⟩;exact(afe htot hp' ba bb).elim
  rintro c st' ⟨rfl,(⟨r,c',rfl,hm⟩|⟨out1,ia1,ib1,ac,bc,rfl,hl1,ba1,bb1,hp1⟩)⟩
  ·iterate 10 (extract_lets +onlyGivenNames -underBinder -merge zz;subst zz)
   walk_at "b"
   walk_at "b"
   exact aR (hQ0 _ _ #[#[g,rfl],r,_,rfl,hm])
  iterate 10 (extract_lets +onlyGivenNames -underBinder -merge zz;subst zz)
  walk_at "b"
  walk_at "b"
  refine aL (DN (oY #[rfl,?_]))
  iterate 1 (extract_lets +onlyGivenNames -underBinder -merge zz;subst zz)
  walk_at "b"
  refine aL (fC (kW (I:=fun y c st'=>(∃ g,st'=setG st g)/\∃ out' ia' ib' mg ac bc,c=(none,out',ia',ib',mg,ac,bc)/\Lo a b out' ia' ib'/\ia'+1<a.size/\ib'<b.size/\y+(ia1+ib1)<=ia'+ib')
   (Q:=fun c st'=>(∃ g,st'=setG st g)/\((∃ r c',c=(some r,c')/\fP a.toList b.toList r.toList)\/∃ out' ia' ib' mg ac bc,c=(none,out',ia',ib',mg,ac,bc)/\Lo a b out' ia' ib'/\ia'+1<a.size/\ib'<b.size/\ia1+ib1<=ia'+ib')) ?_ ?_ #[#[g,rfl],out1,ia1,ib1,_,ac,bc,rfl,hl1,ba1,bb1,Dw (oE _)]) ?_)
  ·rintro y c st' _ hy ⟨⟨g,rfl⟩,out,ia,ib,mg,ac,bc,rfl,hl,ba,bb,hp'⟩;refine Bc fun Q2 hQ2=>?_;have hM:=fun g r c' m=>hQ2 (.done (some r,c')) (setG st g) #[#[g,rfl],.inl #[r,c',rfl,m]];have hN:=fun g o i j mg ac bc h1 h2 h3 h4=>hQ2 (.done (none,o,i,j,mg,ac,bc)) (setG st g) #[#[g,rfl],.inr #[o,i,j,mg,ac,bc,rfl,h1,h2,h3,cH (akG _ (y+1)) h4]];have hY:=fun g o i j mg ac bc h1 h2 h3 h4=>hQ2 (.yield (none,o,i,j,mg,ac,bc)) (setG st g) #[#[g,rfl],o,i,j,mg,ac,bc,rfl,h1,h2,h3,h4];clear hQ2
   iterate 11 (extract_lets +onlyGivenNames -underBinder -merge zz;subst zz)
   walk_at "b"
   k_dat (jp,hjp) "a"
   have key:∀u mg,wpS (model prog w) A E s (jp u mg) Q2 (setG st g):=by
    intro u mg;rw[hjp];clear hjp jp;refine aL ?_;show wpS _ _ _ _ (GF mg) _ _;rw[vP];refine mW ?_;show wpS _ _ _ _ _ _ (setG st mg);obtain⟨t1,q1,e1⟩:=eb ib bb;refine aL (cP e1 ?_);have la:=adZ ba;refine aL (jB (st:=setG st mg) (Qx (eF la)) hk (fun i _ h2=>ea i h2) (ad0 la) (fun i j _ h1 h2 h3=>?_) fun k hk1 hk2 hk3=>?_)
    ·simp only[bey,vd,if_false,JQ,decide_eq_false_iff_not,jM]at h3 ⊢;exact gn (sa _ _ (bF _) h1 h2) h3
    simp only[bey,vd,if_false,JQ,aeo,decide_eq_true_eq,decide_eq_false_iff_not,jM]at hk2 hk3
    walk_at "b"
    iterate 1 (extract_lets +onlyGivenNames -underBinder -merge zz;subst zz)
    walk_at "b"
    k_dat (jp2,Ni) "a"
    have key2:∀u out ia',Lo a b out ia' ib->ia'+1<a.size->ia<=ia'->(∀j,ia'<=j->j<a.size->K b ib<=K a j)->wpS (model prog w) A E s (jp2 u out ia') Q2 (setG st mg):=by
     intro u out ia' hl ba' hle hge;rw[Ni];clear Ni jp2;refine aL (cP e1 ?_)
     iterate 2 (extract_lets +onlyGivenNames -underBinder -merge zz;subst zz)
     walk_at "b"
     have hl':=hl.b e1 hge;by_cases c1:ib+1=b.size
     ·refine bV (by simpa using c1) ?_;exact aR (hM mg _ _ (zK _ _ _ hl' (.inl c1)))
     refine bN (by simpa using c1) ?_;have bb1:=jJ bb c1;obtain⟨t2,q2,e2⟩:=ea ia' (adZ ba');refine aL (cP e2 ?_);refine aL (jB (st:=setG st mg) (Qx bb) hk (fun i _ h2=>eb i h2) (ad0 bb1) (fun i j _ h1 h2 h3=>?_) fun k hk1 hk2 hk3=>?_)
     ·simp only[bey,if_true,decide_eq_true_eq]at h3 ⊢;exact aek (sb _ _ (bF _) h1 h2) h3
     simp only[bey,if_true,decide_eq_true_eq,decide_eq_false_iff_not,jM]at hk2 hk3
     walk_at "b"
     iterate 1 (extract_lets +onlyGivenNames -underBinder -merge zz;subst zz)
     walk_at "b"
     k_dat (jp3,afi) "a"
     have anf:∀u out ib',Lo a b out ia' ib'->ib'<b.size->ib+1<=ib'->(∀j,ib'<=j->j<b.size->K a ia'<=K b j)->wpS (model prog w) A E s (jp3 u out ib') Q2 (setG st mg):=by
      intro u out ib' hl bb' hle' hge';rw[afi];clear afi jp3;refine aL (cP e2 ?_)
      iterate 2 (extract_lets +onlyGivenNames -underBinder -merge zz;subst zz)
      walk_at "b"
      have hl':=hl.a e2 hge';by_cases c1:ia'+1+1=a.size
      ·refine bV (by simpa using c1) ?_;exact aR (hM mg _ _ (agM _ _ _ hl' c1))
      refine bN (by simpa using c1) ?_;split
      ·exact aR (hN mg _ _ _ _ _ _ hl' (jJ ba' c1) bb' (y3 hp' hle hle'))
      ·exact aR (hY mg _ _ _ _ _ _ hl' (jJ ba' c1) bb' (y3 hp' hle hle'))
     clear afi;by_cases hk0:k>0
     ·refine bV hk0 ?_
      iterate 2 (extract_lets +onlyGivenNames -underBinder -merge zz;subst zz)
      walk_at "b"
      have hl2:=hl'.bs (k:=k) fun i j h1 h2 h3 h4 h5=>gn (jt (hk2 i h1 h2)) (sa _ _ (bF _) h4 h5);by_cases c2:ib+1+k=b.size
      ·refine bV (by simpa using c2) ?_;exact aR (hM mg _ _ (zK _ _ _ hl2 (.inl c2)))
      refine bN (by simpa using c2) ?_;exact anf _ _ _ hl2 (jJ hk1 c2) (iZ ..) hk3
     ·refine bN hk0 ?_;obtain rfl:=Yw hk0;exact anf _ _ _ hl' bb1 (bC _) hk3
    clear Ni;by_cases hk0:k>0
    ·refine bV hk0 ?_
     iterate 2 (extract_lets +onlyGivenNames -underBinder -merge zz;subst zz)
     walk_at "b"
     have hl2:=hl.as (k:=k) fun i j h1 h2 h3 h4 h5=>gn (hk2 i h1 h2) (sb _ _ (bF _) h4 h5);by_cases c2:ia+k+1=a.size
     ·refine bV (by simpa using c2) ?_;exact aR (hM mg _ _ (agM _ _ _ hl2 c2))
     refine bN (by simpa using c2) ?_;by_cases c3:ia+k=a.size
     ·refine bV (by simpa using c3) ?_;exact aR (hM mg _ _ (zK _ _ _ hl2 (.inr c3)))
     refine bN (by simpa using c3) ?_;exact key2 _ _ _ hl2 (jJ (jJ hk1 c3) c2) (iZ ..) fun j h1 h2=>jt (hk3 j h1 h2)
    ·refine bN hk0 ?_;obtain rfl:=Yw hk0;exact key2 _ _ _ hl ba (bC _) fun j h1 h2=>jt (hk3 j h1 h2)
   clear hjp;split
   ·iterate 1 (extract_lets +onlyGivenNames -underBinder -merge zz;subst zz)
    walk_at "b"
    exact key _ _
   ·exact key _ _
  ·rintro c st' ⟨_,out,ia,ib,mg,ac,bc,rfl,hl,ba,bb,hp'⟩;exact(afe htot hp' ba bb).elim
  rintro c st' ⟨⟨g,rfl⟩,(⟨r,c',rfl,hm⟩|⟨out2,ia2,ib2,mg2,ac,bc,rfl,hl2,ba2,bb2,hp2⟩)⟩
  ·iterate 9 (extract_lets +onlyGivenNames -underBinder -merge zz;subst zz)
   walk_at "b"
   walk_at "b"
   exact aR (hQ0 _ _ #[#[g,rfl],r,_,rfl,hm])
  iterate 9 (extract_lets +onlyGivenNames -underBinder -merge zz;subst zz)
  walk_at "b"
  walk_at "b"
  iterate 1 (extract_lets +onlyGivenNames -underBinder -merge zz;subst zz)
  walk_at "b"
  refine aL ?_;show wpS _ _ _ _ (GF _) _ _;rw[vP];refine mW (aR (hQ0 _ _ #[#[_,rfl],_,_,_,_,rfl,hl2,ba2,bb2,cH (akE hp) (cH hp1 hp2)]))
 ·rintro c st' ⟨_,out,ia,ib,mg,rfl,hl,ba,bb,hp⟩;exact(afe (p:=0) htot hp ba bb).elim
 ·rintro c st' ⟨⟨g,rfl⟩,r,c',rfl,hm⟩
  iterate 1 (extract_lets +onlyGivenNames -underBinder -merge zz;subst zz)
  walk_at "b"
  walk_at "b"
  exact aR (h _ _ hm)
end
noncomputable def mhi:Array Keyed->Array Keyed->StateT SortSt Sem (Array Keyed):=sortPriv% PySem.Builtin.mergeHi
section
variable{prog:aK}{w:World}{A:aY}{E:Value->Shared->Prop}{s:Shared}[Rl prog w A E s]
theorem Hi.a'{a b out:Array Keyed}{na nb:Nat}{x:Keyed}(h:Hi a b out na nb)(h0:0<na)(e:a[na-1]? = some x)(hx:∀j,j<nb->j<b.size->K b j<=K a (na-1)):Hi a b (out.push x) (na-1) nb:=by
 refine Hi.a ?_ e hx;rwa[akA h0]
theorem Hi.b'{a b out:Array Keyed}{na nb:Nat}{x:Keyed}(h:Hi a b out na nb)(h0:0<nb)(e:b[nb-1]? = some x)(hx:∀j,j<na->j<a.size->K a j<=K b (nb-1)):Hi a b (out.push x) na (nb-1):=by
 refine Hi.b ?_ e hx;rwa[akA h0]
theorem apZ{a b:Array Keyed}{st:SortSt}{Q:Array Keyed->SortSt->Prop}(hk:kindOf st=kd0)(ka:IntKeys a)(kb:IntKeys b)(sa:Srt a 0 a.size)(sb:Srt b 0 b.size)(na:1<=a.size)(nb:1<=b.size)
  (hF:∀i,i<a.size->K b 0<=K a i) (hL:∀j,j<b.size->K b j<=K a (a.size-1)) (h:∀out g,fP a.toList b.toList out.toList->Q out (setG st g)):
  wpS (model prog w) A E s (mhi a b) Q st:=by
 refine aL (DN (oY #[rfl,?_]))
 k_dat (total,htot) "a"
 k_dat (done,hdone) "a"
 k_dat (firstOfB,hfirst) "a"
 have ea:∀i,i<a.size->∃(t:Keyed) (_:Is t (K a i)),a[i]? = some t:=fun i hi=>Et ka hi;have eb:∀i,i<b.size->∃(t:Keyed) (_:Is t (K b i)),b[i]? = some t:=fun i hi=>Et kb hi;have zK:∀out na nb,Hi a b out na nb->(na=0\/nb=0)->fP a.toList b.toList (done out na nb).toList:=fun out na nb hl hc=>by
  rw[hdone];exact hl.done fun i j h1 h2 h3 h4=>by
   rcases hc with rfl|rfl
   ·exact mI h1 (YB _)
   ·exact mI h3 (YB _)
 have Z6:∀out na nb,Hi a b out na nb->nb=1->fP a.toList b.toList (firstOfB out na nb).toList:=fun out na nb hl hc=>by
  rw[hfirst];exact hl.first fun i j h1 h2 h3 h4=>by
   have:i=0:=Nat.lt_one_iff.mp (hc ▸ h1);subst this;exact hF j h4
 clear hdone hfirst
 k_dat (na0,hna0) "a"
 k_dat (nb0,hnb0) "a"
 obtain⟨t0,q0,e0⟩:=ea na0 (by rw[hna0];exact yN na yM);refine aL (cP e0 ?_)
 k_dat (afh,abF) "a"
 have hHi:Hi a b afh na0 nb0:=by
  subst abF hnb0 hna0;exact(Hi.start sa sb).a' na e0 fun j _ hj=>hL j hj
 by_cases c1:na0=0
 ·refine bV (by simpa using c1) ?_;exact aR (h _ (yO st) (zK _ _ _ hHi (.inl c1)))
 refine bN (by simpa using c1) ?_;by_cases c2:nb0=1
 ·refine bV (by simpa using c2) ?_;exact aR (h _ (yO st) (Z6 _ _ _ hHi c2))
 refine bN (by simpa using c2) ?_;have ba0:0<na0:=BL c1;have bb0:1<nb0:=jJ (by rwa[hnb0]) (aG c2);have la0:na0<=a.size:=by rw[hna0];exact akI ..
 have lb0:nb0<=b.size:=Dw hnb0;clear abF hna0 hnb0 c1 c2;refine aL (rT ?_)
 k_dat (mg0,hmg0) "a"
 clear hmg0;refine aL (fC (kW (a:=0) (b:=total) (I:=fun x c st'=>(∃ g,st'=setG st g)/\∃ (out:Array Keyed) (na nb mg:Nat),c=(none,na,nb,out,mg)/\Hi a b out na nb/\(0<na/\na<=a.size)/\(1<nb/\nb<=b.size)/\x+na+nb<=total)
  (Q:=fun c st'=>(∃ g,st'=setG st g)/\∃ (r:Array Keyed) (c':_),c=(some r,c')/\fP a.toList b.toList r.toList) ?_ ?_ #[#[yO st,rfl],afh,na0,nb0,mg0,rfl,hHi,#[ba0,la0],#[bb0,lb0],by rw [htot,oE];exact YC la0 lb0]) ?_)
 ·rintro x c st' _ hx ⟨⟨g,rfl⟩,out,na,nb,mg,rfl,hl,ba,bb,hp⟩;refine Bc fun Q0 hQ0=>?_
  iterate 9 (extract_lets +onlyGivenNames -underBinder -merge zz;subst zz)
  walk_at "b"
  refine aL (fC (kW (a:=0) (b:=total) (I:=fun y c st'=>st'=setG st g/\∃ out' na' nb' ac bc,c=(none,na',nb',out',ac,bc)/\Hi a b out' na' nb'/\(0<na'/\na'<=a.size)/\(1<nb'/\nb'<=b.size)/\y+na'+nb'<=na+nb)
   (Q:=fun c st'=>st'=setG st g/\((∃ (r:Array Keyed) (c':_),c=(some r,c')/\fP a.toList b.toList r.toList)\/∃ out' na' nb' ac bc,c=(none,na',nb',out',ac,bc)/\Hi a b out' na' nb'/\(0<na'/\na'<=a.size)/\(1<nb'/\nb'<=b.size)/\na'+nb'+1<=na+nb)) ?_ ?_ #[rfl,out,na,nb,0,0,rfl,hl,ba,bb,by rw [oE];exact bC _]) ?_)
  ·rintro y c st' _ hy ⟨rfl,out,na,nb,ac,bc,rfl,hl,ba,bb,hp'⟩;refine Bc fun Q1 hQ1=>?_;have hM:=fun r c' m=>hQ1 (.done (some r,c')) (setG st g) #[rfl,.inl #[r,c',rfl,m]];have hN:=fun o i j ac bc h1 h2 h3 h4=>hQ1 (.done (none,i,j,o,ac,bc)) (setG st g) #[rfl,.inr #[o,i,j,ac,bc,rfl,h1,h2,h3,n3 (y:=y) h4]];have hY:=fun o i j ac bc h1 h2 h3 h4=>hQ1 (.yield (none,i,j,o,ac,bc)) (setG st g) #[rfl,o,i,j,ac,bc,rfl,h1,h2,h3,h4];clear hQ1
   iterate 9 (extract_lets +onlyGivenNames -underBinder -merge zz;subst zz)
   walk_at "b"
   have n0:=akD bb.1;have b0:=p1 n0 bb.2;have a0:=p1 ba.1 ba.2;obtain⟨t1,q1,e1⟩:=eb (nb-1) b0;obtain⟨t2,q2,e2⟩:=ea (na-1) a0;refine aL (cP e1 ?_);refine aL (cP e2 ?_);refine aL (RN hk ?_)
   walk_at "b"
   by_cases hw:K b (nb-1)<K a (na-1)
   ·refine bV (mN hw) ?_
    iterate 1 (extract_lets +onlyGivenNames -underBinder -merge zz;subst zz)
    walk_at "b"
    refine aL (cP e2 ?_)
    iterate 3 (extract_lets +onlyGivenNames -underBinder -merge zz;subst zz)
    walk_at "b"
    have hl':=hl.a' ba.1 e2 fun j h1 h2=>gn (sb j (nb-1) (bF _) (BJ h1) b0) (jt hw);by_cases c1:na-1=0
    ·refine bV (by simpa using c1) ?_;exact aR (hM _ _ (zK _ _ _ hl' (.inl c1)))
    refine bN (by simpa using c1) ?_;by_cases c2:ac+1>=mg
    ·refine bV c2 ?_;exact aR (hN _ _ _ _ _ hl' #[BL c1,eF a0] bb (z1 hp' ba.1))
    ·refine bN c2 ?_;exact aR (hY _ _ _ _ _ hl' #[BL c1,eF a0] bb (z1 hp' ba.1))
   ·refine bN (by simpa using hw) ?_
    iterate 1 (extract_lets +onlyGivenNames -underBinder -merge zz;subst zz)
    walk_at "b"
    refine aL (cP e1 ?_)
    iterate 3 (extract_lets +onlyGivenNames -underBinder -merge zz;subst zz)
    walk_at "b"
    have hl':=hl.b' n0 e1 fun j h1 h2=>gn (sa j (na-1) (bF _) (BJ h1) a0) (jM.mp hw);by_cases c1:nb-1=1
    ·refine bV (by simpa using c1) ?_;exact aR (hM _ _ (Z6 _ _ _ hl' c1))
    refine bN (by simpa using c1) ?_;by_cases c2:bc+1>=mg
    ·refine bV c2 ?_;exact aR (hN _ _ _ _ _ hl' ba #[jJ (BJ bb.1) (aG c1),eF b0] (z2 hp' n0))
    ·refine bN c2 ?_;exact aR (hY _ _ _ _ _ hl' ba #[jJ (BJ bb.1) (aG c1),eF b0] (z2 hp' n0))
  ·rintro c st' ⟨rfl,_,_,_,_,_,rfl,_,b1,_,hp'⟩;exact(afg htot hp' ba.2 bb.2 b1.1).elim
  rintro c st' ⟨rfl,(⟨r,c',rfl,hm⟩|⟨out1,na1,nb1,ac,bc,rfl,hl1,ba1,bb1,hp1⟩)⟩
  ·iterate 10 (extract_lets +onlyGivenNames -underBinder -merge zz;subst zz)
   walk_at "b"
   walk_at "b"
   exact aR (hQ0 _ _ #[#[g,rfl],r,_,rfl,hm])
  iterate 10 (extract_lets +onlyGivenNames -underBinder -merge zz;subst zz)
  walk_at "b"
  walk_at "b"
  refine aL (DN (oY #[rfl,?_]))
  iterate 1 (extract_lets +onlyGivenNames -underBinder -merge zz;subst zz)
  walk_at "b"
  refine aL (fC (kW (a:=0) (b:=total) (I:=fun y c st'=>(∃ g,st'=setG st g)/\∃ out' na' nb' mg ac bc,c=(none,na',nb',out',mg,ac,bc)/\Hi a b out' na' nb'/\(0<na'/\na'<=a.size)/\(1<nb'/\nb'<=b.size)/\y+na'+nb'<=na1+nb1)
   (Q:=fun c st'=>(∃ g,st'=setG st g)/\((∃ (r:Array Keyed) (c':_),c=(some r,c')/\fP a.toList b.toList r.toList)\/∃ out' na' nb' mg ac bc,c=(none,na',nb',out',mg,ac,bc)/\Hi a b out' na' nb'/\(0<na'/\na'<=a.size)/\(1<nb'/\nb'<=b.size)/\na'+nb'<=na1+nb1)) ?_ ?_ #[#[g,rfl],out1,na1,nb1,_,ac,bc,rfl,hl1,ba1,bb1,by rw [oE];exact bC _]) ?_)
  ·rintro y c st' _ hy ⟨⟨g,rfl⟩,out,na,nb,mg,ac,bc,rfl,hl,ba,bb,hp'⟩;refine Bc fun Q2 hQ2=>?_;have hM:=fun g r c' m=>hQ2 (.done (some r,c')) (setG st g) #[#[g,rfl],.inl #[r,c',rfl,m]];have hN:=fun g o i j mg ac bc h1 h2 h3 h4=>hQ2 (.done (none,i,j,o,mg,ac,bc)) (setG st g) #[#[g,rfl],.inr #[o,i,j,mg,ac,bc,rfl,h1,h2,h3,Qy (n3 (y:=y) h4)]];have hY:=fun g o i j mg ac bc h1 h2 h3 h4=>hQ2 (.yield (none,i,j,o,mg,ac,bc)) (setG st g) #[#[g,rfl],o,i,j,mg,ac,bc,rfl,h1,h2,h3,h4];clear hQ2
   iterate 11 (extract_lets +onlyGivenNames -underBinder -merge zz;subst zz)
   walk_at "b"
   k_dat (jp,hjp) "a"
   have key:∀u mg,wpS (model prog w) A E s (jp u mg) Q2 (setG st g):=by
    intro u mg;rw[hjp];clear hjp jp;refine aL ?_;show wpS _ _ _ _ (GF mg) _ _;rw[vP];refine mW ?_;show wpS _ _ _ _ _ _ (setG st mg);have n0:=akD bb.1;have b0:=p1 n0 bb.2;obtain⟨t1,q1,e1⟩:=eb (nb-1) b0;refine aL (cP e1 ?_);refine aL (jB (st:=setG st mg) (oE _) hk (fun i _ h2=>ea i (cY h2 ba.2)) (yN ba.1 yM) (fun i j _ h1 h2 h3=>?_) fun k hk1 hk2 hk3=>?_)
    ·simp only[bey,vd,if_false,JQ,decide_eq_false_iff_not,jM]at h3 ⊢;exact gn (sa _ _ (bF _) h1 (cY h2 ba.2)) h3
    simp only[bey,vd,if_false,JQ,aeo,decide_eq_true_eq,decide_eq_false_iff_not,jM,oE]at hk1 hk2 hk3
    walk_at "b"
    iterate 2 (extract_lets +onlyGivenNames -underBinder -merge zz;subst zz)
    walk_at "b"
    k_dat (jp2,Ni) "a"
    have key2:∀u out na',Hi a b out na' nb->0<na'->na'<=na->(∀j,j<na'->j<a.size->K a j<=K b (nb-1))->wpS (model prog w) A E s (jp2 u na' out) Q2 (setG st mg):=by
     intro u out na' hl ba' hle hge;rw[Ni];clear Ni jp2
     dsimp(config:={ zeta:=false }) only
     iterate 1 (extract_lets +onlyGivenNames -underBinder -merge zz;subst zz)
     walk_at "b"
     refine aL (cP e1 ?_)
     iterate 1 (extract_lets +onlyGivenNames -underBinder -merge zz;subst zz)
     walk_at "b"
     have hl':=hl.b' n0 e1 hge;by_cases c1:nb-1=1
     ·refine bV (by simpa using c1) ?_;exact aR (hM mg _ _ (Z6 _ _ _ hl' c1))
     refine bN (by simpa using c1) ?_;have a1:=p1 ba' (cH hle ba.2);obtain⟨t2,q2,e2⟩:=ea (na'-1) a1;refine aL (cP e2 ?_);refine aL (jB (st:=setG st mg) (oE _) hk (fun i _ h2=>eb i (JH h2 b0)) (yN (ad0 bb.1) yM) (fun i j _ h1 h2 h3=>?_) fun k hk1 hk2 hk3=>?_)
     ·simp only[bey,if_true,decide_eq_true_eq]at h3 ⊢;exact aek (sb _ _ (bF _) h1 (JH h2 b0)) h3
     simp only[bey,if_true,decide_eq_true_eq,decide_eq_false_iff_not,jM,oE]at hk1 hk2 hk3
     walk_at "b"
     iterate 2 (extract_lets +onlyGivenNames -underBinder -merge zz;subst zz)
     walk_at "b"
     k_dat (jp3,afi) "a"
     have anf:∀u out nb',Hi a b out na' nb'->1<nb'->nb'+1<=nb->(∀j,j<nb'->j<b.size->K b j<=K a (na'-1))->wpS (model prog w) A E s (jp3 u nb' out) Q2 (setG st mg):=by
      intro u out nb' hl bb' hle' hge';rw[afi];clear afi jp3
      dsimp(config:={ zeta:=false }) only
      iterate 1 (extract_lets +onlyGivenNames -underBinder -merge zz;subst zz)
      walk_at "b"
      refine aL (cP e2 ?_)
      iterate 1 (extract_lets +onlyGivenNames -underBinder -merge zz;subst zz)
      walk_at "b"
      have hl':=hl.a' ba' e2 hge';by_cases c1:na'-1=0
      ·refine bV (by simpa using c1) ?_;exact aR (hM mg _ _ (zK _ _ _ hl' (.inl c1)))
      refine bN (by simpa using c1) ?_;split
      ·exact aR (hN mg _ _ _ _ _ _ hl' #[BL c1,eF a1] #[bb',cH (Qy hle') bb.2] (z3 hp' hle hle'))
      ·exact aR (hY mg _ _ _ _ _ _ hl' #[BL c1,eF a1] #[bb',cH (Qy hle') bb.2] (z3 hp' hle hle'))
     clear afi;by_cases hk0:nb-1-k>0
     ·refine bV hk0 ?_
      iterate 2 (extract_lets +onlyGivenNames -underBinder -merge zz;subst zz)
      walk_at "b"
      have hl2:=hl'.bs hk1 fun i j h1 h2 h3 h4 h5 =>
       gn (sa j (na'-1) (bF _) (BJ h4) a1) (hk3 i h1 h2)
      by_cases c2:k=1
      ·refine bV (by simpa using c2) ?_;exact aR (hM mg _ _ (Z6 _ _ _ hl2 c2))
      refine bN (by simpa using c2) ?_;by_cases c3:k=0
      ·refine bV (by simpa using c3) ?_;exact aR (hM mg _ _ (zK _ _ _ hl2 (.inr c3)))
      refine bN (by simpa using c3) ?_;exact anf _ _ _ hl2 (jJ (BL c3) (aG c2)) (cH (Nat.sub_pos_iff_lt.mp hk0) (akI ..)) fun j h1 _=>jt (hk2 j (bF _) h1)
     ·refine bN hk0 ?_;obtain rfl:nb-1=k:=Yz (adX (Yw hk0)) hk1;exact anf _ _ _ hl' (jJ (BJ bb.1) (aG c1)) (yN n0 yM) fun j h1 _=>jt (hk2 j (bF _) h1)
    clear Ni;by_cases hk0:na-k>0
    ·refine bV hk0 ?_
     iterate 2 (extract_lets +onlyGivenNames -underBinder -merge zz;subst zz)
     walk_at "b"
     have hl2:=hl.as (k:=k) hk1 fun i j h1 h2 h3 h4 h5 =>
      gn (sb j (nb-1) (bF _) (BJ h4) b0) (jt (hk3 i h1 h2))
     by_cases c2:k=0
     ·refine bV (by simpa using c2) ?_;exact aR (hM mg _ _ (zK _ _ _ hl2 (.inl c2)))
     refine bN (by simpa using c2) ?_;exact key2 _ _ _ hl2 (BL c2) hk1 fun j h1 _=>hk2 j (bF _) h1
    ·refine bN hk0 ?_;obtain rfl:na=k:=Yz (adX (Yw hk0)) hk1;exact key2 _ _ _ hl ba.1 (bC _) fun j h1 _=>hk2 j (bF _) h1
   clear hjp;split
   ·iterate 1 (extract_lets +onlyGivenNames -underBinder -merge zz;subst zz)
    walk_at "b"
    exact key _ _
   ·exact key _ _
  ·rintro c st' ⟨_,_,_,_,_,_,_,rfl,_,b1,_,hp'⟩;exact(afg htot (cH hp' (Qy hp1)) ba.2 bb.2 b1.1).elim
  rintro c st' ⟨⟨g,rfl⟩,(⟨r,c',rfl,hm⟩|⟨out2,na2,nb2,mg2,ac,bc,rfl,hl2,ba2,bb2,hp2⟩)⟩
  ·iterate 9 (extract_lets +onlyGivenNames -underBinder -merge zz;subst zz)
   walk_at "b"
   walk_at "b"
   exact aR (hQ0 _ _ #[#[g,rfl],r,_,rfl,hm])
  iterate 9 (extract_lets +onlyGivenNames -underBinder -merge zz;subst zz)
  walk_at "b"
  walk_at "b"
  iterate 1 (extract_lets +onlyGivenNames -underBinder -merge zz;subst zz)
  walk_at "b"
  refine aL ?_;show wpS _ _ _ _ (GF _) _ _;rw[vP];refine mW (aR (hQ0 _ _ #[#[_,rfl],_,_,_,_,rfl,hl2,ba2,bb2,by lia]))
 ·rintro c st' ⟨_,out,na,nb,mg,rfl,hl,ba,bb,hp⟩;exact(afg htot (by rwa[<-htot]) (bC _) (bC _) ba.1).elim
 ·rintro c st' ⟨⟨g,rfl⟩,r,c',rfl,hm⟩
  iterate 1 (extract_lets +onlyGivenNames -underBinder -merge zz;subst zz)
  walk_at "b"
  walk_at "b"
  exact aR (h _ _ hm)
end
theorem agN:∀(l:List Keyed)(n p:Nat)(arr:Array Keyed),p+n+l.length<=arr.size ->
  ((l.zipIdx n).foldl (fun a (x:Keyed × Nat)=>a.setIfInBounds (p+x.2) x.1) arr).size=arr.size/\∀i,((l.zipIdx n).foldl (fun a (x:Keyed × Nat)=>a.setIfInBounds (p+x.2) x.1) arr)[i]? = if p+n<=i/\i<p+n+l.length then l[i-(p+n)]? else arr[i]?
 |[],n,p,arr,h=>#[rfl,fun i=>by rw[mw fun q=>mI q.1 (DG.mpr q.2)];rfl]
 |x::l,n,p,arr,h=>by
  rw[fu]at h;have ih:=agN l (n+1) p (arr.setIfInBounds (p+n) x) (by rwa[alh,<-o9,akB _ 1]);rw[List.zipIdx_cons,XD];show#[ih.1.trans alh,fun i=>?_];rw[ih.2 i,fu,<-o9 p n 1,akB _ 1,<-o9 _ _ 1];have hp:p+n<arr.size:=cY (aky (ad2 _)) h;generalize p+n=q at *;by_cases h2:i=q
  ·subst h2;rw[mw fun z=>mI z.1 (Nat.not_succ_le_self _),mB #[bC _,Nat.lt_succ_of_le (iZ ..)],Qz,List.getElem?_cons_zero,Array.getElem?_setIfInBounds_self,mB hp]
  ·rw[Array.getElem?_setIfInBounds_ne (aG h2)];by_cases h1:q+1<=i/\i<q+l.length+1
   ·rw[mB h1,mB #[eF h1.1,h1.2]];obtain⟨d,rfl⟩:=Yv h1.1;rw[Qv,o9,Qv,ad3 1 d,ac3]
   ·rw[mw h1,mw fun z=>h1 #[jJ z.1 (aG h2),z.2]]
structure Put(arr R:Array Keyed)(p r:Nat)(m:List Keyed):Prop where
 size:R.size=arr.size
 at_:∀i,R[i]? = if p<=i/\i<r then m[i-p]? else arr[i]?
theorem Put.list(h:Put arr R p r m)(hr:r<=arr.size)(hm:p+m.length=r):R.toList=arr.toList.take p++(m++arr.toList.drop r):=by
 subst hm;have hl:(arr.toList.take p).length=p:=by rw[dN];exact rQ (cH (iZ ..) hr)
 apply List.ext_getElem?;intro i;rw[gR,h.at_ i];by_cases h1:i<p
 ·rw[mw fun q=>mI q.1 (DG.mpr h1),PK (by rwa[hl]),List.getElem?_take,mB h1,gR]
 ·obtain⟨d,rfl⟩:=Yv (tM h1);rw[xZ (by rw[hl];exact iZ ..),hl,Qv];by_cases h2:d<m.length
  ·rw[mB #[iZ ..,Yx h2 _],PK h2]
  ·have h2:=tM h2;rw[mw fun q=>mI (adV q.2) (QB.mpr h2),xZ h2,List.getElem?_drop,o9,Qx h2,gR]
theorem WM{arr:Array Keyed}(hq:q<=arr.size)(hi:p+i<q):K (arr.extract p q) i=K arr (p+i):=by
 unfold K;rw[Array.getElem?_extract,mB (Nat.lt_sub_of_add_lt (by rwa[rQ hq,ad3]))]
theorem RQ   (h:IntKeys arr):IntKeys (arr.extract p q):=fun x hx=>h x (by
 rw [JN,Jj] at hx;exact Qa (ac6 hx))
section
variable{prog:aK}{w:World}{A:aY}{E:Value->Shared->Prop}{s:Shared}[Rl prog w A E s]
theorem ap0{σ:Type}{M:Model}{x:σ}{Q:PUnit->σ->Prop}{st:σ}(h:Q ⟨⟩ x):wpS M A E s (set x:StateT σ Sem PUnit) Q st:=by
 unfold wpS;rw[StateT.run_set];exact aN #[rfl,h]
noncomputable abbrev jx(p:Array (Nat × Nat × Nat))(i:Nat)(x:Nat × Nat × Nat):Array (Nat × Nat × Nat):=(p.setIfInBounds i x).eraseIdxIfInBounds (i+1)
theorem abG{i sa na nb pw pw':Nat}{st:SortSt}{Q:Bool->SortSt->Prop}(hk:kindOf st=kd0)(hf:pD st=none)(h0:IntKeys (arrOf st))
  (e1:(cZ st)[i]? = some (sa,na,pw)) (e2:(cZ st)[i+1]? = some (sa+na,nb,pw')) (hna:1<=na) (hnb:1<=nb) (hz:sa+na+nb<=(arrOf st).size)
  (S1:Srt (arrOf st) sa (sa+na)) (S2:Srt (arrOf st) (sa+na) (sa+na+nb))
  (h:∀ys g,Within (arrOf st) ys sa (sa+na+nb)->Srt ys sa (sa+na+nb)->Q true (Ed (kindOf st) ys (jx (cZ st) i (sa,na+nb,pw)) g none)):
  wpS (model prog w) A E s (mergeAt' i) Q st:=by
 refine aL (rT ?_);rw[e1,e2]
 walk_at "b"
 refine aL (ap0 ?_);have ea:∀i,i<(arrOf st).size->∃(t:Keyed) (_:Is t (K (arrOf st) i)),(arrOf st)[i]? = some t:=fun i hi=>Et h0 hi;have h':∀ys g,Within (arrOf st) ys sa (sa+na+nb)->Srt ys sa (sa+na+nb)->Q true (Ed (kindOf st) ys (jx (cZ st) i (sa,na+nb,pw)) g (pD st)):=fun ys g a b=>by rw[hf];exact h ys g a b
 clear h;show wpS _ _ _ _ _ _ (Ed (kindOf st) (arrOf st) (jx (cZ st) i (sa,na+nb,pw)) (yO st) (pD st));generalize hst:Ed (kindOf st) (arrOf st) (jx (cZ st) i (sa,na+nb,pw)) (yO st) (pD st)=st1;have hk1:kindOf st1=kd0:=by rwa[<-hst]
 have h1:∀ys g,Within (arrOf st) ys sa (sa+na+nb)->Srt ys sa (sa+na+nb)->Q true (d8 (setG st1 g) ys):=fun ys g a b=>by rw[<-hst];exact h' ys g a b
 have h2:Srt (arrOf st) sa (sa+na+nb)->Q true st1:=fun b=>by rw[<-hst];exact h' _ _ (Within.refl _ _ _) b
 have ha1:arrOf st1=arrOf st:=by rw[<-hst]
 have hf1:pD st1=none:=by rwa[<-hst]
 clear h' hst;have hA:=cY (aky (n:=sa+na) hnb) hz;obtain⟨t1,q1,k1⟩:=ea (sa+na) hA;refine aL (cP k1 ?_);refine aL (jB rfl hk1 (fun i _ h2=>ea i (JH h2 hA)) hna (fun i j h0 h1 h2 h3=>?_) fun k hka hk2 hk3=>?_)
 ·simp only[bey,vd,if_false,JQ,decide_eq_false_iff_not,jM]at h3 ⊢;exact gn (S1 _ _ h0 h1 h2) h3
 simp only[bey,vd,if_false,JQ,aeo,decide_eq_true_eq,decide_eq_false_iff_not,jM]at hk2 hk3
 walk_at "b"
 have hk1':=akx hka;have ke:sa+k+(na-k)=sa+na:=by rw[o9,Qx hk1']
 have hB:sa+na-1<sa+na:=yN (cY hna (akG ..)) yM;by_cases c1:na-k=0
 ·refine bV (by simpa using c1) ?_;refine aR (h2 fun i j g1 g2 g3=>?_);by_cases a1:j<sa+na
  ·exact S1 i j g1 g2 a1
  ·by_cases a2:sa+na<=i
   ·exact S2 i j a2 g2 g3
   ·exact gn (hk2 i g1 (cY (akF a2) (JF (adX c1) _))) (S2 _ j (bC _) (tM a1) g3)
 refine bN (by simpa using c1) ?_;rw[ke];obtain⟨t2,q2,k2⟩:=ea (sa+na-1) (JH hB hA);refine aL (cP k2 ?_);refine aL (jB rfl hk1 (fun i _ h2=>ea i (cY h2 hz)) (yN hnb yM) (fun i j h0 h1 h2 h3=>?_) fun m hm1 hm2 hm3=>?_)
 ·simp only[bey,if_true,decide_eq_true_eq]at h3 ⊢;exact aek (S2 _ _ h0 h1 h2) h3
 simp only[bey,if_true,decide_eq_true_eq,decide_eq_false_iff_not,jM]at hm2 hm3
 walk_at "b"
 by_cases c2:m=0
 ·refine bV (by simpa using c2) ?_;refine aR (h2 fun i j g1 g2 g3=>?_);by_cases a1:j<sa+na
  ·exact S1 i j g1 g2 a1
  ·by_cases a2:sa+na<=i
   ·exact S2 i j a2 g2 g3
   ·subst c2;exact gn (S1 i (sa+na-1) g1 (BJ (akF a2)) hB) (hm3 j (tM a1) g3)
 refine bN (by simpa using c2) ?_
 k_dat (x,hx) "a"
 k_dat (y,hy) "a"
 k_dat (jp,hjp) "a"
 have xs:x.size=na-k:=by rw[hx,aln];show min (sa+na) (arrOf st).size-(sa+k)=_;rw[rQ (eF hA),Nat.add_sub_add_left]
 have hM:=cH hm1 hz;have ys:y.size=m:=by rw[hy,aln];show min (sa+na+m) (arrOf st).size-(sa+na)=_;rw[rQ hM,Qv]
 have px:0<x.size:=by rw[xs];exact BL c1
 have py:0<y.size:=by rw[ys];exact BL c2
 have hX:∀i,i<x.size->sa+k+i<sa+na:=fun i hi=>by rw[xs]at hi;rw[<-ke];exact Yx hi _
 have hY:∀i,i<y.size->sa+na+i<sa+na+m:=fun i hi=>by rw[ys]at hi;exact Yx hi _
 have Kx:∀i,i<x.size->K x i=K (arrOf st) (sa+k+i):=fun i hi=>by rw[hx];exact WM (arr:=arrOf st) (eF hA) (hX i hi)
 have Ky:∀i,i<y.size->K y i=K (arrOf st) (sa+na+i):=fun i hi=>by rw[hy];exact WM (arr:=arrOf st) hM (hY i hi)
 have key:∀(out:Array Keyed) g,fP x.toList y.toList out.toList->wpS (model prog w) A E s (jp out) Q (setG st1 g):=by
  intro out g hm;rw[hjp];refine aL (mW ?_);refine aL (rT (aR ?_));show Q (pD st1).isNone (d8 (setG st1 g) (adp (fun a (x:Keyed × Nat)=>a.setIfInBounds (sa+k+x.2) x.1) (arrOf st1) out.toList.zipIdx));rw[hf1,ha1];have oe:sa+k+out.toList.length=sa+na+m:=by rw[hm.perm.length_eq,dw,iQ,iQ,xs,ys,<-o9,ke]
  have hP:Put (arrOf st) (adp (fun a (x:Keyed × Nat)=>a.setIfInBounds (sa+k+x.2) x.1) (arrOf st) out.toList.zipIdx) (sa+k) (sa+na+m) out.toList:=by
   have:=agN out.toList 0 (sa+k) (arrOf st) (by rwa[uY,oe]);rw[uY,oe]at this;show#[this.1,this.2]
  generalize adp (fun a (x:Keyed × Nat)=>a.setIfInBounds (sa+k+x.2) x.1) (arrOf st) out.toList.zipIdx=R at hP ⊢;have f:∀i,sa+k<=i->i<sa+na+m->∃hi:i-(sa+k)<out.toList.length,K R i=kv out.toList[i-(sa+k)]:=fun i g1 g2=>by
   have hi:i-(sa+k)<out.toList.length:=Nat.sub_lt_left_of_lt_add g1 (by rwa[oe]);have e:R[i]? = some out.toList[i-(sa+k)]:=by rw[hP.at_ i,mB #[g1,g2],eU hi]
   show#[hi,(GC e).symm]
  have mid:∀i,sa+k<=i->i<sa+na+m->∃j,sa+k<=j/\j<sa+na+m/\K R i=K (arrOf st) j:=fun i g1 g2=>by
   obtain⟨hi,e⟩:=f i g1 g2;have mem:out.toList[i-(sa+k)]∈x.toList++y.toList:=hm.perm.mem_iff.mp (CP hi);rw[e];rcases bO.mp mem with z|z
   ·rw[hx]at z;obtain⟨j,j1,j2,j3,j4⟩:=Bb z;show#[j,j1,cY j2 (iZ ..),j4]
   ·rw[hy]at z;obtain⟨j,j1,j2,j3,j4⟩:=Bb z;show#[j,cH hka j1,j2,j4]
  have ah6:∀i,(i<sa+k\/sa+na+m<=i)->K R i=K (arrOf st) i:=fun i hi=>K_congr (by rw[hP.at_ i,mw fun q=>hi.elim (QB.mpr q.1) (DG.mpr q.2)]);refine h1 R g #[aen.mpr ?_,fun i hi=>?_] fun i j g1 g2 g3=>?_
  ·rw[hP.list hM oe];have e:(arrOf st).toList=(arrOf st).toList.take (sa+k)++((x.toList++y.toList)++(arrOf st).toList.drop (sa+na+m)):=by
    have d1:=Gz (a:=arrOf st) (i:=sa+k) (k:=na-k);have d2:=Gz (a:=arrOf st) (i:=sa+na) (k:=m);rw[ke]at d1;rw[d2]at d1
    conv=>lhs;rw[<-Cv (sa+k) (arrOf st).toList,d1]
    rw[gD,hx,hy]
   conv=>rhs;rw[e]
   exact QL _ (alL _ hm.perm)
  ·rw[hP.at_ i,mw fun q=>hi.elim (fun z=>mI (cH (iZ ..) q.1) (DG.mpr z)) fun z=>mI (cH hm1 z) (DG.mpr q.2)]
  ·by_cases a1:i<sa+k
   ·rw[ah6 i (.inl a1)];by_cases b1:j<sa+k
    ·rw[ah6 j (.inl b1)];exact S1 i j g1 g2 (cY b1 hka)
    ·by_cases b2:j<sa+na+m
     ·obtain⟨j',j1,j2,j3⟩:=mid j (tM b1) b2;rw[j3];by_cases b3:j'<sa+na
      ·exact S1 i j' g1 (eF (cY a1 j1)) b3
      ·exact gn (hk2 i g1 a1) (S2 _ j' (bC _) (tM b3) (cY j2 hm1))
     ·have b2:=tM b2;rw[ah6 j (.inr b2)];exact gn (hk2 i g1 a1) (S2 _ j (bC _) (cH (iZ ..) b2) g3)
   ·have a1:=tM a1;by_cases a2:i<sa+na+m
    ·by_cases b2:j<sa+na+m
     ·obtain⟨hi,ei⟩:=f i a1 a2;obtain⟨hj,ej⟩:=f j (cH a1 g2) b2;rw[ei,ej];by_cases e:i=j
      ·subst e;exact bR _
      ·exact Jk.mp hm.srt _ _ hi hj (Nat.sub_lt_sub_right a1 (jJ g2 e))
     ·have b2:=tM b2;obtain⟨i',i1,i2,i3⟩:=mid i a1 a2;rw[i3,ah6 j (.inr b2)];by_cases b3:i'<sa+na
      ·exact gn (S1 i' (sa+na-1) (cH (iZ ..) i1) (BJ b3) hB) (hm3 j b2 g3)
      ·exact S2 i' j (tM b3) (eF (cY i2 b2)) g3
    ·have a2:=tM a2;rw[ah6 i (.inr a2),ah6 j (.inr (cH a2 g2))];exact S2 i j (cH (iZ ..) a2) g2 g3
 have A1:IntKeys x:=by rw[hx];exact RQ h0
 have A2:IntKeys y:=by rw[hy];exact RQ h0
 have A3:Srt x 0 x.size:=fun i j g1 g2 g3=>by rw[Kx i (BK g2 g3),Kx j g3];exact S1 _ _ (cH (iZ ..) (iZ ..)) (JF g2 _) (hX j g3)
 have A4:Srt y 0 y.size:=fun i j g1 g2 g3=>by rw[Ky i (BK g2 g3),Ky j g3];exact S2 _ _ (iZ ..) (JF g2 _) (cY (hY j g3) hm1)
 have A5:∀i,i<x.size->K y 0<=K x i:=fun i hi=>by
  rw[Kx i hi,Ky 0 py,uY];exact jt (hk3 _ (iZ ..) (hX i hi))
 have A6:∀j,j<y.size->K y j<=K x (x.size-1):=fun j hj=>by
  rw[Ky j hj,Kx _ (yN px yM),<-Nat.add_sub_assoc px,xs,ke];exact jt (hm2 _ (iZ ..) (hY j hj))
 clear hjp;split
 ·exact aL (apY hk1 A1 A2 A3 A4 px py A5 A6 fun out g hm=>key out g hm)
 ·exact aL (apZ hk1 A1 A2 A3 A4 px py A5 A6 fun out g hm=>key out g hm)
end
noncomputable def Runs(arr:Array Keyed):Nat->List (Nat × Nat × Nat)->Nat->Prop
 |p,[],q=>p=q
 |p,x::r,q=>x.1=p/\1<=x.2.1/\Srt arr p (p+x.2.1)/\Runs arr (p+x.2.1) r q
theorem Runs.le:∀{l:List (Nat × Nat × Nat)} {p q:Nat},Runs arr p l q->p+l.length<=q
 |[],p,q,h=>by rw[show p=q from h];exact bC _
 |x::r,p,q,h=>by have:=Runs.le h.2.2.2;have:=h.2.1;rw[fu];lia
theorem Runs.app:∀{l r:List (Nat × Nat × Nat)} {p q:Nat},Runs arr p (l++r) q↔∃m,Runs arr p l m/\Runs arr m r q
 |[],r,p,q=>#[fun h=>#[p,rfl,h],fun⟨m,h1,h2⟩=>by rwa[show p=m from h1]]
 |x::l,r,p,q=>by
  constructor
  ·rintro⟨h1,h2,h3,h4⟩;obtain⟨m,m1,m2⟩:=Runs.app.mp h4;show#[m,#[h1,h2,h3,m1],m2]
  ·rintro⟨m,⟨h1,h2,h3,m1⟩,m2⟩;show#[h1,h2,h3,Runs.app.mpr #[m,m1,m2]]
theorem Srt.out(h:Srt xs c d)(w:Within xs ys a b)(hc:d<=a\/b<=c):Srt ys c d:=fun i j h1 h2 h3=>by
 rw[K_congr (w.out i tb_g%),K_congr (w.out j tb_g%)];exact h i j h1 h2 h3
theorem Runs.out(w:Within xs ys a b):∀{l:List (Nat × Nat × Nat)} {p q:Nat},Runs xs p l q->(q<=a\/b<=p)->Runs ys p l q
 |[],p,q,h,_=>h
 |x::r,p,q,h,hc=>by
  have:=Runs.le h.2.2.2;show#[h.1,h.2.1,Srt.out h.2.2.1 w tb_g%,Runs.out w h.2.2.2 tb_g%]
theorem Runs.alike:∀{l l':List (Nat × Nat × Nat)} {p q:Nat},l.map (fun x=>(x.1,x.2.1))=l'.map (fun x=>(x.1,x.2.1))->Runs arr p l q->Runs arr p l' q
 |[],[],p,q,_,h=>h
 |[],_::_,p,q,e,h=>by simp at e
 |_::_,[],p,q,e,h=>by simp at e
 |x::r,y::r',p,q,e,h=>by
  rw[cX,cX]at e;obtain⟨e1,e2⟩:=atn e;obtain⟨e3,e4⟩:=Prod.mk.inj e1;show#[by rw[<-e3];exact h.1,by rw[<-e4];exact h.2.1,by rw[<-e4];exact h.2.2.1,?_];rw[<-e4];exact Runs.alike e2 h.2.2.2
structure Eu(a₀:Array Keyed)(st:SortSt)(lo:Nat):Prop where
 perm:(arrOf st).Perm a₀
 kind:kindOf st=kd0
 failed:pD st=none
 runs:Runs (arrOf st) 0 (cZ st).toList lo
 le:lo<=a₀.size
theorem afj(p:Array (Nat × Nat × Nat))(i pw:Nat):p.toList.map (fun x=>(x.1,x.2.1))=(p.modify i fun x=>(x.1,x.2.1,pw)).toList.map (fun x=>(x.1,x.2.1)):=by
 apply List.ext_getElem?;intro j;rw[dG,dG,gR,gR,Array.getElem?_modify];by_cases h:i=j
 ·rw[mB h,QJ];rfl
 ·rw[mw h]
section
variable{prog:aK}{w:World}{A:aY}{E:Value->Shared->Prop}{s:Shared}[Rl prog w A E s]
theorem GJ{a₀:Array Keyed}{i lo:Nat}{st:SortSt}{Q:Bool->SortSt->Prop}(h0:IntKeys a₀)(hI:Eu a₀ st lo)(hi:i+1<(cZ st).size)
  (h:∀st',Eu a₀ st' lo->(cZ st').size+1=(cZ st).size->Within (arrOf st) (arrOf st') 0 lo->Q true st'):wpS (model prog w) A E s (mergeAt' i) Q st:=by
 have hl:(cZ st).toList.length=(cZ st).size:=iQ;obtain⟨L,x1,x2,R,eL,lL⟩:∃L x1 x2 R,(cZ st).toList=L++x1::x2::R/\L.length=i:=by
  show#[(cZ st).toList.take i,(cZ st).toList[i],(cZ st).toList[i+1],(cZ st).toList.drop (i+2),?_,by rw[dN];lia]
  conv=>lhs;rw[<-Cv i (cZ st).toList,Ji tb_g%,Ji tb_g%]
 have hr:=hI.runs;rw[eL]at hr;obtain⟨m,r1,r2⟩:=Runs.app.mp hr;obtain⟨sa,na,pw⟩:=x1;obtain⟨sb,nb,pw'⟩:=x2;obtain⟨e1,n1,s1,e2,n2,s2,r3⟩:=r2;simp only at e1 n1 s1 e2 n2 s2 r3;subst e1;subst e2;have le3:=r3.le;have sz:=hI.perm.size_eq;have hle:=hI.le;refine abG (sa:=sa) (na:=na) (nb:=nb) (pw:=pw) (pw':=pw') hI.kind hI.failed (Az h0 hI.perm) ?_ ?_ n1 n2 tb_g% s1 s2 fun ys g hw hs=>?_
 ·rw[<-gR,eL,xZ tb_g%,lL,Qz];rfl
 ·rw[<-gR,eL,xZ tb_g%,lL,show i+1-i=1 by lia];rfl
 have eN:(jx (cZ st) i (sa,na+nb,pw)).toList=L++(sa,na+nb,pw)::R:=by
  show((Array.setIfInBounds _ _ _).eraseIdxIfInBounds (i+1)).toList=_;rw[Array.toList_eraseIdxIfInBounds,Array.toList_setIfInBounds,eL,<-lL];simp[List.eraseIdx_append];intro hh;lia
 refine h _ #[hw.perm.trans hI.perm,hI.kind,rfl,?_,hI.le] ?_ (hw.wide (bF _) tb_g%)
 ·show Runs ys 0 (jx (cZ st) i (sa,na+nb,pw)).toList lo;rw[eN];refine Runs.app.mpr #[sa,r1.out hw (.inl (bC _)),rfl,by show 1<=na+nb;lia,?_,?_]
  ·show Srt ys sa (sa+(na+nb));rwa[<-o9]
  ·show Runs ys (sa+(na+nb)) R lo;rw[<-o9];exact r3.out hw (.inr (bC _))
 ·show(jx (cZ st) i (sa,na+nb,pw)).size+1=_;have z1:=mM jF eN;have z2:=mM jF eL;simp only[iQ,dw,fu]at z1 z2;lia
theorem Vm{a₀:Array Keyed}{st:SortSt}{Q:Unit->SortSt->Prop}(h0:IntKeys a₀)(hB:SBase a₀ st)(h2:2<=a₀.size)
  (h:∀st',(arrOf st').Perm a₀->pD st'=none->SortedTo (arrOf st') a₀.size->Q () st'):wpS (model prog w) A E s sortRuns' Q st:=by
 rw[sortRuns'_eq];refine aL (rT ?_)
 k_dat (size,hsize) "a"
 k_dat (minrun,hmin) "a"
 clear hmin;have hsz:size=a₀.size:=hsize.trans hB.size;clear hsize;subst hsz
 k_dat (lo0,hlo0) "a"
 subst hlo0;have hI0:Eu a₀ st 0:=#[hB.perm,hB.kind,hB.failed,by rw[hB.pend];rfl,bF _];refine aL (fC (kW (a:=0) (I:=fun x c st'=>∃lo,c=(none,lo)/\Eu a₀ st' lo/\x<=lo) (Q:=fun c st'=>c=(none,a₀.size)/\Eu a₀ st' a₀.size) ?_ ?_ #[0,rfl,hI0,bC _]) ?_)
 ·rintro x c st' _ hx ⟨lo,rfl,hI,hxl⟩
  iterate 1 (extract_lets +onlyGivenNames -underBinder -merge zz;subst zz)
  walk_at "b"
  by_cases c1:lo>=a₀.size
  ·refine bV c1 ?_;have:lo=a₀.size:=by have:=hI.le;lia
   subst this;exact aR #[rfl,hI]
  refine bN c1 ?_;have sz:=hI.perm.size_eq;refine aL (apW hI.kind (Az h0 hI.perm) tb_g% tb_g% fun n ys n1 n2 _ hw hs=>?_)
  walk_at "b"
  iterate 1 (extract_lets +onlyGivenNames -underBinder -merge zz;subst zz)
  walk_at "b"
  k_dat (jp,hjp) "a"
  have key:∀ u n zs,Within (arrOf st') zs lo a₀.size->Srt zs lo (lo+n)->1<=n->lo+n<=a₀.size->wpS (model prog w) A E s (jp u n) (fun r st'=>match r with
    |ForInStep.done c'=>c'=(none,a₀.size)/\Eu a₀ st' a₀.size
    | ForInStep.yield c'=>∃ lo,c'=(none,lo)/\Eu a₀ st' lo/\x+1<=lo) (d8 st' zs):=by
   intro u n zs hw hs n1 n2;rw[hjp];clear hjp jp;have hI1:Eu a₀ (d8 st' zs) lo:=#[hw.perm.trans hI.perm,hI.kind,hI.failed,hI.runs.out hw (.inl (bC _)),hI.le];have hs1:Srt (arrOf (d8 st' zs)) lo (lo+n):=hs;generalize d8 st' zs=st1 at hI1 hs1 ⊢;refine aL (rT ?_)
   k_dat (jp2,Ni) "a"
   have key2:∀ u st2,Eu a₀ st2 lo->Srt (arrOf st2) lo (lo+n)->wpS (model prog w) A E s (jp2 u) (fun r st'=>match r with
    |ForInStep.done c'=>c'=(none,a₀.size)/\Eu a₀ st' a₀.size
    | ForInStep.yield c'=>∃ lo,c'=(none,lo)/\Eu a₀ st' lo/\x+1<=lo) st2:=by
    intro u st2 hI2 hs2;rw[Ni];refine aL (mW ?_)
    iterate 1 (extract_lets +onlyGivenNames -underBinder -merge zz;subst zz)
    walk_at "b"
    refine aR #[lo+n,rfl,#[hI2.perm,hI2.kind,hI2.failed,?_,n2],by lia];show Runs (arrOf st2) 0 ((cZ st2).push (lo,n,0)).toList (lo+n);rw[yS];exact Runs.app.mpr #[lo,hI2.runs,rfl,n1,hs2,rfl]
   clear Ni;split
   ·iterate 1 (extract_lets +onlyGivenNames -underBinder -merge zz;subst zz)
    walk_at "b"
    rename_i s1 n1' sn _;generalize power' a₀.size (2*s1+n1') (2*s1+n1'+n1'+n) a₀.size=pw;refine aL (fC (kW (a:=0) (I:=fun _ c st2=>c=(none,())/\Eu a₀ st2 lo/\Srt (arrOf st2) lo (lo+n)) (Q:=fun c st2=>c=(none,())/\Eu a₀ st2 lo/\Srt (arrOf st2) lo (lo+n)) ?_ (fun _ _ hh=>hh) #[rfl,hI1,hs1]) ?_)
    ·rintro y c st2 _ hy ⟨rfl,hI2,hs2⟩;refine aL (rT ?_)
     iterate 1 (extract_lets +onlyGivenNames -underBinder -merge zz;subst zz)
     walk_at "b"
     by_cases c2:(cZ st2).size>1
     ·rw[mB c2];have e:(cZ st2)[(cZ st2).size-2]? = some ((cZ st2)[(cZ st2).size-2]'tb_g%):=getElem?_pos _ _ _;rw[e];generalize (cZ st2)[(cZ st2).size-2]'tb_g%=z;obtain⟨z1,z2,older⟩:=z
      walk_at "b"
      by_cases c3:older<=pw
      ·refine bV c3 ?_;exact aR #[rfl,hI2,hs2]
      refine bN c3 ?_;refine aL (GJ h0 hI2 tb_g% fun st3 hI3 _ hw3=>?_);refine bN tb_g% ?_;exact aR #[rfl,hI3,Srt.out hs2 hw3 (.inr (bC _))]
     ·rw[mw c2];exact aR #[rfl,hI2,hs2]
    ·rintro c st2 ⟨rfl,hI2,hs2⟩
     iterate 1 (extract_lets +onlyGivenNames -underBinder -merge zz;subst zz)
     walk_at "b"
     walk_at "b"
     refine aL (mW ?_);refine fC (key2 _ _ #[hI2.perm,hI2.kind,hI2.failed,?_,hI2.le] hs2) fun r st' hh=>by cases r <;> exact hh
     exact hI2.runs.alike (afj _ _ _)
   ·exact fC (key2 _ _ hI1 hs1) fun r st' hh=>by cases r <;> exact hh
  clear hjp;rw[show lo+(a₀.size-lo)=a₀.size by lia]at hw;by_cases c2:n<minrun
  ·refine bV c2 ?_;refine aL (DN (oY #[rfl,?_]))
   iterate 1 (extract_lets +onlyGivenNames -underBinder -merge zz;subst zz)
   walk_at "b"
   have zz:ys.size=a₀.size:=(hw.perm.size_eq).trans sz;refine aL (am9 (st:=d8 st' ys) hI.kind (Az h0 (hw.perm.trans hI.perm)) (by show _<=ys.size;lia) tb_g% hs fun zs hw2 hs2=>?_);refine bN tb_g% ?_
   iterate 1 (extract_lets +onlyGivenNames -underBinder -merge zz;subst zz)
   walk_at "b"
   have hw3:Within (arrOf st') zs lo a₀.size:=hw.trans (hw2.wide (bC _) tb_g%);exact fC (key _ _ zs hw3 hs2 tb_g% tb_g%) fun r st' hh=>by cases r <;> exact hh
  ·refine bN c2 ?_;exact fC (key _ _ ys hw hs n1 tb_g%) fun r st' hh=>by cases r <;> exact hh
 ·rintro c st' ⟨lo,rfl,hI,hxl⟩;have:lo=a₀.size:=by have:=hI.le;lia
  subst this;show#[rfl,hI]
 ·rintro c st' ⟨rfl,hI⟩
  iterate 2 (extract_lets +onlyGivenNames -underBinder -merge zz;subst zz)
  walk_at "b"
  walk_at "b"
  have p0:(cZ st').size<=a₀.size:=by
   have:=hI.runs.le;rw[iQ]at this;lia
  refine aL (fC (kW (a:=0) (I:=fun x c st2=>c=(none,())/\Eu a₀ st2 a₀.size/\x+(cZ st2).size<=a₀.size+1) (Q:=fun c st2=>c=(none,())/\Eu a₀ st2 a₀.size/\(cZ st2).size<=1) ?_ ?_ #[rfl,hI,by lia]) ?_)
  ·rintro x c st2 _ hx ⟨rfl,hI2,hp⟩;refine aL (rT ?_)
   iterate 1 (extract_lets +onlyGivenNames -underBinder -merge zz;subst zz)
   walk_at "b"
   by_cases c2:(cZ st2).size<=1
   ·refine bV c2 ?_;exact aR #[rfl,hI2,c2]
   refine bN c2 ?_
   k_dat (i0,hi0) "a"
   k_dat (before,hbefore) "a"
   clear hbefore
   k_dat (i1,hi1) "a"
   have:i1+1<(cZ st2).size:=by
    rw[hi1];split <;> lia
   refine aL (GJ h0 hI2 this fun st3 hI3 hs3 _=>?_);refine bN tb_g% ?_;exact aR #[rfl,hI3,by lia]
  ·rintro c st2 ⟨rfl,hI2,hp⟩;show#[rfl,hI2,by lia]
  ·rintro c st2 ⟨rfl,hI2,hp⟩
   iterate 1 (extract_lets +onlyGivenNames -underBinder -merge zz;subst zz)
   walk_at "b"
   walk_at "b"
   refine aR (h _ hI2.perm hI2.failed ?_);have hr:=hI2.runs;have hl:(cZ st2).toList.length=(cZ st2).size:=iQ
   match e:(cZ st2).toList,hr with
   |[],hr=>have:0=a₀.size:=hr;lia
   |[x],⟨x1,x2,x3,x4⟩ =>
    have x5:0+x.2.1=a₀.size:=x4;rw[x5]at x3;exact fun i j g1 g2=>x3 i j (bF _) g1 g2
   |_::_::_,_=>rw[e]at hl;simp at hl;lia
end
end
section
variable{prog:aK}{w:World}{A:aY}{E:Value->Shared->Prop}{s:Shared}
theorem K_at[Rk]{xs:Array Keyed}{i:Nat}(hi:i<xs.size):K xs i=Rk.R xs[i]:=by unfold K;rw[getElem?_pos xs i hi]
theorem aua[Rk]{vs:List Value}{xs:Array Keyed}(hp:xs.Perm (yQ vs))(hs:SortedTo xs (yQ vs).size):
  (xs.map (·.2)).toList.Perm vs/\(xs.map (·.2)).toList.Pairwise fun x y=>Rk.R (x,x)<=Rk.R (y,y):=by
 have hl:xs.toList.Perm (vs.zip vs):=by rw[<-akS];exact aen.mp hp
 have hm:∀p,p∈xs.toList->p.1=p.2:=fun p h=>(akX (hl.mem_iff.mp h)).1;rw[Array.toList_map];constructor
 ·have h1:=hl.map alO
  rwa [ajE (bC _)]at h1
 ·refine uQ.mpr (Jk.mpr fun i j hi hj hij=>?_);have hi':i<xs.size:=by simpa using hi
  have hj':j<xs.size:=by simpa using hj
  have h1:=hs i j (eF hij) (by rwa[<-hp.size_eq]);rw[K_at hi',K_at hj']at h1;have e:∀p:Keyed,p∈xs.toList->((p.2,p.2):Keyed)=p:=fun p h=>pF (hm p h).symm rfl;rw[e _ (CP hi),e _ (CP hj)];simpa using h1
theorem ap1[Rk]{a:Addr}{vs:List Value}{n:Nat}{P:Fin->Shared->Prop}(at_:s⁻¹ a=some (cR "list" vs.toArray n))(few:vs.length<=sizeLine)(hok:∀v∈vs,Rk.Ok (v,v))
  (hkey:2<=vs.length->∀s2 Q,(∀b o,b≠a->s⁻¹ b=some o->s2⁻¹ b=some o)->Q Rk.kd s2->wpAny (model prog w) A (keyKind' vs.toArray) Q E s2)
  (hlt:∀s2:Shared,(∀b o,b≠a->s⁻¹ b=some o->s2⁻¹ b=some o)->Rl prog w A E s2)
  (told:∀out:Array Value,out.toList.Perm vs->(out.toList.Pairwise fun x y=>Rk.R (x,x)<=Rk.R (y,y))->P (.done (.ret .none)) { s with heap:=YW s.heap a vs out }):
  wpAny (model prog w) A (dO.«list.sort» #[[.ref a],[]]) P E s:=by
 have la:=bQ at_;have len:vs.toArray.size=vs.length:=cN;obtain⟨ep,at1⟩:∃ep,(s.heap.update a (jd fun _=>#[])).get? a=some (cR "list" #[] ep):=#[_,get?_update_seq at_ (fun _=>#[])];have keep:∀b o,b≠a->s⁻¹ b=some o->(((s.heap.update a (jd fun _=>#[])).push (cR "tuple" vs.toArray 0)).push (cR "list" #[] 0)).get? b=some o:=fun b o hb e =>
  dH _ (dH _ (by rwa[aku _ _ _ _ hb]))
 have at2:(((s.heap.update a (jd fun _=>#[])).push (cR "tuple" vs.toArray 0)).push (cR "list" #[] 0)).get? a=some (cR "list" #[] ep):=dH _ (dH _ at1);rw[list_sort_plain];apply aB;apply listItems_at at_ rfl;apply aB;refine aee at_ rfl ?_ (by rw[len];exact few) (bF _);apply aB;apply aeh at1 rfl;apply aB;refine akh ?_ (by simpa using few);apply aB;refine Qm ?_ (bF _);apply oX;show wpAny (model prog w) A _ P E { s with heap:=((s.heap.update a (jd fun _=>#[])).push (cR "tuple" vs.toArray 0)).push (cR "list" #[] 0) };dsimp only;have close:∀st:SortSt,(arrOf st).Perm (yQ vs)->SortedTo (arrOf st) (yQ vs).size->P (.done (.ret .none)) { s with heap:=YW s.heap a vs ((arrOf st).map (·.2)) }:=fun st p so=>by
  obtain⟨i1,i2⟩:=aua p so;exact told _ i1 i2
 by_cases two:vs.toArray.size<2
 ·simp only[mB two];apply aB;apply aN;rw[StateT.run_pure];apply aB;apply aN;dsimp only;apply aB;apply aeh at2 rfl;apply aB;refine aee at2 rfl ?_ (bF _) (by rw[alo];show(yQ vs).size<=_;rw[YQ];lia);simp only[bne_self_eq_false,vd,if_false];refine aN (close (Ed general' (vs.toArray.zip vs.toArray) #[] 7 none) (aeB _) fun i j ij hj=>?_);rw[YQ]at hj;rw[show i=j by lia];exact bR _
 ·simp only[mw two];refine aB (hkey tb_g% _ _ keep ?_)
  haveI:=hlt { s with heap:=((s.heap.update a (jd fun _=>#[])).push (cR "tuple" vs.toArray 0)).push (cR "list" #[] 0) } keep
  have go:=Vm (prog:=prog) (w:=w) (A:=A) (E:=E) (s:={ s with heap:=((s.heap.update a (jd fun _=>#[])).push (cR "tuple" vs.toArray 0)).push (cR "list" #[] 0) })
   (a₀:=yQ vs) (st:=Ed Rk.kd (vs.toArray.zip vs.toArray) #[] 7 none) (Q:=fun _ st=>(arrOf st).Perm (yQ vs)/\pD st=none/\SortedTo (arrOf st) (yQ vs).size)
   (fun x hx=>by
    rw [akS] at hx;obtain ⟨e1,e2⟩:=akX hx;obtain ⟨x1,x2⟩:=x;cases e1;exact hok _ e2) #[aeB _,rfl,rfl,rfl] (by rw [YQ];lia) fun st p1 p2 p3=>#[p1,p2,p3]
  refine aB (iY go ?_ fun _ _ e=>e);rintro⟨⟨⟩,st⟩ s2 ⟨rfl,p1,p2,p3⟩;dsimp only;apply aB;apply aeh at2 rfl;apply aB;refine aee at2 rfl ?_ (bF _) (by rw[alo,p1.size_eq,YQ];lia);rw[p2];simp only[bne_self_eq_false,vd,if_false];exact aN (close st p1 p3)
noncomputable def GP:List Int->List Int->Bool
 |x::xs,y::ys=>if x=y then GP xs ys else decide (x<y)
 |_,_=>false
theorem WQ:∀xs:List Int,GP xs xs=false
 |[]=>rfl
 |x::xs=>by unfold GP;rw[mB rfl];exact WQ xs
theorem lex_lt{a b c d M:Int}(h1:0<=b)(h2:b<M)(h3:0<=d)(h4:d<M)(ne:a≠c):decide (a*M+b<c*M+d)=decide (a<c):=by
 rw[decide_eq_decide];constructor
 ·intro h;refine Int.lt_of_not_ge fun g=>?_;have:c+1<=a:=by lia
  have:=wM this (show 0<=M by lia);rw[mX]at this;lia
 ·intro h;have:a+1<=c:=by lia
  have:=wM this (show 0<=M by lia);rw[mX]at this;lia
theorem ang{a b c d M:Int}(h1:0<=b)(h2:b<M)(h3:0<=d)(h4:d<M):GP [a,b] [c,d]=decide (a*M+b<c*M+d):=by
 unfold GP;by_cases e:a=c
 ·subst e;rw[mB rfl];unfold GP;by_cases f:b=d
  ·rw[mB f,f,mS (ak9 _)];rfl
  ·rw[mw f,decide_eq_decide];lia
 ·rw[mw e,lex_lt h1 h2 h3 h4 e]
theorem agO(h:x=y->xs=ys):GP (x::xs) (y::ys)=decide (x<y):=by
 unfold GP;by_cases e:x=y
 ·rw[mB e,h e,WQ,e,mS (ak9 _)]
 ·rw[mw e]
theorem anh(h:IntsAre vs xs):∀{ys:List Int}{us:List Value}(i:Nat),IntsAre us ys->xs.length=ys.length->Q (GP xs ys) s->PySem.W.KatLex prog w A true false Q (vs.zip us) i s:=by
 induction h with
 |nil =>
  intro ys us i g e q;cases g with
  |nil=>exact PySem.W.kat_nil q
  |cons _ _ _=>cases e
 |cons x t h ih =>
  intro ys us i g e q;cases g with
  |nil=>cases e
  |cons y u g =>
   refine PySem.W.kat_cons (akc ?_);unfold GP at q;by_cases c:x=y
   ·rw[mB c]at q;rw[show(x == y)=true from beq_iff_eq.mpr c];exact PySem.W.kat_yes (ih (i+1) g (al7 e) q)
   ·rw[mw c]at q;rw[show(x == y)=false from xj.mpr c];refine PySem.W.kat_no ?_;cases i with
    |zero=>exact oneLt_int q
    |succ i=>exact PySem.W.kat_one _ _ (arZ q)
structure Tup(h:Heap)(g:Addr->List Int)(n:Nat)(a:Addr):Prop where
 e:∃o m its,h.get? a=some o/\o.cls=.type "tuple" /\ o.data=.seq (List.toArray its) m/\IntsAre its (g a)
 n:(g a).length=n+1
noncomputable def GQ (h:Heap) (l:Addr) (ts:List Addr) (g:Addr->List Int) (n:Nat) (R:Addr->Int):Rk:=⟨tuples' true,fun p=>match p.1 with
 | .ref a=>R a
 | _=>0,fun p=>∃ a,p.1 = .ref a/\a≠l/\a∈ts/\Tup h g n a⟩
theorem tupRl{h:Heap}(kp:∀b o,b≠l->h.get? b=some o->s⁻¹ b=some o)(hR:∀t∈ts,∀u∈ts,GP (g t) (g u)=decide (R t<R u)):@Rl (GQ h l ts g n R) prog w A E s:=@Rl.mk (GQ h l ts g n R) prog w A E s fun {x y st Q} hk hx hy q=>by
 obtain⟨⟨a,e1,l1,m1,⟨ox,nx,ix,gx,cx,dx,hix⟩,n1⟩,⟨b,e2,l2,m2,⟨oy,ny,iy,gy,cy,dy,hiy⟩,n2⟩⟩:=And.intro hx hy;obtain⟨x1,x2⟩:=x;obtain⟨y1,y2⟩:=y;cases e1;cases e2;have q':Q (some (decide (R a<R b))) st:=q;rw[<-hR a m1 b m2]at q';have len:(g a).length=(g b).length:=by rw[n1,n2]
 have hl:∀{vs:List Value}{ns:List Int},IntsAre vs ns->vs.length=ns.length:=fun h=>by
  induction h with
  |nil=>rfl
  |cons _ _ _ ih=>rw[fu,fu,ih]
 rw[lt'_eq];refine aL (rT ?_);rw[show kindOf st=tuples' true from hk];refine aL (DN (Qn (PySem.W.kat_lt (kp _ _ l1 gx) dx (kp _ _ l2 gy) dy ?_)));rw[cN,cN,hl hix,hl hiy,len,mS (q9 _)];exact anh hix 0 hiy len #[rfl,aR q']
theorem agP{h h2:Heap}(kp:∀b o,b≠l->h.get? b=some o->h2.get? b=some o):∀{vs:List Value},(∀v∈vs,(GQ h l ts g n R).Ok (v,v))->∃fs:List Value,PySem.W.KatTups h2 vs fs/\fs.length=vs.length/\∀v∈fs,∃n t,v=.int n t
 |[],_=>#[[],atf,rfl,fun _ h=>(nomatch h)]
 |v::vs,hv=>by
  obtain⟨fs,k1,k2,k3⟩:=agP kp fun v m=>hv v (cV _ m);obtain⟨a,e1,l1,_,⟨ox,nx,ix,hx,cx,dx,hi⟩,n1⟩:=hv v cJ;cases e1;generalize g a=z at hi n1;cases hi with
  |nil=>cases n1
  |cons i t hi =>
   show#[.int i t::fs,ate (kp _ _ l1 hx) cx dx rfl k1,by rw[fu,fu,k2],fun v m=>?_];rcases aX.mp m with rfl|m
   ·show#[_,_,rfl]
   ·exact k3 v m
theorem ani{vs:List Value}{P:Fin->Shared->Prop}(at_:s⁻¹ a=some (cR "list" vs.toArray n))(hok:∀v∈vs,(GQ s.heap a ts g m R).Ok (v,v))(few:vs.length<=sizeLine)(hR:∀t∈ts,∀u∈ts,GP (g t) (g u)=decide (R t<R u))
  (told:∀out:Array Value,out.toList.Perm vs->(out.toList.Pairwise fun x y=>(GQ s.heap a ts g m R).R (x,x)<=(GQ s.heap a ts g m R).R (y,y))->P (.done (.ret .none)) { s with heap:=YW s.heap a vs out }):
  wpAny (model prog w) A (dO.«list.sort» #[[.ref a],[]]) P E s:=by
 refine @ap1 prog w A E s (GQ s.heap a ts g m R) a vs n P at_ few hok (fun h2 s2 Q kp q=>?_) (fun s2 kp=>tupRl kp hR) told;obtain⟨fs,k1,k2,k3⟩:=agP kp hok;refine PySem.W.kat_kind (fs:=fs) (T:=.type "int") k1 tb_g% (fun v hv=>?_) tb_g% ?_
 ·obtain⟨n,t,rfl⟩:=k3 v hv;intro A' Q' E' s' _ q;exact aN q
 ·exact q
end
end Tm
namespace L2
open PySem PySem.Spec PyProof.Rows
section
variable{X:Cx}
theorem afk{A:aY}{E:Value->Shared->Prop}{s:Shared}{l:Addr}{vs:List Value}{OK:Array Value->Prop}{Q:Value->Shared->Prop}(hl:s.heap.IsList l vs.toArray)(few:vs.length<=sizeLine)
  (RT:∀s2 a P A E,s2⁻¹ a=some (cR "list" vs.toArray 0)->(∀b o,s⁻¹ b=some o->s2⁻¹ b=some o/\b≠a)->(∀out,OK out->P (.done (.ret .none)) { s2 with heap:=YW s2.heap a vs out })->wpAny (model X.prog X.w) A (dO.«list.sort» #[[.ref a],[]]) P E s2)
  (h:∀out,OK out->Q (.ref (~~~s+1)) { s with heap:=sortedAll s.heap vs out }):
  wpAny (model X.prog X.w) A (call (.builtin "sorted") [.ref l]) Q E s:=by
 apply aev YS YL YM (aeg _);unfold dO.«sorted»;apply aB (m:=Yo "sorted" 1 1 _);apply aN;apply aB;refine collect_list hl ?_ few;apply aB;refine Qm ?_ few;have z:((s.heap.push (cR "list" #[] 0)).update (~~~s) (jd (· ++ vs.toArray))).objs.size= ~~~s+1:=(Heap.size_update _ _ _).trans (JK _ _);show wpAny _ _ _ _ _ { s with heap:=((s.heap.push (cR "list" #[] 0)).update (~~~s) (jd (· ++ vs.toArray))).push (cR "list" vs.toArray 0) };have at_:(((s.heap.push (cR "list" #[] 0)).update (~~~s) (jd (· ++ vs.toArray))).push (cR "list" vs.toArray 0)).get? (~~~s+1)=some (cR "list" vs.toArray 0):=z ▸ dW _ rfl;have keep:∀b o,s⁻¹ b=some o->(((s.heap.push (cR "list" #[] 0)).update (~~~s) (jd (· ++ vs.toArray))).push (cR "list" vs.toArray 0)).get? b=some o/\b≠ ~~~s+1:=fun b o q=>by
  have hlt:b< ~~~s:=bQ q;show#[?_,cF (yK hlt)];rwa[akv _ _ _ (by rw[z];exact cF (yK hlt)),aku _ _ _ _ (cF hlt),akv _ _ _ (cF hlt)]
 rw[z];apply aB;refine oX (rN YH #[_,at_,rfl] YG (RT _ _ _ _ _ at_ keep fun out ok=>#[_,rfl,aN #[_,rfl,h out ok]]) (aec _))
noncomputable def aub:List V->Hp->VK->Prop:=fun xs H Q=>∃(a:Addr)(ts:List Addr)(g:Addr->List Int)(n:Nat)(R:Addr->Int),xs=[.ref a]/\H a=some (.lst (ts.map V.ref))/\(∀t∈ts,H t=some (.tup ((g t).map V.int))/\(g t).length=n+1)/\(∀t∈ts,∀u∈ts,Tm.GP (g t) (g u)=decide (R t<R u)) /\
 ∀(l:Addr)(ts':List Addr),H l=none->ts'.Perm ts->(ts'.Pairwise fun t u=>R t<=R u)->Q (.ref l) (upd H l (.lst (ts'.map V.ref)))
theorem RW:∀{ts:List Addr}{us:List Value},Vals (ts.map V.ref) us->us=ts.map Value.ref
 |[],_,h=>by cases h;rfl
 |t::ts,_,h=>by
  cases h with
  |cons r1 r2=>cases r1;rw[RW r2];rfl
theorem RX:∀ts:List Addr,Vals (ts.map V.ref) (ts.map Value.ref)
 |[]=>.nil
 |_::ts=>.cons rfl (RX ts)
theorem abH:∀{ts:List Addr}{us:List Value},(∀v∈us,v∈ts.map Value.ref)->∃ts':List Addr,us=ts'.map Value.ref
 |_,[],_=>#[[],rfl]
 |ts,u::us,h=>by
  obtain⟨t,_,e⟩:=dU.mp (h u cJ);obtain⟨ts',e'⟩:=abH fun v m=>h v (cV _ m);show#[t::ts',by rw[<-e,e'];rfl]
theorem afl:∀{ts:List Addr},(ts.map Value.ref).map (fun v=>match v with|Value.ref a=>a|_=>0)=ts
 |[]=>rfl
 |t::ts=>by rw[cX,cX,afl]
theorem afm:gU X (.builtin "sorted") aub:=by
 intro pins s σ H xs us Q I r h;obtain⟨a,ts,g,m,R,rfl,ha,ht,hR,q⟩:=h;obtain⟨u,rfl,ru⟩:=vals1 r;cases ru;obtain⟨its,rv,p,hz⟩:=I.list (a:=a) (xs:=ts.map V.ref) (.inl (.inl ha));have hI:=RW rv;subst hI;have hzl:(ts.map Value.ref).length<=sizeLine:=by rw[aC]at hz ⊢; exact hz
 have hfresh:H (~~~s+1)=none:=I.hok.fresh (pC _);have each:∀v∈ts.map Value.ref,∃a,v=.ref a/\a∈ts/\Tm.Tup s.heap g m a:=fun v hv=>by
  obtain⟨t,mt,rfl⟩:=dU.mp hv;obtain⟨h1,h2⟩:=ht t mt;obtain⟨itx,rx,px,_⟩:=I.tuple (a:=t) (.inl (.inl h1));obtain⟨o,g1,g2,n,g3⟩:=px;show#[t,rfl,mt,#[o,n,itx,g1,g2,g3,intsAre_of rx],h2]
 refine afk (vs:=ts.map Value.ref) (OK:=fun out=>out.toList.Perm (ts.map Value.ref)/\out.toList.Pairwise fun x y=>(Tm.GQ s.heap 0 ts g m R).R (x,x)<=(Tm.GQ s.heap 0 ts g m R).R (y,y)) p.isList hzl (fun s2 b P A E hb kp hP=>?_) fun out hout=>?_
 ·refine Tm.ani (g:=g) (m:=m) (R:=R) (ts:=ts) hb (fun v hv=>?_) hzl hR fun out p1 p2=>hP out #[p1,p2];obtain⟨a,e,ma,⟨o,n,itx,g1,g2,g3,g4⟩,g5⟩:=each v hv;show#[a,e,(kp _ _ g1).2,ma,#[o,n,itx,(kp _ _ g1).1,g2,g3,g4],g5]
 ·obtain⟨p1,p2⟩:=hout;obtain⟨ts',e⟩:=abH fun v m=>p1.mem_iff.mp m;rw[e]at p1 p2;have pp:ts'.Perm ts:=by
   have:=p1.map fun v=>match v with|Value.ref a=>a|_=>0
   rwa [afl,afl]at this
  have p3:ts'.Pairwise fun t u=>R t<=R u:=(uQ (f:=Value.ref)).mp p2;obtain⟨e1,he⟩:=akW s.heap (ts.map Value.ref) out;show#[.ref (~~~s+1),_,I.laid (t':=s.toks) (fun _ _=>akU) (pC _) (show cT X.prog X.w _ _ (~~~s+1) (.lst (ts'.map V.ref))from#[?_,ts'.map Value.ref,e1,RX ts',?_]),rfl,q _ ts' hfresh pp p3]
  ·rw[aC,pp.length_eq];rwa[aC]at hz
  ·rw[<-e];simpa using he
noncomputable def gOf(H:Hp)(t:Addr):List Int:=match H t with
 |some (.tup vs)=>vs.map fun v=>match v with | .int i=>i|_=>0
 |_=>[]
theorem auc{z:List Int}(h:H t=some (.tup (z.map V.int))):gOf H t=z:=by
 unfold gOf;rw[h];show(z.map V.int).map _=z;rw[g8];exact ado z
noncomputable def aud{β:Type}(g:β->List Int):List V->Hp->VK->Prop:=fun xs H Q=>∃(a:Addr) (ps:List (Addr × β)) (n:Nat) (R:β->Int),xs=[.ref a]/\H a=some (.lst (ps.map fun p=>V.ref p.1))/\(∀p∈ps,H p.1=some (.tup ((g p.2).map V.int))/\(g p.2).length=n+1)/\(∀p∈ps,∀q∈ps,Tm.GP (g p.2) (g q.2)=decide (R p.2<R q.2)) /\
 ∀(l:Addr) (ps':List (Addr × β)),H l=none->ps'.Perm ps->(ps'.Pairwise fun p q=>R p.2<=R q.2)->Q (.ref l) (upd H l (.lst (ps'.map fun p=>V.ref p.1)))
theorem Ew{β:Type}{g:β->List Int}{k:List Int->β}(hk:∀b,k (g b)=b):gU X (.builtin "sorted") (aud g):=by
 intro pins s σ H xs us Q I r h;refine afm pins s σ H xs us Q I r ?_;obtain⟨a,ps,n,R,rfl,ha,ht,hR,q⟩:=h;have hf:∀p∈ps,gOf H p.1=g p.2:=fun p m=>auc (ht p m).1;have hps:(ps.map (·.1)).map (fun t=>(t,k (gOf H t)))=ps:=by
  rw[g8]
  conv=>rhs;rw[<-ado ps]
  exact Cy fun p m=>pF rfl (by show k (gOf H p.1)=p.2;rw[hf p m,hk])
 show#[a,ps.map (·.1),gOf H,n,fun t=>R (k (gOf H t)),rfl,by rw[ha,g8];rfl,fun t m=>?_,fun t m u v=>?_,fun l ts hl hp hs=>?_]
 ·obtain⟨p,mp,rfl⟩:=dU.mp m;rw[hf p mp];exact ht p mp
 ·obtain⟨p,mp,rfl⟩:=dU.mp m;obtain⟨p',mp',rfl⟩:=dU.mp v;show _=decide (R (k (gOf H p.1))<R (k (gOf H p'.1)));rw[hf p mp,hf p' mp',hk,hk];exact hR p mp p' mp'
 ·have hp2:=hp.map fun t=>(t,k (gOf H t));rw[hps]at hp2;have:=q l _ hl hp2 (uQ.mpr hs);rwa[g8]at this
noncomputable def gP(p:Int × Int):List Int:=[p.1,p.2]
noncomputable def kP(l:List Int):Int × Int:=(l.getD 0 0,l.getD 1 0)
theorem kgP:∀b,kP (gP b)=b:=fun _=>rfl
noncomputable def gP3(p:Int × Int × Int):List Int:=[p.1,p.2.1,p.2.2]
noncomputable def kP3(l:List Int):Int × Int × Int:=(l.getD 0 0,l.getD 1 0,l.getD 2 0)
theorem kgP3:∀b,kP3 (gP3 b)=b:=fun _=>rfl
end
end L2
namespace Sx
open PySem
noncomputable def Ris(l:List Nat):Prop:=l.Pairwise (· < ·)
theorem RZ{xs:Array Nat}(hr:Ris xs.toList):∀f lo hi,hi-lo<=f->lo<=hi->hi<=xs.size->(∀i v,xs[i]? = some v->i<lo->v<j)->(∀i v,xs[i]? = some v->hi<=i->j<=v) ->
  Zg xs j f lo hi<=xs.size/\(∀i v,xs[i]? = some v->i<Zg xs j f lo hi->v<j)/\∀i v,xs[i]? = some v->Zg xs j f lo hi<=i->j<=v
 |0,lo,hi,h1,h2,h3,h4,h5=>by
  obtain rfl:hi=lo:=by lia
  show#[h3,h4,h5]
 |f+1,lo,hi,h1,h2,h3,h4,h5=>by
  unfold Zg;by_cases c:lo<hi
  ·rw[mB c];dsimp only;have mh:(lo+hi) / 2<xs.size:=by lia
   have em:xs[(lo+hi) / 2]? = some xs[(lo+hi) / 2]:=getElem?_pos xs _ mh;have eg:xs.getD ((lo+hi) / 2) j=xs[(lo+hi) / 2]:=by rw[Array.getD_eq_getD_getElem?,em];rfl
   have mono:∀(i k v u:Nat),xs[i]? = some v->xs[k]? = some u->i<=k->v<=u:=fun i k v u e1 e2 h=>by
    rw[<-gR]at e1 e2;obtain⟨l1,rfl⟩:=dh.mp e1;obtain⟨l2,rfl⟩:=dh.mp e2;rcases lZ i k with z|z
    ·exact eF (Jk.mp hr i k l1 l2 z)
    ·obtain rfl:i=k:=by lia
     exact bC _
   rw[eg];by_cases d:xs[(lo+hi) / 2]<j
   ·rw[mB d];refine RZ hr f _ hi tb_g% tb_g% h3 (fun i v e g=>?_) h5;have:=mono i _ v _ e em tb_g%;lia
   ·rw[mw d];refine RZ hr f lo _ tb_g% tb_g% tb_g% h4 fun i v e g=>?_;have:=mono _ i _ v em e g;lia
  ·rw[mw c];obtain rfl:hi=lo:=by lia
   show#[h3,h4,h5]
theorem GR{xs:Array Nat}(hr:Ris xs.toList)(j:Nat):
  jc xs j<=xs.size/\(∀i v,xs[i]? = some v->i<jc xs j->v<j)/\∀i v,xs[i]? = some v->jc xs j<=i->j<=v:=
 RZ hr _ 0 _ tb_g% (bF _) (bC _) (fun _ _ _ h=>mI h (YB _)) fun i v e h=>by
  obtain⟨l,_⟩:=alg.mp e;lia
theorem afn{xs:Array Nat}(hr:Ris xs.toList):jc xs 0=0:=by
 obtain⟨a,b,c⟩:=GR hr 0;rcases adY (jc xs 0)with z|z
 ·exact z
 ·have l:0<xs.size:=by lia
  exact mI (b 0 _ (getElem?_pos xs 0 l) z) (YB _)
theorem afo{xs:Array Nat}(hr:Ris xs.toList){i v:Nat}(e:xs[i]? = some v):jc xs (v+1)=i+1:=by
 obtain⟨a,b,c⟩:=GR hr (v+1);obtain⟨l,e'⟩:=alg.mp e;have strict:∀(k u:Nat),xs[k]? = some u->i<k->v<u:=fun k u e2 h=>by
  have e1:=e;rw[<-gR]at e1 e2;obtain⟨l1,rfl⟩:=dh.mp e1;obtain⟨l2,rfl⟩:=dh.mp e2;exact Jk.mp hr i k l1 l2 h
 rcases akC (jc xs (v+1)) (i+1)with z|z|z
 ·have:=c i v e tb_g%;lia
 ·exact z
 ·have l2:i+1<xs.size:=by lia
  have e2:=getElem?_pos xs (i+1) l2;have:=b (i+1) _ e2 z;have:=strict (i+1) _ e2 tb_g%;lia
structure Tk(t:eV)(n:Nat)(ld:Bool):Prop where
 n:t.place.size=n
 r:Ris t.place.toList
 d:t.dummies=#[]
 l:t.led=ld
theorem afp{ld:Bool}(h:Tk t n ld)(e:t.slot j=.empty):j∉t.place.toList:=fun m=>by
 obtain⟨i,l,q⟩:=Cw.mp m;have e1:t.place[i]? = some j:=by rw[<-gR,eU l,q]
 obtain⟨a,b,c⟩:=GR h.r j;have ge:jc t.place j<=i:=tM fun z=>q9 _ (b i j e1 z);have eq:jc t.place j=i:=by
  rcases lZ (jc t.place j) i with z|z
  ·have l3:i<t.place.size:=by simpa using l
   have l2:jc t.place j<t.place.size:=by lia
   have c1:=c _ _ (getElem?_pos t.place _ l2) (bC _);have:=Jk.mp h.r (jc t.place j) i (by simpa using l2) l z;rw[q]at this;have c2:j<=t.place.toList[jc t.place j]'(by simpa using l2):=by simpa using c1
   lia
  ·lia
 unfold alu at e;dsimp only at e;rw[eq,e1]at e;simp at e
theorem Vn{ld:Bool}(h:Tk t n ld):t.slot j≠.dummy:=fun e=>by
 unfold alu at e;dsimp only at e;split at e
 ·cases e
 ·rw[h.d]at e;have hs:Za #[] j=false:=by unfold Za;simp
  rw[hs]at e;simp at e
theorem abI{ld:Bool}(h:Tk t n ld){g:Nat->Int}{hh:Int}:∀f p j d,p.dummy=none->al1 t g hh f p=some (.empty j d)->d=none/\t.slot j=.empty
 |0,_,_,_,_,e=>by cases e
 |f+1,p,j,d,hp,e=>by
  unfold al1 at e;have adv:(t.advance p).dummy=none:=by
   unfold asa;split
   ·exact hp
   ·exact hp
  cases hs:t.slot p.j with
  |empty =>
   rw[hs]at e;simp only[ad6,ata]at e;obtain⟨rfl,rfl⟩:=e;show#[hp,hs]
  |dummy=>exact mI hs (Vn h)
  |live i =>
   rw[hs]at e;dsimp only at e;split at e
   ·cases e
   ·exact abI h f _ j d adv e
theorem ap2{ld:Bool}(h:Tk t n ld){hh:Int}{slot:Nat}{wd:Bool}(e:t.freeSlot hh=some (slot,wd)):slot∉t.place.toList:=by
 unfold ar7 at e;split at e
 ·rename_i j d hq;obtain⟨rfl,q⟩:=abI h _ _ j d (by unfold ar4;rfl) hq;simp only[aer,Option.isSome_none,ad6,aeC]at e;rw[<-e.1];exact afp h q
 ·cases e
theorem ap3{xs:Array Nat}(hr:Ris xs.toList){j:Nat}(nj:j∉xs.toList):Ris (ar8 xs (jc xs j) j).toList:=by
 obtain⟨a,b,c⟩:=GR hr j;rw[ar3];unfold Ris at hr ⊢;rw[lW];have e:xs.toList=xs.toList.take (jc xs j)++xs.toList.drop (jc xs j):=(Cv _ _).symm;have lo:∀v∈xs.toList.take (jc xs j),v<j:=fun v m=>by
  obtain⟨i,l,q⟩:=Cw.mp m;rw[dN]at l;rw[ade]at q;exact b i v (by rw[<-gR,eU tb_g%,q]) tb_g%
 have hi:∀v∈xs.toList.drop (jc xs j),j<v:=fun v m=>by
  have m':v∈xs.toList:=Qa m;obtain⟨i,l,q⟩:=Cw.mp m;rw[adb]at q;rw[CN]at l;have:=c (jc xs j+i) v (by rw[<-gR,eU tb_g%,q]) tb_g%;rcases lZ j v with z|z
  ·exact z
  ·exact mI m' (by rwa[show v=j by lia])
 show#[hr.sublist (Xx _ _),gC.mpr #[hi,hr.sublist (List.drop_sublist _ _)],fun v m u m2=>?_];rcases aX.mp m2 with rfl|m2
 ·exact lo v m
 ·exact JH (lo v m) (hi u m2)
theorem ah7(n:Nat):Ris (Array.range n).toList:=by
 unfold Ris;rw[Array.toList_range];exact ajr
theorem vQ{t:eV}(n:Nat){ld:Bool}(hl:t.led=ld):Tk (t.standIn n) n ld:=#[by unfold asb;simp,ah7 n,rfl,hl]
theorem ah8{es:Array (Int × Value)}{ld:Bool}(h:Tk t es.size ld)(hh:Int)(x:Value):Tk (Qu t es hh x).2.1 (es.size+1) ld/\(Qu t es hh x).1.size=es.size+1:=by
 have sz:(Qu t es hh x).1.size=es.size+1:=by
  have:=(layNew_perm t es hh x).length_eq;simpa using this
 show#[?_,sz];rw[<-sz];unfold Qu;split
 ·rename_i slot wd e;dsimp only;unfold ar5;split
  ·rename_i hf;show#[?_,?_,?_,h.l]
   ·unfold alv at hf;simp only[Y8,beq_iff_eq]at hf;exact hf.1
   ·exact ap3 h.r (ap2 h e)
   ·unfold ash;dsimp only;rw[h.d];have hs:Za #[] slot=false:=by unfold Za;simp
    rw[hs];rfl
  ·exact vQ _ h.l
 ·have e:(es.push (hh,x)).size=es.size+1:=Array.size_push ..;rw[e];exact vQ _ h.l
theorem anj(owner:Array (Option Nat))(m:Nat):Ris (((jG (m+1)).filterMap fun j=>(owner.getD j none).map (j,·)).map (·.1)):=by
 unfold Ris;rw[ajA];refine atc _ (R:=(· < ·)) (fun a a' hlt b hb b' hb'=>?_) ajr;cases h1:owner.getD a none with
 |none=>rw[h1]at hb;cases hb
 |some u =>
  cases h2:owner.getD a' none with
  |none=>rw[h2]at hb';cases hb'
  |some u' =>
   rw[h1]at hb;rw[h2]at hb';simp at hb hb';lia
theorem ank{t:eV}{ld:Bool}(hl:t.led=ld)(wanted:Nat):Tk (yF t es wanted).2.1 es.size ld/\(yF t es wanted).1.size=es.size:=by
 have sz:(yF t es wanted).1.size=es.size:=by
  have:=(akp t es wanted).length_eq;simpa using this
 show#[?_,sz];have hf:=akq t es wanted;rw[sz]at hf;unfold yF at hf ⊢;split
 ·rename_i t' order e;rw[e]at hf;dsimp only at hf ⊢;split
  ·rename_i hc;rw[mB hc]at hf;dsimp only at hf ⊢;unfold asd asf at e;cases ow:ar9 (ar6 wanted-1) (es.map (·.1))with
   |none=>rw[ow]at e;cases e
   |some owner =>
    rw[ow]at e;simp only[Option.bind_eq_bind,Option.bind_some,Option.pure_def,ad6,aeC]at e;obtain⟨rfl,_⟩:=e;show#[?_,?_,rfl,hl]
    ·unfold alv at hf;simp only[Y8,beq_iff_eq]at hf;exact hf.1
    ·exact anj owner _
  ·exact vQ _ hl
 ·exact vQ _ hl
theorem R5{α:Type}{l:List α}(h:i<l.length):(l[i]::l.eraseIdx i).Perm l:=by
 rw[List.eraseIdx_eq_take_drop_succ];refine adg.symm.trans ?_;rw[List.getElem_cons_drop h,Cv]
theorem agQ(next:Nat->Nat):∀(f k:Nat)(left:List α)(out:Array α),left.length=f->(pickOrder.go next f k left out).toList.Perm (out.toList++left)
 |0,k,left,out,h=>by
  rw[Mi.mp h,gk];exact .rfl
 |f+1,k,left,out,h=>by
  unfold pickOrder.go;have lt:next k % left.length<left.length:=akJ _ tb_g%;rw[eU lt];dsimp only;have ih:=agQ next f (k+1) (left.eraseIdx (next k % left.length)) (out.push left[next k % left.length]) (by rw[ajm lt];lia);refine ih.trans ?_;rw[yS,gD];exact QL _ (R5 lt)
theorem ah9(next:Nat->Nat)(xs:Array α):(Yq next xs).toList.Perm xs.toList:=by
 have:=agQ next xs.size 0 xs.toList #[] (by simp);simpa[Yq]using this
noncomputable def iv:Value->Int
 | .int n _=>n
 |_=>0
noncomputable def keys(es:Array (Int × Value)):List Int:=es.toList.map fun e=>iv e.2
noncomputable def dd1(C:List Int)(x:Int):List Int:=if x∈C then C else C++[x]
noncomputable def dd(ns:List Int):List Int:=ns.foldl dd1 []
theorem anl{C D:List Int}(x:Int)(h:C.Perm D):(dd1 C x).Perm (dd1 D x):=by
 unfold dd1;by_cases m:x∈C
 ·rwa[mB m,mB (h.mem_iff.mp m)]
 ·rw[mw m,mw (fun z=>m (h.mem_iff.mpr z))];exact h.append_right _
theorem ap4{ns:List Int}{i:Nat}{x:Int}(e:ns[i]? = some x):dd (ns.take (i+1))=dd1 (dd (ns.take i)) x:=by
 unfold dd;rw[jE,e,Xy];rfl
theorem agR:z∈dd1 C x↔z∈C\/z=x:=by
 unfold dd1;split
 ·rename_i h;show#[.inl,fun q=>q.elim id fun e=>e ▸ h]
 ·rw[bO,cC]
theorem WR{C:List Int}(h:C.Nodup):(dd1 C x).Nodup:=by
 unfold dd1;split
 ·exact h
 ·rename_i n;refine CG.mpr #[h,iW.mpr #[fH,qY],fun a m b m2 e=>?_];rw[cC]at m2;exact n (by rwa[<-m2,<-e])
theorem afq(ns:List Int):∀C:List Int,C.Nodup->(ns.foldl dd1 C).Nodup/\(∀z,z∈ns.foldl dd1 C↔z∈C\/z∈ns)/\(ns.foldl dd1 C).length<=C.length+ns.length:=by
 induction ns with
 |nil=>exact fun C h=>#[h,fun z=>by simp,by simp]
 |cons x r ih =>
  intro C h;obtain⟨a,b,c⟩:=ih (dd1 C x) (WR h);show#[a,fun z=>?_,?_]
  ·show z∈r.foldl dd1 (dd1 C x)↔_;rw[b z,agR,aX];constructor
   ·rintro((q|q)|q)
    ·exact .inl q
    ·exact .inr (.inl q)
    ·exact .inr (.inr q)
   ·rintro(q|q|q)
    ·exact .inl (.inl q)
    ·exact .inl (.inr q)
    ·exact .inr q
  ·show(r.foldl dd1 (dd1 C x)).length<=_;have:(dd1 C x).length<=C.length+1:=by unfold dd1;split <;> simp
   rw[fu];lia
theorem abJ(ns:List Int):(dd ns).Nodup:=(afq ns [] qY).1
theorem anm:z∈dd ns↔z∈ns:=by
 rw[show dd ns=ns.foldl dd1 []from rfl,(afq ns [] qY).2.1 z];simp
theorem Z7(ns:List Int):(dd ns).length<=ns.length:=by have:=(afq ns [] qY).2.2;simpa[dd]using this
section
variable{prog:aK}{w:World}{s:Shared}
structure dY(prog:aK)(w:World)(h:Heap)(a:Addr)(es:Array (Int × Value))(ep:Nat)(t:eV)(ld:Bool):Prop where
 o:h.get? a=some { cls:=.type "set",dict:=none,data:=.set es ep t,slots:=#[] }
 el:Ys (gM prog w) es.toList
 tk:Tk t es.size ld
 few:es.size<scanBound
 ft:t.fits es.size=true
theorem dY.keep{h h':Heap}{a:Addr}{es:Array (Int × Value)}{ep:Nat}{t:eV}{ld:Bool}(x:dY prog w h a es ep t ld)(k:∀o,h.get? a=some o->h'.get? a=some o):dY prog w h' a es ep t ld:=#[k _ x.o,x.el,x.tk,x.few,x.ft]
theorem dY.ty{ep:Nat}{t:eV}{ld:Bool}(x:dY prog w s.heap a es ep t ld):s.TypeIs (.ref a) "set" := #[_,x.o,rfl]
theorem arF(h:(gM prog w).is k v=true)(hs:v.scannable=true):iv v=k:=by
 have h:JT k v=true:=h;cases v <;> simp_all [JT,iv,Value.scannable]
theorem aue(h:Ys (gM prog w) es){e:Int × Value}(m:e∈es):(gM prog w).is (iv e.2) e.2=true:=by
 obtain⟨⟨k,hk,_⟩,hs⟩:=h e m;rwa[arF hk hs]
theorem ano{h:Heap}{ep:Nat}{t:eV}(o:h.get? a=some { cls:=.type "set",dict:=none,data:=.set es ep t,slots:=#[] })(es':Array (Int × Value))(t':eV):
  (h.update a (Zc es' t')).get? a=some { cls:=.type "set",dict:=none,data:=.set es' (ep+1) t',slots:=#[] }:=by
 have:=Ds (Zc es' t') o (by rw[putSet_of es' t' rfl];rfl);rwa[putSet_of es' t' rfl]at this
theorem auf{ep:Nat}{t:eV}{ld:Bool}{n:Int}{k:Tok}{Q:Bool->Shared->Prop}(x:dY prog w s.heap a es ep t ld)(room:es.size+1<scanBound)
  (q:∀h' es' ep' t' b,yJ a s.heap h'->dY prog w h' a es' ep' t' ld->(keys es').Perm (dd1 (keys es) n)->Q b { s with heap:=h' }):
  wpAny (model prog w) A (akt a (.int n k) ((gM prog w).hash n)) Q E s:=by
 have key:(gM prog w).is n (.int n k)=true:=mN rfl;unfold akt Yg;refine oX (aB (Jr x.o rfl x.ft ?_));dsimp only;rw[byScan_of rfl x.few x.el,mB rfl];unfold setAddByScan;refine aB (aB (oY (aB (wpAny_setScan_of key x.o rfl x.ft x.el ?_))));cases hr:List.findIdx? (fun e=>(gM prog w).is n e.2) es.toList with
 |some j =>
  dsimp only;obtain⟨hj,hp,_⟩:=List.findIdx?_eq_some_iff_getElem.mp hr;have hm:n∈keys es:=by
   have sc:=(x.el _ (CP hj)).2;exact dU.mpr #[_,CP hj,arF hp sc]
  refine aN (aN ?_);have:=q s.heap es ep t false (asB a s.heap) x (by unfold dd1;rw[mB hm]);cases s;exact this
 |none =>
  dsimp only;have hm:n∉keys es:=fun m=>by
   obtain⟨e,me,q1⟩:=dU.mp m;have h1:=List.findIdx?_eq_none_iff.mp hr e me;have h2:=aue x.el me;rw[q1]at h2;rw[h2]at h1;cases h1
  have p1:=layNew_perm t es ((gM prog w).hash n) (.int n k);have f1:=layNew_fits t es ((gM prog w).hash n) (.int n k);obtain⟨k1,z1⟩:=ah8 x.tk ((gM prog w).hash n) (.int n k);generalize Qu t es ((gM prog w).hash n) (.int n k)=L at p1 f1 k1 z1 ⊢;obtain⟨es1,t1,wd,gv⟩:=L;dsimp only at p1 f1 k1 z1 ⊢;have e1:Ys (gM prog w) es1.toList:=(x.el.push key rfl).perm (by rwa[yS]at p1);have pk:(keys es1).Perm (dd1 (keys es) n):=by
   unfold dd1;rw[mw hm];have:=p1.map fun e=>iv e.2;rwa[yS,bM]at this
  have S1:∀ h':Heap,h'.get? a=some { cls:=.type "set",dict:=none,data:=.set es1 (ep+1) t1,slots:=#[] }->dY prog w h' a es1 (ep+1) t1 ld:=fun h' o=>⟨o,e1,by rw [z1];exact k1,by lia,f1⟩;have rest:wpAny (model prog w) A (Dl a es1 t1 >>= fun _=>if (!wd && t1.tooFull)=true then (match yF t1 es1 (DY es1.size) with
    | (es2,t2,gave)=>(match gave with | true=>rule "set.scan.the-table-gave-way" | false=>pure ()) >>= fun _=>Dl a es2 t2 >>= fun _=>pure (some true)) else pure (some true))
    (fun r s'=>wpAny (model prog w) A (match r with|some added=>pure added|none=>Yg a (.int n k) ((gM prog w).hash n) 99999) Q E s') E s:=by
   refine aB (aj9 x.o rfl ?_ (Js tb_g%));have o1:=ano x.o es1 t1;have b1:=alY s.heap a (Zc es1 t1);split
   ·have p2:=akp t1 es1 (DY es1.size);have f2:=akq t1 es1 (DY es1.size);obtain⟨k2,z2⟩:=ank (es:=es1) k1.l (DY es1.size);generalize yF t1 es1 (DY es1.size)=L2 at p2 f2 k2 z2 ⊢;obtain⟨es2,t2,gv2⟩:=L2;dsimp only at p2 f2 k2 z2 ⊢;refine aB ?_;have fin:wpAny (model prog w) A (Dl a es2 t2 >>= fun _=>pure (some true)) (fun r s'=>wpAny (model prog w) A (match r with|some added=>pure added|none=>Yg a (.int n k) ((gM prog w).hash n) 99999) Q E s') E { s with heap:=s.heap.update a (Zc es1 t1) }:=by
     refine aB <| aj9 o1 rfl (aN (aN ?_)) (Js tb_g%);refine q _ es2 (ep+1+1) t2 true (b1.trans (alY _ a _)) #[ano o1 es2 t2,e1.perm p2,by rwa[z2],by lia,f2] ?_;exact(show(keys es2).Perm (keys es1)from p2.map _).trans pk
    cases gv2
    ·exact aN fin
    ·exact oY fin
   ·exact aN (aN (q _ es1 (ep+1) t1 true b1 (S1 _ o1) pk))
  have go:∀ b:Bool,wpAny (model prog w) A (if b=true then hashByValue 8 (.int n k) >>= fun v=>(fun byValue=>Dl a es1 (if byValue=true then t1 else { t1 with plain:=false }) >>= fun _=>if (!wd && (if byValue=true then t1 else { t1 with plain:=false }).tooFull)=true then (match yF (if byValue=true then t1 else { t1 with plain:=false }) es1 (DY es1.size) with
    | (es2,t2,gave)=>(match gave with | true=>rule "set.scan.the-table-gave-way" | false=>pure ()) >>= fun _=>Dl a es2 t2 >>= fun _=>pure (some true)) else pure (some true)) v else pure true >>= fun v=>(fun byValue=>Dl a es1 (if byValue=true then t1 else { t1 with plain:=false }) >>= fun _=>if (!wd && (if byValue=true then t1 else { t1 with plain:=false }).tooFull)=true then (match yF (if byValue=true then t1 else { t1 with plain:=false }) es1 (DY es1.size) with
    | (es2,t2,gave)=>(match gave with | true=>rule "set.scan.the-table-gave-way" | false=>pure ()) >>= fun _=>Dl a es2 t2 >>= fun _=>pure (some true)) else pure (some true)) v)
    (fun r s'=>wpAny (model prog w) A (match r with|some added=>pure added|none=>Yg a (.int n k) ((gM prog w).hash n) 99999) Q E s') E s:=fun b=>by
   cases b
   ·exact aB (aN rest)
   ·exact aB (uW (a:=true) rfl rest)
  cases gv
  ·exact aB (aN (go t1.plain))
  ·exact aB (oY (go t1.plain))
end
end Sx
namespace Sx
open PySem PyProof.Rows
theorem auh(h:IntsAre vs ns):∀{i:Nat}{v:Value},vs[i]? = some v->∃n t,ns[i]? = some n/\v=.int n t:=by
 induction h with
 |nil=>intro i v e;cases i <;> cases e
 |cons n t _ ih =>
  intro i v e;cases i with
  |zero=>cases e;show#[n,t,rfl,rfl]
  |succ i=>exact ih e
section
variable{A:aY}
theorem anp{items:Array Value}{ld:Bool}(hh:A.in1.handled=none)(n1:S≠I)(n2:S≠l)(n3:l≠I)(hi:IntsAre items.toList ns)(few:items.size+1<scanBound):
  ∀k i s es ep t,items.size-i=k->i<=items.size->s.heap.IsListIter I l i->s.heap.IsList l items->dY prog w s.heap S es ep t ld->(keys es).Perm (dd (ns.take i)) ->
   (∀h' tk es' ep' t',(∀b o,b≠S->b≠I->s⁻¹ b=some o->h'.get? b=some o)->dY prog w h' S es' ep' t' ld->(keys es').Perm (dd ns)->R (.ok (.ret .none)) { s with heap:=h',toks:=tk }) ->
   gO (model prog w) A (.builtin "set.update.loop" #[[.ref S,.ref I],[]]) R s:=by
 have len:ns.length=items.size:=by rw[<-iQ,hi.length]
 have W:=aeG (prog:=prog) (w:=w) hh I l n3 items;intro k
 induction k with
 |zero =>
  intro i s es ep t hk hle it li x pk q;obtain rfl:i=items.size:=by lia
  refine uU F.entry_set_update_loop ?_;rw[yU F.plain_set_update_loop _];show wpAny _ A.in1 (lA (.ref I) >>= _) _ _ s;refine aB (W.done s _ _ #[it,li] fun h' tk kp=>?_);show wpAny _ A.in1 (ret Value.none) _ _ _;refine aN (q h' tk es ep t (fun b o _ b2 e=>kp b o (by simpa using b2) e) (x.keep fun o e=>kp S o (by simpa using n1) e) ?_);rwa[<-len,gZ]at pk
 |succ k ih =>
  intro i s es ep t hk hle it li x pk q;have lt:i<items.size:=by lia
  refine uU F.entry_set_update_loop ?_;rw[yU F.plain_set_update_loop _];show wpAny _ A.in1 (lA (.ref I) >>= _) _ _ s;refine aB (W.item i s _ _ lt #[it,li] fun v h' tk hP st kp=>?_);obtain⟨n,t0,en,rfl⟩:=auh hi (v:=v) (by rwa[gR]);have x1:dY prog w h' S es ep t ld:=x.keep fun o e=>kp S o (by simpa using n1) e;show wpAny _ A.in1 (yG [Value.int n t0] (setAdd S (.int n t0)) >>= _) _ _ _;refine aB (oX ?_);unfold setAdd;refine oX (aB ((gM prog w).pyHash (k:=n) (mN rfl) ?_));have room:es.size+1<scanBound:=by
   have h1:=pk.length_eq;have h2:=Z7 (ns.take i);rw[dN]at h2;have h3:(keys es).length=es.size:=by unfold keys;simp
   lia
  refine auf (s:={ s with heap:=h',toks:=tk+1 }) x1 room fun h2 es2 ep2 t2 b sb x2 p2=>?_;have anq:∀b o,b≠S->h'.get? b=some o->h2.get? b=some o:=fun b o nb e=>by rwa[sb.2 b nb]
  refine aN #[rO F.plain_set_update_loop _,ih (i+1) _ es2 ep2 t2 tb_g% lt (st.1.at fun o e=>anq I o (aG n1) e) (st.2.at fun o e=>anq l o (aG n2) e) x2 ?_ fun h3 tk3 es3 ep3 t3 kp3 x3 p3=>?_]
  ·rw[ap4 en];exact p2.trans (anl n pk)
  ·exact q h3 tk3 es3 ep3 t3 (fun b o b1 b2 e=>kp3 b o b1 b2 (anq b o b1 (kp b o (by simpa using b2) e))) x3 p3
end
section
variable{A:aY}{s:Shared}
noncomputable def iu(w:World):Bool:=!w.params.followText "set-order"
noncomputable def afr(ld:Bool):Obj:={ cls:=.type "set",dict:=none,data:=.set #[] 0 (.fresh 0 0 ld) }
theorem ap5(a:Value){Q₁:Value->Shared->Prop}(h:Q₁ (.ref (~~~s)) { s with heap:=s.heap.push (afr (iu w)) }):
  gO (model prog w) A (.call (.builtin "set.__new__") #[[.type "set",a],[]]) (wants Q₁ E) s:=by
 refine akg ?_;show wpAny _ A.in1 (ake "set.__new__" #[[.type "set",a],[]] >>= fun _=>again (.builtin "set.__new__" #[[.type "set",a],[]])) _ _ s;refine aB (uW (F.newCall_set_1 a) (aN #[rO F.plain_set_new _,uU F.entry_set_new ?_]));rw[yU F.plain_set_new _];unfold dO.«set.__new__» asG;have hsub:=sub_set_self;obtain⟨hp,g,d,tk,os⟩:=s;dsimp only;wp_walk;refine Jt (aN ?_);dsimp only;simp only[newObj];refine aB (wpAny_alloc (aN (aN ?_)));exact h
set_option maxHeartbeats 3200000 in
theorem anr(hh:A.handled=none)(hl:s.heap.IsList l items)(hi:IntsAre items.toList ns)(few:items.size+1<scanBound)
  (q:∀h' tk es ep t,dY prog w h' (~~~s) es ep t (iu w)->(keys es).Perm (dd ns)->(∀b o,s⁻¹ b=some o->h'.get? b=some o)->Q (.ref (~~~s)) { s with heap:=h',toks:=tk }):
  wpAny (model prog w) A (call (.type "set") [.ref l]) Q E s:=by
 obtain⟨c,tl,hmro⟩:=F.called_set.mro;have hmade:=F.called_set.made;have hsub:=F.called_set.sub;refine Ym (akg ?_);show wpAny _ _ (callAny (.type "set") _) _ _ _;refine aN #[Code.quiet_builtin _ tb_g%,uU F.entry_type_call ?_];rw[Around.under_plain (weight_type_call_type "set" [.ref l] []) rfl];have h1:=F.called_set.notType;have h2:=F.called_set.canCreate;have hct:=F.typeCall_set_1 (.ref l)
 repeat (any_goals (first|assumption|wp_step))
 refine yD (ap5 (.ref l) (E:=E) (Q₁:=fun obj s₁=>obj=.ref (~~~s)/\s₁={ s with heap:=s.heap.push (afr (iu w)) }) #[rfl,rfl]) fun r s₁ hr=>?_;rcases r with e|fl
 ·exact hr
 cases fl with
 |ret obj =>
  obtain⟨rfl,rfl⟩:=hr;have hS:(s.heap.push (afr (iu w))).get? (~~~s)=some (afr (iu w)):=dW _ rfl;have hT:al5 { s with heap:=s.heap.push (afr (iu w)) } (.ref (~~~s)) "set" := #[_,hS,rfl];have hli:=F.called_set.init.lookup;have hbi:=F.called_set.init.bind (.ref (~~~s))
  repeat (any_goals (first|assumption|wp_step))
  refine yD (aj2 (R:=wants (fun r s₂=>r = .none/\∃ h' tk es ep t,s₂={ s with heap:=h',toks:=tk }/\dY prog w h' (~~~s) es ep t (iu w)/\(keys es).Perm (dd ns)/\∀ b o,s⁻¹ b=some o->h'.get? b=some o) E)
   F.called_set.init.plain F.entry_set_init (check_set_init_1 hT ?_)) fun r₂ s₂ hr₂=>?_
  ·obtain⟨ol,hol,hcl,nl,hdl⟩:=hl;obtain⟨ocls,odict,odata,oslots⟩:=ol;simp only at hcl hdl;subst hcl;subst hdl;have hlS:l< ~~~s:=bQ hol;have hol':=dH (afr (iu w)) hol;unfold afr at hS hT hol' ⊢;have hsls:=F.sub_list_set;have hslf:=F.sub_list_frozenset;have hne:(Value.type "list" == Value.type "dict")=false:=by decide
   have hl1:Heap.IsList (s.heap.push { cls:=.type "set",dict:=none,data:=.set #[] 0 (.fresh 0 0 (iu w)) }) l items:=#[_,hol',rfl,nl,rfl];unfold dO.«set.__init__» noKeywords asF;generalize hPI:Dr=PI;wp_walk;subst hPI;refine aj7 hl1 ?_;refine aB (aki ?_);have z:(s.heap.push { cls:=.type "set",dict:=none,data:=.set #[] 0 (.fresh 0 0 (iu w)) }).objs.size= ~~~s+1:=Dt ..;refine anp (ld:=iu w) (by simp[hh]) (by rw[z];exact cF (Du _)) (yL hlS) (by rw[z];exact cF (yK hlS)) hi few (items.size-0) 0 _ #[] 0 (.fresh 0 0 (iu w)) rfl (bF _)
    #[_,dW _ rfl,rfl,rfl] (hl1.push _) #[dH _ hS,fun e m=>by simp at m,#[rfl,List.Pairwise.nil,rfl,rfl],tb_g%,rfl] (by exact .nil) fun h' tk es ep t kp x p=>?_
   show wpAny _ _ _ _ _ _;refine aN ?_;show wpAny _ _ (ret Value.none) _ _ _;refine aN #[rfl,h',tk,es,ep,t,rfl,x,p,fun b o e=>?_];have hb:=bQ e;exact kp b o (cF hb) (by rw[z];exact cF (yK hb)) (dH _ (dH _ e))
  ·rcases r₂ with e|fl₂
   ·exact hr₂
   cases fl₂ with
   |ret r =>
    obtain⟨rfl,h',tk,es,ep,t,rfl,x,p,kp⟩:=hr₂
    repeat (any_goals (first|assumption|wp_step))
    exact q _ _ _ _ _ x p kp
   |_=>exact hr₂.elim
 |_=>exact hr.elim
end
theorem jY:Slot "set_iterator" "__next__" "set_iterator.__next__" := .of (owner := "set_iterator") (n := "__next__") (by rw[Yd,X5];kernel_rfl) tb_g% tb_g% tb_g% (by first|exact .inl tb_g% | exact .inr tb_g%) (by rw[Yh];kernel_rfl)
theorem agS:Slot "set_iterator" "__iter__" "set_iterator.__iter__" := .of (owner := "set_iterator") (n := "__iter__") (by rw[Yd,X5];kernel_rfl) tb_g% tb_g% tb_g% (by first|exact .inl tb_g% | exact .inr tb_g%) (by rw[Yh];kernel_rfl)
theorem Pg:Dj table "set_iterator.__next__" = some dO.«set_iterator.__next__» := entryFor_of_tree (by kernel_rfl)
theorem ap6:Dj table "set_iterator.__iter__" = some dO.«dict_keyiterator.__iter__» := adB (id' := "dict_keyiterator.__iter__") (by kernel_rfl) rfl tb_g% (by kernel_rfl)
theorem ant:Dj table "set.__iter__" = some dO.«frozenset.__iter__» := adB (id' := "frozenset.__iter__") (by kernel_rfl) rfl tb_g% (by kernel_rfl)
theorem Ph(a:Value):yI "set_iterator.__next__" #[[a],[]]:=by unfold yI;kernel_rfl
theorem ap7(a:Value):yI "set_iterator.__iter__" #[[a],[]]:=by unfold yI;kernel_rfl
section
variable{A:aY}{s:Shared}
theorem aia{M:Model}(h0:n≠0)(q:∀i d,i<n->Q i { s with drawn:=d }):wpAny M A (choose src n) Q E s:=fun Γ p _=>by
 unfold choose;rw[Sem.wp_choose];show#[h0,q _ _ (akJ _ (BL h0))]
theorem agT{M:Model}:∀(n:Nat)(xs:List α)(s:Shared){Q:List α->Shared->Prop},xs.length=n->(∀ys d,ys.Perm xs->Q ys { s with drawn:=d })->wpAny M A (drawOrder n xs) Q E s
 |0,xs,s,Q,h,q=>by
  obtain rfl:=Mi.mp h;exact aN (q [] s.drawn .nil)
 |n+1,[],s,Q,h,q=>by cases h
 |n+1,x::xs,s,Q,h,q=>by
  show wpAny M A (choose .order (x::xs).length >>= _) Q E s;refine aB (aia (by rw[h];exact Nat.succ_ne_zero n) fun i d hi=>?_);rw[eU hi];refine aB (agT n ((x::xs).eraseIdx i) _ (by rw[ajm hi,h];rfl) fun ys d2 p=>aN (q _ d2 ?_));exact(p.cons _).trans (R5 hi)
noncomputable def itO(f:Value)(i:Nat)(a:Addr)(n ep:Nat):Obj:={ cls:=.type "set_iterator",dict:=none,data:=.fields [f,.int i 0,.ref a,.int n 0,.int ep 0].toArray,slots:=#[] }
theorem agU(o:s⁻¹ I=some (itO f i a n ep))(q:Q (.ref I) s):wpAny (model prog w) A (Dr (.ref I)) Q E s:=by
 have hT:s.TypeIs (.ref I) "set_iterator" := #[_,o,rfl];refine adA hT agS (rN agS hT ap6 ?_ (ap7 _));show wpAny _ _ (ret (.ref I)) _ _ s;exact aN #[_,rfl,"set_iterator",_,hT,jY.lookup,q]
theorem agV(hh:A.handled=none)(q:∀h' x,(∀b o,s⁻¹ b=some o->h'.get? b=some o)->al5 { s with heap:=h' } (.ref x) "StopIteration" -> E (.ref x) { s with heap:=h' }):
  wpAny (model prog w) A (newExc (.type "StopIteration") [] >>= fun e=>(raiseNew e:Sem α)) Q E s:=by
 refine aB ?_;simp only[newExc,newTuple];refine aB (CZ ?_ (by size_fits));refine aB (m:=akj _ _) (uW (a:=Value.none) (by first|rfl|(simp only[akj];rfl)) ?_);refine CZ ?_ (by size_fits);simp only[raiseNew];refine aB (wpAny_handled ?_);rw[hh];refine aB (aN (wpAny_throw (q _ _ (fun b o e=>dH _ (dH _ e)) #[_,dW _ rfl,rfl])))
end
section
variable{prog:aK}{w:World}{A:aY}{E:Value->Shared->Prop}{s:Shared}{I a:Addr}{es:Array (Int × Value)}{ep:Nat}{t:eV}{ld:Bool}
noncomputable def Ko(prog:aK)(w:World)(s:Shared)(a:Addr)(sl i ep:Nat)(r:Option (Value × Nat)):Prop:=∀A E Q,Q r s->wpAny (model prog w) A (setNext a sl i ep) Q E s
theorem aib{sl i nx:Nat}{x:Value}{Q:Option Value->Shared->Prop}(o:s⁻¹ I=some (itO (.int sl 0) i a es.size ep))(X:dY prog w s.heap a es ep t ld)(N:Ko prog w s a sl i ep (some (x,nx)))
  (q:∀h',h'.get? I=some (itO (.int nx 0) (i+1) a es.size ep)->yJ I s.heap h'->Q (some x) { s with heap:=h' }):wpAny (model prog w) A (lA (.ref I)) Q E s:=by
 have hT:s.TypeIs (.ref I) "set_iterator" := #[_,o,rfl];unfold lA;refine aB (Qn (XS (name:=Ec "__next__") hT jY (rN jY hT Pg ?_ (Ph _))));unfold dO.«set_iterator.__next__»;refine aB (uW (a:=(Value.ref I,[])) rfl ?_);refine aB (Yi o rfl ?_);dsimp only;refine aB (Qi X.o rfl X.ft ?_);rw[mw (by simp)];refine aB (N _ _ _ ?_);dsimp only;refine aB (Jq o (by simp) fun h1 o1 b1=>?_);refine aB (Jq o1 (by simp) fun h2 o2 b2=>aN #[x,rfl,aN (q h2 ?_ (b1.trans b2))]);rw[o2];rfl
theorem aic{sl i:Nat}{Q:Option Value->Shared->Prop}(hh:A.handled=none)(o:s⁻¹ I=some (itO (.int sl 0) i a es.size ep))(X:dY prog w s.heap a es ep t ld)(N:Ko prog w s a sl i ep none)
  (q:∀h',(∀b u,b≠I->s⁻¹ b=some u->h'.get? b=some u)->Q none { s with heap:=h' }):wpAny (model prog w) A (lA (.ref I)) Q E s:=by
 have hT:s.TypeIs (.ref I) "set_iterator" := #[_,o,rfl];unfold lA;refine aB (Qn (XS (name:=Ec "__next__") hT jY (rN jY hT Pg ?_ (Ph _))));unfold dO.«set_iterator.__next__»;refine aB (uW (a:=(Value.ref I,[])) rfl ?_);refine aB (Yi o rfl ?_);dsimp only;refine aB (Qi X.o rfl X.ft ?_);rw[mw (by simp)];refine aB (N _ _ _ ?_);dsimp only;refine aB (Jq o (by simp) fun h1 o1 b1=>?_);refine agV (A:=A.in1) hh fun h2 x kp ty=>?_;refine aB (X7 (T := "StopIteration") (b:=true) ty akk (aN (q h2 fun b u nb e=>kp b u ?_)));rwa[b1.2 b nb]
theorem bt'(h:w.params.followText "set-order" = true):({ program:=(model prog w).prog,params:=(model prog w).w.params }:Setting).params.followText "set-order" = true:=h
theorem aie(X:dY prog w s.heap a es ep t ld)(bt:w.params.followText "set-order" = true)(i:Nat):Ko prog w s a 0 i ep (((Yq (w.params.setOrder a ep) es)[i]?).map fun e=>(e.2,0)):=fun A E Q q=>by
 unfold setNext;refine aB (Jr X.o rfl X.ft ?_);dsimp only;unfold Yp;refine aB (aB (Jt (aN ?_)));rw[mB (bt' bt),mw (by simp)];unfold setWalk;refine aB (aB (Jr X.o rfl X.ft ?_));dsimp only;unfold Yp;refine aB (aB (Jt (aN ?_)));rw[mB (bt' bt)];exact aB (Jt (aN (aN q)))
noncomputable def slotAt(t:eV):Nat->Nat
 |0=>0
 |i+1=>t.place.getD i 0+1
theorem afs(X:dY prog w s.heap a es ep t ld)(bt:w.params.followText "set-order" = false)(hl:ld=true)(pl:(!t.plain && decide (es.size>1))=false){i:Nat}(hi:i<=es.size):
  Ko prog w s a (slotAt t i) i ep ((es[i]?).map fun e=>(e.2,slotAt t (i+1))):=fun A E Q q=>by
 have bl:jc t.place (slotAt t i)=i:=by
  cases i with
  |zero=>exact afn X.tk.r
  |succ i =>
   have l:i<t.place.size:=by rw[X.tk.n];lia
   have e:=getElem?_pos t.place i l;show jc t.place (t.place.getD i 0+1)=i+1;rw[Array.getD_eq_getD_getElem?,e];exact afo X.tk.r e
 unfold setNext;refine aB (Jr X.o rfl X.ft ?_);dsimp only;unfold Yp;refine aB (aB (Jt (aN ?_)));rw[mw (fun z=>by have z:w.params.followText "set-order" = true:=z;rw[bt]at z;cases z)];show wpAny _ _ (if(!t.plain && decide (es.size>1))=true then _ else _) _ _ _;rw[mw (by rw[pl];decide)];refine aB (m:=if(!t.led && !es.isEmpty)=true then adI "set:maker-not-led" else pure ()) ?_;rw[mw (by rw[X.tk.l,hl];simp)];refine aN ?_;rw[bl];refine aN ?_;rcases lZ i es.size with l|l
 ·have l2:i<t.place.size:=by rwa[X.tk.n]
  rw[getElem?_pos es i l]at q ⊢;rw[getElem?_pos t.place i l2];have:slotAt t (i+1)=t.place[i]+1   := by show t.place.getD i 0+1=_;rw[Array.getD_eq_getD_getElem?,getElem?_pos t.place i l2];rfl
  simpa[this]using q
 ·rw[getElem?_neg es i tb_g%]at q ⊢;exact q
theorem anu{ord:List Value}{sl:Nat->Nat}(hh:A.handled=none)(ne:a≠I)(hn:ord.length=es.size)(N:∀(s:Shared)(i:Nat),dY prog w s.heap a es ep t ld->i<=es.size->Ko prog w s a (sl i) i ep ((ord[i]?).map fun v=>(v,sl (i+1)))):
  Walks prog w A I [I,a] [I] es.size (fun i v=>ord[i]? = some v) (fun i h=>h.get? I=some (itO (.int (sl i) 0) i a es.size ep)/\dY prog w h a es ep t ld) where
 sub:=fun b hb=>by simp at hb;simp[hb]
 frame:=fun i h h' st kp=>#[kp I (by simp) _ st.1,st.2.keep fun o e=>kp a (by simp) o e]
 item:=fun i s Q E hi st q=>by
  have nx:=N s i st.2 (eF hi);rw[eU (by rwa[hn])]at nx;refine aib st.1 st.2 nx fun h' o b=>?_;have kp:∀c u,c≠I->s⁻¹ c=some u->h'.get? c=some u:=fun c u nc e=>by rwa[b.2 c nc]
  exact q _ h' s.toks (eU (by rwa[hn])) #[o,st.2.keep fun u e=>kp a u ne e] fun c u nc e=>kp c u (by simpa using nc) e
 done:=fun s Q E st q=>by
  have nx:=N s es.size st.2 (bC _);rw[wL (by rw[hn];exact bC _)]at nx;exact aic hh st.1 st.2 nx fun h' kp=>q h' s.toks fun c u nc e=>kp c u (by simpa using nc) e
 self:=fun i s Q E st q=>agU st.1 q
end
section
variable{prog:aK}{w:World}{A:aY}{s:Shared}{I a tp:Addr}{es:Array (Int × Value)}{ep:Nat}{t:eV}{ld:Bool}
noncomputable def ordD(es:Array (Int × Value))(ps:List Nat):List Value:=ps.map fun p=>(es.getD p (0,.none)).2
theorem aif{ps:List Nat}(h:ps.Perm (jG es.size)):(ordD es ps).Perm (es.toList.map (·.2)):=by
 refine(h.map _).trans ?_;have:(jG es.size).map (fun p=>(es.getD p (0,.none)).2)=es.toList.map (·.2):=by
  apply List.ext_getElem
  ·simp
  ·intro i h1 h2;have l:i<es.size:=by simpa using h1
   rw[ajF,ajF,List.getElem_range,Array.getD_eq_getD_getElem?,getElem?_pos es i l];simp
 rw[this]
noncomputable def Vo(ps:List Nat):Obj:={ cls:=.type "tuple",data:=.seq (ps.map fun(i:Nat)=>oZ i).toArray }
theorem aft(o:s⁻¹ I=some (itO (.ref tp) i a es.size ep))(ot:s⁻¹ tp=some (Vo ps))(X:dY prog w s.heap a es ep t ld)
  (hp:ps[i]? = some p) (hx:es[p]? = some (h0,x)) (q:∀h',h'.get? I=some (itO (.ref tp) (i+1) a es.size ep)->yJ I s.heap h'->Q (some x) { s with heap:=h' }):wpAny (model prog w) A (lA (.ref I)) Q E s:=by
 have hT:s.TypeIs (.ref I) "set_iterator" := #[_,o,rfl];unfold lA;refine aB (Qn (XS (name:=Ec "__next__") hT jY (rN jY hT Pg ?_ (Ph _))));unfold dO.«set_iterator.__next__»;refine aB (uW (a:=(Value.ref I,[])) rfl ?_);refine aB (Yi o rfl ?_);dsimp only;refine aB (Qi X.o rfl X.ft ?_);rw[mw (by simp)];refine aB (Jv ot rfl ?_);dsimp only;have e1:((ps.map fun(i:Nat)=>oZ i).toArray)[(i:Int).toNat]? = some (.int p 0):=by
  show((ps.map fun(i:Nat)=>oZ i).toArray)[i]? = _;rw[ac5,dG,hp];rfl
 rw[e1];dsimp only;refine aB ?_;unfold setNextDrawn;refine aB (Jr X.o rfl X.ft ?_);dsimp only;rw[mw (by simp)];have e2:es[(p:Int).toNat]? = some (h0,x):=hx;rw[e2];refine aN ?_;refine aB (Jq o (by simp) fun h1 o1 b1=>aN #[x,rfl,aN (q h1 ?_ b1)]);rw[o1];rfl
theorem afu{ps:List Nat}(hh:A.handled=none)(o:s⁻¹ I=some (itO (.ref tp) ps.length a es.size ep))(ot:s⁻¹ tp=some (Vo ps))(X:dY prog w s.heap a es ep t ld)
  (q:∀h',(∀b u,b≠I->s⁻¹ b=some u->h'.get? b=some u)->Q none { s with heap:=h' }):wpAny (model prog w) A (lA (.ref I)) Q E s:=by
 have hT:s.TypeIs (.ref I) "set_iterator" := #[_,o,rfl];unfold lA;refine aB (Qn (XS (name:=Ec "__next__") hT jY (rN jY hT Pg ?_ (Ph _))));unfold dO.«set_iterator.__next__»;refine aB (uW (a:=(Value.ref I,[])) rfl ?_);refine aB (Yi o rfl ?_);dsimp only;refine aB (Qi X.o rfl X.ft ?_);rw[mw (by simp)];refine aB (Jv ot rfl ?_);dsimp only;have e1:((ps.map fun(i:Nat)=>oZ i).toArray)[(ps.length:Int).toNat]? = none:=by
  show((ps.map fun(i:Nat)=>oZ i).toArray)[ps.length]? = _;rw[ac5,dG,wL (bC _)];rfl
 rw[e1];dsimp only;refine aB (Jq o (by simp) fun h1 o1 b1=>?_);refine aB (Jq o1 (by simp) fun h2 o2 b2=>?_);refine agV (A:=A.in1) hh fun h3 x kp ty=>?_;refine aB (X7 (T := "StopIteration") (b:=true) ty akk (aN (q h3 fun b u nb e=>kp b u ?_)));rwa[b2.2 b nb,b1.2 b nb]
theorem afv{ps:List Nat}(hh:A.handled=none)(ne:a≠I)(nt:tp≠I)(hp:ps.Perm (jG es.size)):
  Walks prog w A I [I,a,tp] [I] es.size (fun i v=>(ordD es ps)[i]? = some v) (fun i h=>h.get? I=some (itO (.ref tp) i a es.size ep)/\h.get? tp=some (Vo ps)/\dY prog w h a es ep t ld) where
 sub:=fun b hb=>by simp at hb;simp[hb]
 frame:=fun i h h' st kp=>#[kp I (by simp) _ st.1,kp tp (by simp) _ st.2.1,st.2.2.keep fun o e=>kp a (by simp) o e]
 item:=fun i s Q E hi st q=>by
  have hl:ps.length=es.size:=by rw[hp.length_eq,CJ]
  have lt:i<ps.length:=by lia
  have pm:ps[i]<es.size:=CQ.mp (hp.mem_iff.mp (CP lt));have ex:=getElem?_pos es ps[i] pm;refine aft (h0:=es[ps[i]].1) (x:=es[ps[i]].2) st.1 st.2.1 st.2.2 (eU lt) ex fun h' o b=>?_;have kp:∀c u,c≠I->s⁻¹ c=some u->h'.get? c=some u:=fun c u nc e=>by rwa[b.2 c nc]
  refine q _ h' s.toks ?_ #[o,kp tp _ nt st.2.1,st.2.2.keep fun u e=>kp a u ne e] fun c u nc e=>kp c u (by simpa using nc) e;unfold ordD;rw[dG,eU lt];show some (es.getD ps[i] (0,.none)).2=_;rw[Array.getD_eq_getD_getElem?,ex];rfl
 done:=fun s Q E st q=>by
  have hl:ps.length=es.size:=by rw[hp.length_eq,CJ]
  exact afu hh (by rw[hl];exact st.1) st.2.1 st.2.2 fun h' kp=>q h' s.toks fun c u nc e=>kp c u (by simpa using nc) e
 self:=fun i s Q E st q=>agU st.1 q
end
section
variable{A:aY}{s:Shared}
theorem ap8(hh:A.handled=none)(X:dY prog w s.heap a es ep t (iu w))
  (q:∀ (h':Heap) (d:Drawn) (I:Addr) (fp:List Addr) (ord:List Value) (St:Nat->Heap->Prop),ord.Perm (es.toList.map (·.2))->(∀ b o,s⁻¹ b=some o->h'.get? b=some o)-> ~~~s<=I->(∀ b∈fp,b=a\/(~~~s)<=b) ->
   (∀ B:aY,B.handled=none->Walks prog w B I fp [I] es.size (fun i v=>ord[i]? = some v) St)->St 0 h'->Q (.ref I) { s with heap:=h',drawn:=d }):wpAny (model prog w) A (Dr (.ref a)) Q E s:=by
 have la:=bQ X.o;refine adA X.ty F.slot_set_iter (rN F.slot_set_iter X.ty ant ?_ (F.args_set_iter_1 _));unfold dO.«frozenset.__iter__»;refine aB (uW (a:=a) rfl ?_);refine aB ?_;unfold asH;refine aB (Qi X.o rfl X.ft (aN ?_));refine aB ?_;unfold setDrawn;refine aB (Jr X.o rfl X.ft ?_);dsimp only;unfold Yp;refine aB (aB (Jt (aN (aN ?_))));show wpAny _ _ (if(!w.params.followText "set-order" && (!t.plain && decide (es.size>1)))=true then _ else _) _ _ _;have ways:∀(ord:List Value)(sl:Nat->Nat),sl 0=0->ord.Perm (es.toList.map (·.2))->(∀(s:Shared)(i:Nat),dY prog w s.heap a es ep t (iu w)->i<=es.size->Ko prog w s a (sl i) i ep ((ord[i]?).map fun v=>(v,sl (i+1)))) ->
   Q (.ref (~~~s)) { s with heap:=s.heap.push (itO (.int 0 0) 0 a es.size ep) }:=fun ord sl h0 hp N=>by
  refine q _ s.drawn (~~~s) [~~~s,a] ord (fun i h=>h.get? (~~~s)=some (itO (.int (sl i) 0) i a es.size ep)/\dY prog w h a es ep t (iu w)) hp (fun b o e=>dH _ e) (bC _) ?_ (fun B hB=>anu hB (cF la) (by rw[hp.length_eq];simp) N)
   #[by rw[h0];exact dW _ rfl,X.keep fun o e=>dH _ e]
  intro b m;rcases aX.mp m with rfl|m
  ·exact .inr (bC _)
  ·exact .inl (cC.mp m)
 have fin:∀{Q':Value->Shared->Prop},Q' (.ref (~~~s)) { s with heap:=s.heap.push (itO (.int 0 0) 0 a es.size ep) }->wpAny (model prog w) A.in1 (setEpoch a >>= fun e=>adQ "set_iterator" [oZ 0,oZ 0,.ref a,oZ es.size,oZ e] >>= fun r=>ret r) (fun fin s'=>∃v,fin=.done (.ret v)/\∃T' r,s'.TypeIs v T'/\Yn (.type T') "__next__" = pure (some r)/\Q' v s') E s:=fun {Q'} z=>by
  refine aB (akb X.o rfl X.ft ?_);unfold adQ;refine aB (CZ (aN #[_,rfl,"set_iterator",_,#[_,dW _ rfl,rfl],jY.lookup,?_]));exact z
 cases bt:w.params.followText "set-order" with
 |true =>
  rw[mw (by simp)];refine aB (aN (fin ?_));have pp:=ah9 (w.params.setOrder a ep) es;refine ways ((Yq (w.params.setOrder a ep) es).toList.map (·.2)) (fun _=>0) rfl (pp.map _) fun s i X' _=>?_;have:=aie X' bt i;rwa[dG,gR,QJ]
 |false =>
  have hl:iu w=true:=by unfold iu;rw[bt];rfl
  cases pl:(!t.plain && decide (es.size>1))with
  |false =>
   rw[mw (by simp)];refine aB (aN (fin ?_));refine ways (es.toList.map (·.2)) (slotAt t) rfl .rfl fun s i X' hi=>?_;have:=afs X' bt hl pl hi;rwa[dG,gR,QJ]
  |true =>
   rw[mB (by simp)];refine aB (agT es.size (jG es.size) _ (CJ) fun ps d hp=>aB ?_);have zl:(ps.map fun(i:Nat)=>oZ i).length<=sizeLine:=by rw[aC,hp.length_eq,CJ];exact Js X.few
   refine akh ?_ zl;have X1:dY prog w (s.heap.push (Vo ps)) a es ep t (iu w):=X.keep fun o e=>dH _ e;refine aB (akb (s:={ s with heap:=s.heap.push (Vo ps),drawn:=d }) X1.o rfl X1.ft ?_);unfold adQ;refine aB (CZ (aN #[_,rfl,"set_iterator",_,#[_,dW _ rfl,rfl],jY.lookup,?_]));have zt:(s.heap.push (Vo ps)).objs.size= ~~~s+1:=Dt ..;refine q _ d (s.heap.push (Vo ps)).objs.size [(s.heap.push (Vo ps)).objs.size,a,~~~s] (ordD es ps) (fun i h=>h.get? (s.heap.push (Vo ps)).objs.size=some (itO (.ref (~~~s)) i a es.size ep)/\h.get? (~~~s)=some (Vo ps)/\dY prog w h a es ep t (iu w)) (aif hp) (fun b o e=>dH _ (dH _ e)) (by rw[zt];exact pC _) ?_
    (fun B hB=>afv hB (by rw[zt];exact cF (yK la)) (by rw[zt];exact cF (Du _)) hp) #[dW _ rfl,dH _ (dW _ rfl),X1.keep fun o e=>dH _ e]
   intro b m;rcases aX.mp m with rfl|m
   ·exact .inr (by rw[zt];exact pC _)
   rcases aX.mp m with rfl|m
   ·exact .inl rfl
   ·exact .inr (by rw[cC.mp m];exact bC _)
theorem anv(hT:s.TypeIs (.ref r) "set")(h:Q false s):wpAny (model prog w) A (Zd (.ref r)) Q E s:=by
 unfold Zd;refine aB (Yc hT F.slot_set_len.lookup ?_);generalize hid:("set.__len__" : String)=id0
 wp_delta;rw[show splitId id0=some ("set","__len__")from by subst hid;decide +kernel];subst hid
 refine aB (X7 (T := "set") (b:=true) hT (by rw[Yh];kernel_rfl) ?_);refine uV (fun hab=>mI hab tb_g%) (fun _=>?_);refine uV (fun _=>?_) (fun hab=>mI tb_g% hab);exact aB (adF hT (aN h))
noncomputable def R6(acc:Array Value)(c:Nat):Obj:={ cls:=.type "list",dict:=none,data:=.seq acc c,slots:=#[] }
theorem abK(hh:A.handled=none)(X:dY prog w s.heap r es ep t (iu w))
  (q:∀h' tk d acc,acc.Perm (es.toList.map (·.2))->(∀b o,s⁻¹ b=some o->h'.get? b=some o)->Q acc { s with heap:=h',toks:=tk,drawn:=d }):
  wpAny (model prog w) A (collect (.ref r)) Q E s:=by
 have lr:=bQ X.o;have hn:=Js X.few;unfold collect;refine aB (aki (uU F.entry_proto_collect ?_));rw[yU F.plain_proto_collect _];show wpAny _ A.in1 (newList [] >>= fun l=>again (.builtin "list.__iadd__" #[[l,.ref r],[]])) _ _ s;refine aB (CZ ?_);refine aN #[rO F.plain_list_iadd _,uU F.entry_list_iadd ?_];rw[yU F.plain_list_iadd _];have hS:(s.heap.push (R6 #[] 0)).get? (~~~s)=some (R6 #[] 0):=dW _ rfl;have X1:dY prog w (s.heap.push (R6 #[] 0)) r es ep t (iu w):=X.keep fun o e=>dH _ e;have z1:(s.heap.push (R6 #[] 0)).objs.size= ~~~s+1:=Dt ..;show wpAny _ A.in1 (Wj (.ref (~~~s)) (.ref r) (.ref (~~~s))) _ _ { s with heap:=s.heap.push (R6 #[] 0) };unfold Wj;refine aB (adF (T := "set") (dY.ty (s:={ s with heap:=s.heap.push (R6 #[] 0) }) X1) ?_);have h1:Ze (.ref (~~~s)) (.ref r)=false:=by simp[Ze,yL lr]
 rw[mw (by rw[h1];decide)];refine aB (ap8 (A:=A.in1) (s:={ s with heap:=s.heap.push (R6 #[] 0) }) hh X1 fun h' d I fp ord St hp kp hI hfp W st=>?_);have hS2:h'.get? (~~~s)=some (R6 #[] 0):=kp _ _ hS;have X2:dY prog w h' r es ep t (iu w):=X1.keep fun o e=>kp r o e;have nI: ~~~s≠I:=by rw[z1]at hI;lia
 have nf:(~~~s)∉fp:=fun m=>by
  rcases hfp _ m with e|e
  ·exact yL lr e
  ·rw[z1]at e;lia
 have hlen:ord.length=es.size:=by rw[hp.length_eq];simp
 have key:∀(h2:Heap)(c:Nat),St 0 h2->(∀b o,b≠(~~~s)->h'.get? b=some o->h2.get? b=some o)->h2.get? (~~~s)=some (R6 #[] c) ->
   gO (model prog w) A (.builtin "list.extend.loop" #[[.ref (~~~s),.ref I,.ref (~~~s)],[]]) (fun res s'=>∃(h3:Heap)(tk:Nat)(acc:Array Value)(c':Nat),res=.ok (.ret (.ref (~~~s)))/\s'={ s with heap:=h3,toks:=tk,drawn:=d }/\acc.toList=ord/\h3.get? (~~~s)=some (R6 acc c')/\∀b o,s⁻¹ b=some o->h3.get? b=some o)
    { s with heap:=h2,drawn:=d }:=fun h2 c st2 kp2 hS3=>by
  refine aj3 (W A.in1 hh).toS hn (~~~s) nf (.ref (~~~s)) es.size 0 _ #[] c rfl (bF _) st2 hS3 (al8 _) fun s' acc c' hm hS' hacc=>?_;obtain⟨h3,g3,d3,tk3,o3⟩:=s';have e1:g3=s.gens:=hm.gens;have e2:d3=d:=hm.drawn;have e3:o3=s.os:=hm.os;subst e1;subst e2;subst e3;show#[h3,tk3,acc,c',rfl,rfl,?_,hS',fun b o e=>hm.heap b o (fun m=>?_) (kp2 b o (cF (bQ e)) (kp b o (dH _ e)))]
  ·apply List.ext_getElem?;intro i;rw[gR];rcases lZ i es.size with l|l
   ·have e:=getElem?_pos acc i (by rwa[hacc.1]);rw[hacc.2 i _ e,e]
   ·rw[getElem?_neg acc i (by rw[hacc.1];lia),wL tb_g%]
  ·have lb:=bQ e;rcases aX.mp m with rfl|m
   ·exact q9 _ lb
   ·have m:b=I:=cC.mp m;have hI: ~~~s+1<=I:=by rwa[<-z1]
    have lb:I< ~~~s:=m ▸ lb;exact mI lb (QB.mpr (Qy hI))
 have fin:∀(res:o8)(s':Shared),(∃(h3:Heap)(tk:Nat)(acc:Array Value)(c':Nat),res=.ok (.ret (.ref (~~~s)))/\s'={ s with heap:=h3,toks:=tk,drawn:=d }/\acc.toList=ord/\h3.get? (~~~s)=some (R6 acc c')/\∀b o,s⁻¹ b=some o->h3.get? b=some o) ->
   ∃ v,res = .ok (.ret v)/\wpAny (model prog w) A (match v with
    | .ref a=>load a >>= fun o=>match o.data with
     | .seq xs _=>pure xs.toList
     |_=>adI "internal:collect"
    | _=>adI "internal:collect") Q E s':=by
  rintro res s' ⟨h3,tk,acc,c',rfl,rfl,ea,hS',kp3⟩;show#[_,rfl,aB (wpAny_load hS' (aN ?_))];exact q h3 tk d acc.toList (by rwa[ea]) kp3
 refine aB (oX (anv (dY.ty (s:={ s with heap:=h',drawn:=d }) X2) ?_));refine uV (fun _=>?_) (fun _=>?_)
 ·refine aB (oY (aB ?_));show wpAny _ _ (adR (~~~s) (·.push .none) >>= fun _=>adR (~~~s) (·.pop)) _ _ _;refine aB (Ju hS2 rfl ?_);have hS3:=Ds (jd (·.push Value.none)) hS2 rfl;refine Ju (hz:=by seq_fits) hS3 rfl ?_;have hS4:=Ds (jd (·.pop)) hS3 rfl;have ot:∀b o,b≠(~~~s)->h'.get? b=some o->((h'.update (~~~s) (jd (·.push Value.none))).update (~~~s) (jd (·.pop))).get? b=some o:=fun b o nb e=>(Bx _ _ (aG nb)).trans ((Bx _ _ (aG nb)).trans e);refine aN #[rO F.plain_extend_loop _,yD (key _ _ ((W A hh).frame 0 _ _ st fun b m o e=>ot b o (fun z=>nf (by rwa[<-z])) e) ot hS4) fun res s' z=>?_];obtain⟨v,rfl,g⟩:=fin res s' z;exact g
 ·refine aN #[rO F.plain_extend_loop _,yD (key h' 0 st (fun b o _ e=>e) hS2) fun res s' z=>?_];obtain⟨v,rfl,g⟩:=fin res s' z;exact g
end
end Sx
namespace L2
open PySem PySem.Spec PyProof.Rows
section
variable{X:Cx}
noncomputable def SetO(P:aK)(w:World)(a:Addr)(ns:List Int):HO:=.ext fun h=>∃es ep t,Sx.dY P w h a es ep t (Sx.iu w)/\(Sx.keys es).Perm (Sx.dd ns)
theorem Inv.drew{σ:List (Option V)}{H:Hp}{s:Shared}(d:Drawn)(I:Inv X pins σ H s):Inv X pins σ H { s with drawn:=d }:=#[I.ok,I.os,I.bare,I.base,I.loc,I.cell,I.free,I.wO,I.pin,I.hok,I.len]
noncomputable def rSetC(P:aK)(w:World)(K:aH):List V->Hp->VK->Prop:=fun xs H Q=>∃a ns,xs=[V.ref a]/\SqL K H a (ns.map V.int)/\ns.length<1000/\∀l:Addr,H l=none->Q (.ref l) (upd H l (SetO P w l ns))
theorem aii(hc:X.calm=true):gU X (.type "set") (rSetC X.prog X.w X.K):=by
 intro pins s σ H xs us Q I r h;obtain⟨a,ns,rfl,ha,few,q⟩:=h;obtain⟨u,rfl,ru⟩:=vals1 r;cases ru;obtain⟨its,rv,p,hz⟩:=I.list ha;have hI:=intsAre_of rv;have hl:its.length=ns.length:=by rw[<-rv.length,aC]
 have hs:its.toArray.size=its.length:=cN;refine Sx.anr (items:=its.toArray) (ns:=ns) (I.ok.hd hc) p.isList (by simpa using hI) (by unfold scanBound;lia) fun h' tk es ep t x pk kp=>?_;show#[.ref (~~~s),_,I.laid (t':=tk) kp (bC _) (show cT X.prog X.w _ h' (~~~s) (SetO X.prog X.w (~~~s) ns)from#[#[es,ep,t,x,pk],#[_,x.o],fun h1 h2 ⟨e,p1,t1,y,pe⟩ k=>#[e,p1,t1,y.keep k,pe]]),rfl,q _ (I.hok.fresh (bC _))]
noncomputable def aui(P:aK)(w:World):List V->Hp->VK->Prop:=fun xs H Q=>∃a ns,xs=[V.ref a]/\H a=some (SetO P w a ns)/\(Sx.dd ns).length<64/\∀(l:Addr)(ns':List Int),H l=none->ns'.Perm (Sx.dd ns)->ns'.Pairwise (· <= ·)->Q (.ref l) (upd H l (.lst (ns'.map V.int)))
theorem WT{P:aK}:∀{es:List (Int × Value)},Ys (gM P w) es->IntsAre (es.map (·.2)) (es.map fun e=>Sx.iv e.2)
 |[],_=>.nil
 |(h,v)::r,e=>by
  obtain⟨⟨k,hk,_⟩,hs⟩:=e (h,v) cJ;have hk:JT k v=true:=hk;cases v <;> first|(simp[JT]at hk;done)|skip
  exact .cons _ _ (WT fun x m=>e x (cV _ m))
theorem IntsAre.auj{us vs:List Value}(h:IntsAre vs ns)(p:us.Perm vs):∃ms,IntsAre us ms/\ms.Perm ns:=by
 induction p generalizing ns with
 |nil=>show#[ns,h,.rfl]
 |cons x _ ih =>
  cases h with
  |cons n t h =>
   obtain⟨ms,a,b⟩:=ih h;show#[n::ms,.cons n t a,b.cons n]
 |swap x y l =>
  cases h with
  |cons n t h =>
   cases h with
   |cons m u h=>show#[m::n::_,.cons m u (.cons n t h),.swap ..]
 |trans _ _ ih1 ih2 =>
  obtain⟨ms,a,b⟩:=ih2 h;obtain⟨ks,c,d⟩:=ih1 a;show#[ks,c,d.trans b]
theorem afw(hc:X.calm=true):gU X (.builtin "sorted") (aui X.prog X.w):=by
 intro pins s σ H xs us Q I r h;obtain⟨a,ns,rfl,ha,f64,q⟩:=h;obtain⟨u,rfl,ru⟩:=vals1 r;cases ru;obtain⟨⟨es,ep,t,x,pk⟩,_,_⟩:=I.hok a _ ha;apply aev YS YL YM (aeg _);unfold dO.«sorted»;apply aB (m:=Yo "sorted" 1 1 _);apply aN;apply aB;refine Sx.abK (A:=X.A.in1) (I.ok.hd hc) x fun h1 tk d acc pa kp=>?_;obtain⟨ms,hI,pm⟩:=IntsAre.auj (WT x.el) pa;have hz:acc.length<=sizeLine:=by rw[pa.length_eq,aC,iQ];exact Js x.few
 have h64:acc.length<64:=by
  have e1:=pa.length_eq;have e2:=pk.length_eq;unfold Sx.keys at e2;rw[aC]at e1 e2;lia
 apply aB;refine Qm ?_ hz;have hoL:(h1.push (cR "list" acc.toArray 0)).get? h1.objs.size=some (cR "list" acc.toArray 0):=dW _ rfl;apply aB;refine oX (rN YH #[_,hoL,rfl] YG (akR hoL hI h64 fun out ns' a1 a2 a3=>#[_,rfl,?_]) (aec _));refine aN #[_,rfl,?_];obtain⟨e,he⟩:=aed (vs:=acc) (out:=out) hoL;have hb:∀b ob,s⁻¹ b=some ob->b<h1.objs.size:=fun b ob e'=>bQ (kp b ob e');have pf:ns'.Perm (Sx.dd ns):=(a2.trans pm).trans pk;show#[.ref h1.objs.size,_,(I.drew d).Ms (t':=tk) (fun b ob e'=>?_) (fun b ob e'=>cF (hb b ob e')) (show cT X.prog X.w _ _ h1.objs.size (.lst (ns'.map V.int))from#[?_,out.toList,e,lH a1,by simpa using he]),rfl,q _ ns' (I.none_of fun b ob e'=>cF (hb b ob e')) pf a3]
 ·have hlt:=hb b ob e';rw[aeb (cF hlt) (by rw[JK];exact yK hlt)];exact dH _ (kp b ob e')
 ·rw[aC,(a2.trans pm).length_eq,aC,iQ];exact Js x.few
end
end L2
namespace RG
noncomputable abbrev Ls:=List (List Int)
noncomputable def Sd(l:List Int):Prop:=l.Pairwise (· <= ·)
noncomputable def srt(ns:List Int):List Int:=ns.mergeSort fun a b=>decide (a<=b)
theorem lK:∀{xs ys:List Int},xs.Perm ys->xs.Pairwise (· <= ·)->ys.Pairwise (· <= ·)->xs=ys
 |[],ys,p,_,_=>by rw[ajL.mp p]
 |x::xs,[],p,_,_=>mI p (by simp)
 |x::xs,y::ys,p,h1,h2=>by
  have a1:=gC.mp h1;have a2:=gC.mp h2;have e:x=y:=by
   have m1:x∈y::ys:=p.mem_iff.mp cJ;have m2:y∈x::xs:=p.mem_iff.mpr cJ;rcases aX.mp m1 with z|z
   ·exact z
   ·rcases aX.mp m2 with z'|z'
    ·exact z'.symm
    ·exact ak5 (a1.1 y z') (a2.1 x z)
  subst e;rw[lK (alM p) a1.2 a2.2]
theorem fZ(ns:List Int):(srt ns).Perm ns:=ajw _ _
theorem sY(ns:List Int):Sd (srt ns):=by
 have:=ajo (le:=fun a b:Int=>decide (a<=b)) (fun a b c h1 h2=>by simp only[decide_eq_true_eq]at *; lia) (fun a b=>by simp only[alr,decide_eq_true_eq];lia) ns;exact this.imp fun h=>mP h
theorem vR{ns ms:List Int}(p:ms.Perm ns)(h:ms.Pairwise (· <= ·)):ms=srt ns:=lK (p.trans (fZ ns).symm) h (sY ns)
theorem fj(ns:List Int):(srt ns).length=ns.length:=(fZ ns).length_eq
theorem lV:z∈srt ns↔z∈ns:=(fZ ns).mem_iff
noncomputable def pick(o:Bool):List Int->List Int
 |a::b::r=>(if o then b else a)::pick o r
 |_=>[]
noncomputable def lft:List Int->List Int
 |_::_::r=>lft r
 |l=>l
theorem Bd:∀l:List Int,(lft l).length=l.length % 2
 |[]=>rfl
 |[_]=>rfl
 |_::_::r=>by
  have:=Bd r;show(lft r).length=(r.length+1+1) % 2;lia
theorem mK(o:Bool):∀l:List Int,(pick o l).length=l.length / 2
 |[]=>by simp[pick]
 |[_]=>by simp[pick]
 |_::_::r=>by
  have:=mK o r;show(pick o r).length+1=(r.length+1+1) / 2;lia
theorem abL:∀l:List Int,lft l=l.drop (l.length-l.length % 2)
 |[]=>rfl
 |[_]=>rfl
 |a::b::r=>by
  have:=abL r;show lft r=(a::b::r).drop (r.length+1+1-(r.length+1+1) % 2);rwa[show r.length+1+1-(r.length+1+1) % 2=(r.length-r.length % 2)+1+1 by lia,ajx,ajx]
theorem Pj:∀{l:List Int},z∈lft l->z∈l
 |[],h=>h
 |[_],h=>h
 |_::_::r,h=>cV _ (cV _ (Pj (l:=r) h))
theorem GZ:∀{l:List Int},z∈pick o l->z∈l
 |[],h=>nomatch h
 |[_],h=>nomatch h
 |a::b::r,h=>by
  rcases aX.mp h with e|e
  ·cases o
   ·rw[e];exact cJ
   ·rw[e];exact cV _ cJ
  ·exact cV _ (cV _ (GZ (l:=r) e))
theorem anw:∀{l:List Int},Sd l->Sd (lft l)
 |[],h=>h
 |[_],h=>h
 |_::_::r,h=>anw (l:=r) (gC.mp (gC.mp h).2).2
noncomputable def cnt(x:Int)(l:List Int):Nat:=(l.filter fun z=>decide (z<=x)).length
theorem cnt_nil(x:Int):cnt x []=0:=rfl
theorem cnt_cons(x a:Int)(l:List Int):cnt x (a::l)=(if a<=x then 1 else 0)+cnt x l:=by
 unfold cnt;rw[uR];by_cases h:a<=x
 ·rw[mB (mN h),mB h,fu];lia
 ·rw[mw (by simpa using h),mw h];lia
theorem cnt_append(x:Int)(l m:List Int):cnt x (l++m)=cnt x l+cnt x m:=by
 unfold cnt;rw[iM,dw]
theorem anx{l m:List Int}(p:l.Perm m):cnt x l=cnt x m:=(p.filter _).length_eq
theorem Z8(x:Int)(l:List Int):cnt x (srt l)=cnt x l:=anx (fZ l)
theorem um(h:∀z∈l,x<z):cnt x l=0:=by
 unfold cnt;rw[Gg.mpr]
 ·rfl
 ·intro z hz e;have:=h z hz;have:=mP e;lia
theorem auk(x:Int)(l:List Int):cnt x l<=l.length:=iV _ _
theorem WW:∀{l:List Int},Sd l->cnt x l<=cnt x (lft l)+2*cnt x (pick false l)/\cnt x (lft l)+2*cnt x (pick false l)<=cnt x l+1
 |[],_=>#[bC _,bF 1]
 |[a],_=>#[iZ _ _,by show cnt x [a]+2*0<=_;lia]
 |a::b::r,h=>by
  have h1:=gC.mp h;have h2:=gC.mp h1.2;have ih:=WW (x:=x) h2.2;have ab:=h1.1 b cJ;show cnt x (a::b::r)<=cnt x (lft r)+2*cnt x (a::pick false r)/\cnt x (lft r)+2*cnt x (a::pick false r)<=cnt x (a::b::r)+1;rw[cnt_cons,cnt_cons,cnt_cons];by_cases hb:b<=x
  ·rw[mB hb,mB (show a<=x by lia)];lia
  ·have z0:cnt x (lft r)=0:=um fun z hz=>by have:=h2.1 z (Pj hz);lia
   have z1:cnt x (pick false r)=0:=um fun z hz=>by have:=h2.1 z (GZ hz);lia
   have z2:cnt x r=0:=um fun z hz=>by have:=h2.1 z hz;lia
   rw[mw hb,z0,z1,z2];split <;> lia
theorem R7:∀{l:List Int},Sd l->cnt x (lft l)+2*cnt x (pick true l)<=cnt x l/\cnt x l<=cnt x (lft l)+2*cnt x (pick true l)+1
 |[],_=>#[bC _,bF 1]
 |[a],_=>#[by show cnt x [a]+2*0<=_;lia,by show _<=cnt x [a]+2*0+1;lia]
 |a::b::r,h=>by
  have h1:=gC.mp h;have h2:=gC.mp h1.2;have ih:=R7 (x:=x) h2.2;have ab:=h1.1 b cJ;show cnt x (lft r)+2*cnt x (b::pick true r)<=cnt x (a::b::r)/\cnt x (a::b::r)<=cnt x (lft r)+2*cnt x (b::pick true r)+1;rw[cnt_cons,cnt_cons,cnt_cons];by_cases hb:b<=x
  ·rw[mB hb,mB (show a<=x by lia)];lia
  ·have z0:cnt x (lft r)=0:=um fun z hz=>by have:=h2.1 z (Pj hz);lia
   have z1:cnt x (pick true r)=0:=um fun z hz=>by have:=h2.1 z (GZ hz);lia
   have z2:cnt x r=0:=um fun z hz=>by have:=h2.1 z hz;lia
   rw[mw hb,z0,z1,z2];split <;> lia
noncomputable def val:Ls->Nat
 |[]=>0
 |l::r=>l.length+2*val r
noncomputable def nr(x:Int):Ls->Nat
 |[]=>0
 |l::r=>cnt x l+2*nr x r
noncomputable def pot(h:Nat):Ls->Nat
 |[]=>0
 |l::r=>h*2 ^ h*l.length+pot (h+1) r
theorem afx(ls:Ls):val ls=(ls.headD []).length+2*val ls.tail:=by cases ls <;> rfl
theorem arG(x:Int)(ls:Ls):nr x ls=cnt x (ls.headD [])+2*nr x ls.tail:=by cases ls <;> rfl
theorem anz(h:Nat)(ls:Ls):pot h ls=h*2 ^ h*(ls.headD []).length+pot (h+1) ls.tail:=by
 cases ls
 ·show 0=h*2 ^ h*0+0;rw[Dy]
 ·rfl
theorem Z9{P:List Int->Prop}{ls:Ls}(h:∀l∈ls,P l)(h0:P []):P (ls.headD []):=by
 cases ls
 ·exact h0
 ·exact h _ cJ
theorem aac{P:List Int->Prop}{ls:Ls}(h:∀l∈ls,P l):∀l∈ls.tail,P l:=fun l hl=>h l (ajv hl)
noncomputable def fB(t:Int)(ls:Ls)(w:Nat):Ls:=
 if w=0 then ls else(if w % 2=1 then srt (ls.headD []++[t])else ls.headD [])::fB t ls.tail (w / 2)
termination_by w
decreasing_by lia
theorem fQ(t:Int)(ls:Ls):fB t ls 0=ls:=by rw[fB,mB rfl]
theorem f9(t:Int)(ls:Ls)(h:w≠0):fB t ls w=(if w % 2=1 then srt (ls.headD []++[t])else ls.headD [])::fB t ls.tail (w / 2):=by rw[fB,mw h]
theorem aij(t:Int)(h:w≠0):fB t [[]] w=fB t [] w:=by rw[f9 t _ h,f9 t [] h];rfl
theorem WX(t:Int):∀w ls,val (fB t ls w)=val ls+w:=by
 intro w
 induction w using JG with
 |_ w ih =>
  intro ls;by_cases h:w=0
  ·rw[h,fQ];rfl
  ·rw[f9 t ls h];show jF _+2*val _=_;rw[ih (w / 2) tb_g%,afx ls];split
   ·rw[fj,dw];show _+1+_=_;lia
   ·lia
theorem anA(t x:Int):∀w ls,nr x (fB t ls w)=nr x ls+if t<=x then w else 0:=by
 intro w
 induction w using JG with
 |_ w ih =>
  intro ls;by_cases h:w=0
  ·rw[h,fQ];split <;> rfl
  ·rw[f9 t ls h];show cnt x _+2*nr x _=_;rw[ih (w / 2) tb_g%,arG x ls];split
   ·rw[Z8,cnt_append,cnt_cons,cnt_nil];split <;> lia
   ·split <;> lia
theorem aik(t:Int):∀w h ls,pot h ls<=pot h (fB t ls w):=by
 intro w
 induction w using JG with
 |_ w ih =>
  intro h ls;by_cases hw:w=0
  ·rw[hw,fQ];exact bC _
  ·rw[f9 t ls hw,anz h ls];show _<=h*2 ^ h*jF _+pot (h+1) _;have:=ih (w / 2) tb_g% (h+1) ls.tail;refine YC (akz _ ?_) this;split
   ·rw[fj,dw];lia
   ·exact bC _
theorem WY{P:List Int->Prop}(t:Int)(h0:P [])(h1:∀l,P l->P (srt (l++[t]))):∀w ls,(∀l∈ls,P l)->∀l∈fB t ls w,P l:=by
 intro w
 induction w using JG with
 |_ w ih =>
  intro ls hl;by_cases hw:w=0
  ·rwa[hw,fQ]
  ·rw[f9 t ls hw];intro l m;rcases aX.mp m with e|e
   ·rw[e];split
    ·exact h1 _ (Z9 hl h0)
    ·exact Z9 hl h0
   ·exact ih (w / 2) tb_g% ls.tail (aac hl) l e
noncomputable def Full(ls:Ls):Prop:=∀l,ls.getLast? = some l->l≠[]
theorem Bf(h:Full ls)(h0:ls=[]->l≠[]):Full (l::ls):=by
 intro m hm;cases ls with
 |nil=>simp at hm;rw[<-hm];exact h0 rfl
 |cons a r=>exact h m (by rwa[ajp]at hm)
theorem uo(h:Full ls):Full ls.tail:=by
 intro m hm;cases ls with
 |nil=>exact nomatch hm
 |cons a r =>
  cases r with
  |nil=>exact nomatch hm
  |cons b r=>exact h m (by rwa[ajp])
theorem abM(h:w≠0):fB t ls w≠[]:=by rw[f9 t ls h];exact adh _ _
theorem ail(h:fB t ls w=[]):w=0/\ls=[]:=by
 by_cases hw:w=0
 ·rw[hw,fQ]at h;show#[hw,h]
 ·exact mI h (abM hw)
theorem afy(t:Int):∀w ls,Full ls->Full (fB t ls w):=by
 intro w
 induction w using JG with
 |_ w ih =>
  intro ls hl;by_cases hw:w=0
  ·rwa[hw,fQ]
  ·rw[f9 t ls hw];refine Bf (ih (w / 2) tb_g% _ (uo hl)) fun e=>?_;have hw2:=(ail e).1;rw[mB (show w % 2=1 by lia)];intro z;have:=mM jF z;rw[fj,dw]at this;exact mI this (by show ¬ _+1=0;lia)
inductive Stl (room:Int):Nat->Int->Int->Int->Ls->Ls->Int->Int->Int->Prop
 |nil (h:Nat) (tn ov un:Int):Stl room h tn ov un [] [] tn ov un
 |keep {h:Nat} {tn ov un:Int} {l:List Int} {ls out:Ls} {tn' ov' un':Int}:(l.length:Int)<=room->Stl room (h+1) tn ov un ls out tn' ov' un'->Stl room h tn ov un (l::ls) (l::out) tn' ov' un'
 |turn {h:Nat} {tn ov un:Int} {l:List Int} {ls out:Ls} {tn' ov' un':Int}:room<(l.length:Int) ->
   Stl room (h+1) (tn+1) (if tn % 2=0 then ov+2 ^ h else ov) (if tn % 2=0 then un else un+2 ^ h) (srt (ls.headD []++pick (decide (tn % 2=1)) l)::ls.tail) out tn' ov' un'->Stl room h tn ov un (l::ls) (lft l::out) tn' ov' un'
theorem Stl.uniq{tn ov un:Int}(a:Stl room h tn ov un ls out tn' ov' un'):∀{out2:Ls}{tn2 ov2 un2:Int},Stl room h tn ov un ls out2 tn2 ov2 un2->out2=out/\tn2=tn'/\ov2=ov'/\un2=un':=by
 induction a with
 |nil=>intro _ _ _ _ b;cases b;show#[rfl,rfl,rfl,rfl]
 |keep hl _ ih =>
  intro _ _ _ _ b;cases b with
  |keep _ b=>obtain⟨e1,e2,e3,e4⟩:=ih b;show#[by rw[e1],e2,e3,e4]
  |turn hg _=>lia
 |turn hl _ ih =>
  intro _ _ _ _ b;cases b with
  |keep hg _=>lia
  |turn _ b=>obtain⟨e1,e2,e3,e4⟩:=ih b;show#[by rw[e1],e2,e3,e4]
theorem Stl.val{tn ov un:Int}(a:Stl room h tn ov un ls out tn' ov' un'):val out=val ls:=by
 induction a with
 |nil=>rfl
 |keep _ _ ih=>show _+2*_=_+2*_;rw[ih]
 | @turn _ _ _ _ l ls _ _ _ _ _ _ ih =>
  show jF _+2*_=_+2*_;rw[ih,Bd];show _+2*(jF _+2*RG.val ls.tail)=_;rw[fj,dw,mK,afx ls];lia
theorem Stl.all{P:List Int->Prop}(h0:P [])(hL:∀l,P l->P (lft l))(hP:∀l m o,P l->P m->P (srt (l++pick o m))){room:Int}{h:Nat}{tn ov un:Int}{ls out:Ls}{tn' ov' un':Int}(a:Stl room h tn ov un ls out tn' ov' un'):(∀l∈ls,P l)->∀l∈out,P l:=by
 induction a with
 |nil=>exact id
 |keep _ _ ih =>
  intro hl l m;rcases aX.mp m with e|e
  ·rw[e];exact hl _ cJ
  ·exact ih (fun l hm=>hl l (cV _ hm)) l e
 | @turn _ _ _ _ l0 ls _ _ _ _ _ _ ih =>
  intro hl l m;have h1:P l0:=hl _ cJ;have h2:∀l∈ls,P l:=fun l hm=>hl l (cV _ hm);rcases aX.mp m with e|e
  ·rw[e];exact hL _ h1
  ·refine ih (fun l hm=>?_) l e;rcases aX.mp hm with z|z
   ·rw[z];exact hP _ _ _ (Z9 h2 h0) h1
   ·exact aac h2 l z
theorem Stl.small(r1:1<=room){h:Nat}{tn ov un:Int}{ls out:Ls}{tn' ov' un':Int}(a:Stl room h tn ov un ls out tn' ov' un'):∀l∈out,(l.length:Int)<=room:=by
 induction a with
 |nil=>exact fun _ h=>nomatch h
 |keep hl _ ih =>
  intro l m;rcases aX.mp m with e|e
  ·rwa[e]
  ·exact ih l e
 |turn _ _ ih =>
  intro l m;rcases aX.mp m with e|e
  ·rw[e,Bd];lia
  ·exact ih l e
theorem Stl.empty{tn ov un:Int}(a:Stl room h tn ov un ls out tn' ov' un')(e:out=[]):ls=[]:=by
 cases a with
 |nil=>rfl
 |keep _ _=>cases e
 |turn _ _=>cases e
theorem Stl.full(r1:1<=room){h:Nat}{tn ov un:Int}{ls out:Ls}{tn' ov' un':Int}(a:Stl room h tn ov un ls out tn' ov' un'):Full ls->Full out:=by
 induction a with
 |nil=>exact id
 | @keep _ _ _ _ l ls out _ _ _ _ a ih =>
  intro f;refine Bf (ih (uo f)) fun e=>?_;have:=a.empty e;subst this;exact f l rfl
 | @turn _ _ _ _ l ls out _ _ _ hl a ih =>
  intro f;refine Bf (ih (Bf (uo (uo f)) fun _ z=>?_)) fun e=>?_
  ·have:=mM jF z;rw[fj,dw,mK]at this;have:(_:Nat)+l.length / 2=0:=this;lia
  ·exact mI (a.empty e) (adh _ _)
theorem Stl.mono{tn ov un:Int}(a:Stl room h tn ov un ls out tn' ov' un'):tn<=tn'/\ov<=ov'/\un<=un':=by
 induction a with
 |nil=>show#[bR _,bR _,bR _]
 |keep _ _ ih=>exact ih
 | @turn h tn ov un _ _ _ _ _ _ _ _ ih =>
  have p:(0:Int)<2 ^ h:=QH tb_g%;obtain⟨i1,i2,i3⟩:=ih;show#[by lia,?_,?_]
  ·split at i2 <;> lia
  ·split at i3 <;> lia
theorem Stl.pot(ev:room % 2=0){h:Nat}{tn ov un:Int}{ls out:Ls}{tn' ov' un':Int}(a:Stl room h tn ov un ls out tn' ov' un'):room*(ov'+un'-ov-un)+pot h ls<=pot h out:=by
 induction a with
 |nil h tn ov un =>
  rw[show ov+un-ov-un=0 by lia,ald];lia
 | @keep h _ _ _ l ls out _ _ _ _ _ ih =>
  show _+((h*2 ^ h*l.length+RG.pot (h+1) ls:Nat):Int)<=((h*2 ^ h*l.length+RG.pot (h+1) out:Nat):Int);lia
 | @turn h tn ov un l ls out tn' ov' un' hl _ ih =>
  show _+((h*2 ^ h*l.length+RG.pot (h+1) ls:Nat):Int)<=((h*2 ^ h*(lft l).length+RG.pot (h+1) out:Nat):Int);have e:RG.pot (h+1) (srt (ls.headD []++pick (decide (tn % 2=1)) l)::ls.tail)=RG.pot (h+1) ls+(h+1)*2 ^ (h+1)*(l.length / 2):=by
   show(h+1)*2 ^ (h+1)*jF _+RG.pot (h+1+1) ls.tail=_;rw[fj,dw,mK,anz (h+1) ls,rR];lia
  rw[e]at ih;have d:(if tn % 2=0 then ov+2 ^ h else ov)+(if tn % 2=0 then un else un+2 ^ h)=ov+un+2 ^ h:=by split <;> lia
  have ih2:room*(ov'+un'-(ov+un+2 ^ h))+((RG.pot (h+1) ls+(h+1)*2 ^ (h+1)*(l.length / 2):Nat):Int)<=RG.pot (h+1) out:=by
   rw[<-d];refine gn (Int.le_of_eq ?_) ih;congr 2;lia
  rw[Bd];have m1:room*(ov'+un'-(ov+un+2 ^ h))=room*(ov'+un'-ov-un)-room*2 ^ h:=by
   rw[<-Int.mul_sub];congr 1;lia
  rw[m1]at ih2;have key:h*2 ^ h*l.length+(2*(l.length / 2))*2 ^ h=h*2 ^ h*(l.length % 2)+(h+1)*2 ^ (h+1)*(l.length / 2):=by
   have e1:l.length=2*(l.length / 2)+l.length % 2:=by lia
   generalize l.length / 2=m at e1 ⊢;generalize l.length % 2=c at e1 ⊢;rw[e1,pA]
   grind
  have big:room*2 ^ h<=((2*(l.length / 2)*2 ^ h:Nat):Int):=by
   have r2:room<=((2*(l.length / 2):Nat):Int):=by lia
   have p:(0:Int)<=2 ^ h:=ak8 tb_g%;have:=wM r2 p;rw[DR];rwa[u9]
  have key':((h*2 ^ h*l.length:Nat):Int)+((2*(l.length / 2)*2 ^ h:Nat):Int)=((h*2 ^ h*(l.length % 2):Nat):Int)+(((h+1)*2 ^ (h+1)*(l.length / 2):Nat):Int):=by
   rw[<-tO,<-tO,key]
  rw[tO,tO];rw[tO]at ih2;lia
theorem Stl.nr(x:Int){room:Int}{h:Nat}{tn ov un:Int}{ls out:Ls}{tn' ov' un':Int}(a:Stl room h tn ov un ls out tn' ov' un'):(∀l∈ls,Sd l) ->
  (2 ^ h*(nr x ls:Int))-(un'-un)<=2 ^ h*(nr x out:Int)/\2 ^ h*(nr x out:Int)<=2 ^ h*(nr x ls:Int)+(ov'-ov):=by
 induction a with
 |nil=>intro _;constructor <;> lia
 | @keep h _ _ _ l ls out _ _ _ _ _ ih =>
  intro hs;obtain⟨i1,i2⟩:=ih fun l hl=>hs l (cV _ hl);have e:∀k:Ls,(2:Int) ^ h*(RG.nr x (l::k):Int)=2 ^ h*(cnt x l:Int)+2 ^ (h+1)*(RG.nr x k:Int):=fun k=>by
   show(2:Int) ^ h*((cnt x l+2*RG.nr x k:Nat):Int)=_;rw[tO,DR,iT,mj,jK];rfl
  rw[e,e];constructor <;> lia
 | @turn h tn ov un l ls out tn' ov' un' hl _ ih =>
  intro hs;have sl:=hs _ cJ;have hs':∀l∈ls,Sd l:=fun l hl=>hs l (cV _ hl);obtain⟨i1,i2⟩:=ih fun l hl=>by
   rcases aX.mp hl with z|z
   ·rw[z];exact sY _
   ·exact aac hs' l z
  have e:∀(m:List Int)(k:Ls),(2:Int) ^ h*(RG.nr x (m::k):Int)=2 ^ h*(cnt x m:Int)+2 ^ (h+1)*(RG.nr x k:Int):=fun m k=>by
   show(2:Int) ^ h*((cnt x m+2*RG.nr x k:Nat):Int)=_;rw[tO,DR,iT,mj,jK];rfl
  have e2:(2:Int) ^ (h+1)*(RG.nr x (srt (ls.headD []++pick (decide (tn % 2=1)) l)::ls.tail):Int)=2 ^ (h+1)*(RG.nr x ls:Int)+2 ^ h*(2*(cnt x (pick (decide (tn % 2=1)) l):Int)):=by
   have:RG.nr x (srt (ls.headD []++pick (decide (tn % 2=1)) l)::ls.tail)=RG.nr x ls+cnt x (pick (decide (tn % 2=1)) l):=by
    show cnt x _+2*_=_;rw[Z8,cnt_append,arG x ls];lia
   rw[this,tO,iT,mj,jK _ 2 ((cnt x _:Nat):Int)]
  rw[e,e];rw[e2]at i1 i2;have p:(0:Int)<=2 ^ h:=ak8 tb_g%;generalize hP:(2:Int) ^ h=P at *;generalize (2:Int) ^ (h+1)*(RG.nr x ls:Int)=A at *;generalize (2:Int) ^ (h+1)*(RG.nr x out:Int)=B at *;rcases(show tn % 2=0\/tn % 2=1 by lia)with z|z
  ·rw[mS tb_g%]at i1 i2;rw[mB z]at i1 i2;obtain⟨c1,c2⟩:=WW (x:=x) sl;have m1:=QD (show(cnt x l:Int)<=(cnt x (lft l):Int)+2*(cnt x (pick false l):Int) by lia) p;have m2:=QD (show(cnt x (lft l):Int)+2*(cnt x (pick false l):Int)<=(cnt x l:Int)+1 by lia) p;rw[iT]at m1 m2;rw[iT,Y5]at m2;constructor <;> lia
  ·rw[mN z]at i1 i2;rw[mw tb_g%]at i1 i2;obtain⟨c1,c2⟩:=R7 (x:=x) sl;have m1:=QD (show(cnt x (lft l):Int)+2*(cnt x (pick true l):Int)<=(cnt x l:Int) by lia) p;have m2:=QD (show(cnt x l:Int)<=((cnt x (lft l):Int)+2*(cnt x (pick true l):Int))+1 by lia) p;rw[iT]at m1;rw[iT,Y5,iT]at m2;constructor <;> lia
theorem anB:∀ls h,pot h ls<=(h+ls.length-1)*(2 ^ h*val ls)
 |[],h=>by show 0<=_;exact bF _
 |l::r,h=>by
  have ih:=anB r (h+1);show h*2 ^ h*l.length+pot (h+1) r<=(h+(r.length+1)-1)*(2 ^ h*(l.length+2*val r));rw[show h+(r.length+1)-1=h+r.length by lia];rw[show h+1+r.length-1=h+r.length by lia]at ih;have e:2 ^ h*(l.length+2*val r)=2 ^ h*l.length+2 ^ (h+1)*val r:=by rw[pA];grind
  rw[e,rR];refine YC ?_ ih;rw[Dv];exact Qw _ tb_g%
theorem agW:∀{ls:Ls},Full ls->ls≠[]->2 ^ (ls.length-1)<=val ls
 |[],_,h=>mI rfl h
 |[l],f,_=>by
  have:=f l rfl;show 1<=l.length+2*0;cases l with
  |nil=>exact mI rfl this
  |cons a r=>show 1<=r.length+1+0;lia
 |l::m::r,f,_=>by
  have ih:=agW (ls:=m::r) (uo f) (adh _ _);show 2 ^ ((m::r).length+1-1)<=l.length+2*val (m::r);rw[show(m::r).length+1-1=((m::r).length-1)+1 by rw[fu];lia,pA];lia
theorem jm{α:Type}{ms:List α}{p:Nat}{l:α}(h:ms[p]? = some l):ms.take (p+1)=ms.take p++[l]:=by rw[jE,h];rfl
theorem d9{α:Type}{ms:List α}{p:Nat}{l:α}(h:ms[p]? = some l):ms.drop p=l::ms.drop (p+1):=by
 obtain⟨hp,e⟩:=dh.mp h;rw[Ji hp,e]
theorem abN{α:Type}{ms:List α}{p:Nat}{l m:α}(h:ms[p]? = some l):(ms.set p m).take (p+1)=ms.take p++[m]:=by
 obtain⟨hp,e⟩:=dh.mp h;rw[jm (l:=m) (by rw[Xv hp]),ajy (bC _)]
theorem set_drop{α:Type}{ms:List α}{p:Nat}{m:α}:(ms.set p m).drop (p+1)=ms.drop (p+1):=by rw[ac8 (Du p)]
theorem G9{α:Type}{ms:List α}{p:Nat}{l:α}(h:ms[p]? = some l):ms.set p l=ms:=by
 obtain⟨hp,e⟩:=dh.mp h;rw[<-e,List.set_getElem_self]
theorem R9{t:Int}{ms:Ls}{p k:Nat}{l:List Int}(h:ms[p]? = some l)(hk:k≠0):
  (ms.set p (if k % 2=1 then srt (l++[t])else l)).take (p+1)++fB t ((ms.set p (if k % 2=1 then srt (l++[t])else l)).drop (p+1)) (k / 2)=ms.take p++fB t (ms.drop p) k:=by
 rw[abN h,set_drop,d9 h,f9 t _ hk,gD];rfl
theorem afz{ms:Ls}(h:p=ms.length)(hk:k≠0):(ms++[[]]).take p++fB t ((ms++[[]]).drop p) k=ms.take p++fB t (ms.drop p) k:=by
 rw[h,List.take_left,ajI,gZ,XC,aij t hk]
theorem qe:∀xs ys,val (xs++ys)=val xs+2 ^ xs.length*val ys
 |[],ys=>by show val ys=0+1*val ys;lia
 |x::xs,ys=>by
  show x.length+2*val (xs++ys)=x.length+2*val xs+2 ^ (xs.length+1)*val ys;rw[qe xs ys,pA,rR,Dz _ 2,Dv];lia
structure Run(room tn ov un:Int)(ls:Ls)(q:Nat)(tn2 ov2 un2:Int)(ms:Ls):Prop where
 cont:∀out tn' ov' un',Stl room q tn2 ov2 un2 (ms.drop q) out tn' ov' un'->Stl room 0 tn ov un ls (ms.take q++out) tn' ov' un'
 vl:val (ms.take q)+2 ^ q*val (ms.drop q)=val ls
 le:q<=ms.length
 b1:(∀l∈ls,l.length<=31)->∀l∈ms,l.length<=62
 b2:(∀l∈ls,l.length<=31)->∀l∈ms.drop (q+1),l.length<=31
 b0:(∀l∈ls,(l.length:Int)<=room)->ms=ls
theorem Run.start{room tn ov un:Int}:Run room tn ov un ls 0 tn ov un ls:=
 #[fun _ _ _ _ h=>h,by show 0+1*_=_;rw[ajJ];lia,bF _,fun h l hl=>by have:=h l hl;lia,fun h l hl=>h l (Qa hl),fun _=>rfl]
theorem Run.done{room tn ov un tn2 ov2 un2:Int}(r:Run room tn ov un ls q tn2 ov2 un2 ms)(h:ms.length<=q):Stl room 0 tn ov un ls ms tn2 ov2 un2:=by
 have:=r.cont [] tn2 ov2 un2 (by rw[ac4 h];exact .nil _ _ _ _);rwa[gk,jD h]at this
theorem Run.keep{room tn ov un tn2 ov2 un2:Int}{ls ms:Ls}{q:Nat}{l:List Int}(r:Run room tn ov un ls q tn2 ov2 un2 ms)(h:ms[q]? = some l)(hl:(l.length:Int)<=room):Run room tn ov un ls (q+1) tn2 ov2 un2 ms:=by
 obtain⟨hp,_⟩:=dh.mp h;show#[fun out tn' ov' un' s=>?_,?_,hp,r.b1,fun h l hl=>r.b2 h l (by rw[show q+1+1=1+(q+1) by lia,ad3 1]at hl;exact Qa (i:=1) (by rwa[ajH])),r.b0]
 ·have:=r.cont (l::out) tn' ov' un' (by rw[d9 h];exact .keep hl s);rwa[jm h,gD]
 ·have:=r.vl;rw[d9 h]at this;rw[jm h,qe,dN,rQ tb_g%,<-this,pA];show _+2 ^ q*(l.length+2*0)+_=_+2 ^ q*(l.length+2*_);rw[rR,rR,Dv];lia
theorem Run.big{room tn ov un tn2 ov2 un2:Int}(r:Run room tn ov un ls q tn2 ov2 un2 ms)(h:ms[q]? = some l)(hl:l≠[]):2 ^ q<=val ls:=by
 have:=r.vl;rw[d9 h]at this;have e:val (l::ms.drop (q+1))=l.length+2*val (ms.drop (q+1)):=rfl;have l1:1<=l.length:=by
  cases l with
  |nil=>exact mI rfl hl
  |cons a b=>show 1<=b.length+1;lia
 have m:=akz (2 ^ q) (show 1<=val (l::ms.drop (q+1)) by lia);lia
noncomputable def More(q:Nat)(ms ms':Ls)(nx:List Int):Prop:=(ms'=ms/\ms[q+1]? = some nx)\/(q+1=ms.length/\ms'=ms++[[]]/\nx=[])
theorem More.at(m:More q ms ms' nx)(h:ms[q]? = some l):ms'[q]? = some l/\ms'[q+1]? = some nx/\ms'.take q=ms.take q/\(ms.drop (q+1)).headD []=nx/\(ms.drop (q+1)).tail=ms'.drop (q+2):=by
 rcases m with⟨rfl,e⟩|⟨e,rfl,rfl⟩
 ·show#[h,e,rfl,?_,?_]
  ·rw[d9 e];rfl
  ·rw[d9 e];rfl
 ·obtain⟨hp,_⟩:=dh.mp h;show#[by rwa[PK hp],by rw[e,xZ (bC _),Qz];rfl,List.take_append_of_le_length tb_g%,?_,?_]
  ·rw[e,XC];rfl
  ·rw[e,XC,ac4 (by rw[dw];show _+1<=_;lia)];rfl
theorem Run.turn{room tn ov un tn2 ov2 un2:Int}{ls ms ms':Ls}{q:Nat}{l nx:List Int}(r:Run room tn ov un ls q tn2 ov2 un2 ms)(m:More q ms ms' nx)(h:ms[q]? = some l)(hl:room<(l.length:Int)):
  Run room tn ov un ls (q+1) (tn2+1) (if tn2 % 2=0 then ov2+2 ^ q else ov2) (if tn2 % 2=0 then un2 else un2+2 ^ q) ((ms'.set q (lft l)).set (q+1) (srt (nx++pick (decide (tn2 % 2=1)) l))):=by
 obtain⟨h1,h2,h3,h4,h5⟩:=m.at h;obtain⟨p1,_⟩:=dh.mp h1;obtain⟨p2,_⟩:=dh.mp h2;have e0:(ms'.set q (lft l))[q+1]? = some nx:=by rwa[Jm tb_g%]
 have e1:((ms'.set q (lft l)).set (q+1) (srt (nx++pick (decide (tn2 % 2=1)) l))).take (q+1)=ms.take q++[lft l]:=by
  rw[ajy (bC _),abN h1,h3]
 have e2:((ms'.set q (lft l)).set (q+1) (srt (nx++pick (decide (tn2 % 2=1)) l))).drop (q+1)=srt (nx++pick (decide (tn2 % 2=1)) l)::(ms.drop (q+1)).tail:=by
  rw[d9 (l:=srt (nx++pick (decide (tn2 % 2=1)) l)) (by rw[Xv (by rwa[kO])]),set_drop,ac8 tb_g%,h5]
 have hm:(∀l∈ls,l.length<=31)->∀k∈ms',k.length<=62:=by
  intro hs;rcases m with⟨rfl,_⟩|⟨_,rfl,_⟩
  ·exact r.b1 hs
  ·intro k hk;rcases bO.mp hk with z|z
   ·exact r.b1 hs k z
   ·rw[cC.mp z];exact bF _
 have nx2:(∀l∈ls,l.length<=31)->nx.length<=31:=by
  intro hs;rcases m with⟨rfl,e⟩|⟨_,_,rfl⟩
  ·exact r.b2 hs nx (by rw[d9 e];exact cJ)
  ·exact bF _
 have ll:(∀l∈ls,l.length<=31)->l.length<=62:=fun z=>r.b1 z l (mv h);show#[fun out tn' ov' un' s=>?_,?_,by rw[kO,kO];lia,fun hs k hk=>?_,fun hs k hk=>?_,fun hs=>?_]
 ·rw[e1,gD];refine r.cont (lft l::out) tn' ov' un' ?_;rw[d9 h];refine .turn hl ?_;rw[h4];rwa[e2]at s
 ·have v:=r.vl;rw[d9 h]at v;rw[e1,e2,qe,dN,rQ (by have:=r.le;lia),<-v,pA];show _+2 ^ q*((lft l).length+2*0)+2 ^ q*2*((srt _).length+2*val _)=_+2 ^ q*(l.length+2*val _);rw[fj,dw,mK,Bd,afx (ms.drop (q+1)),h4,Dv,o9,<-rR];congr 2;lia
 ·rcases Bw hk with z|z
  ·rcases Bw z with z|z
   ·exact hm hs k z
   ·rw[z,Bd];lia
  ·have:=nx2 hs;have:=ll hs;rw[z,fj,dw,mK];lia
 ·rw[set_drop,ac8 tb_g%,<-h5]at hk;exact r.b2 hs k (ajv hk)
 ·have e:=r.b0 hs;have:=hs l (by rw[<-e];exact mv h);lia
theorem W0(t:Int):∀n w ls,w<2 ^ n->(fB t ls w).length<=max ls.length n
 |0,w,ls,h=>by
  have:w=0:=by rw[ad4]at h;lia
  rw[this,fQ];lia
 |n+1,w,ls,h=>by
  by_cases hw:w=0
  ·rw[hw,fQ];lia
  ·rw[f9 t ls hw,fu];have:=W0 t n (w / 2) ls.tail (by rw[pA]at h;lia);rw[List.length_tail]at this;lia
theorem Sg(t:Int){b:Nat}:∀w ls,(∀l∈ls,l.length<=b)->∀l∈fB t ls w,l.length<=b+1:=by
 intro w
 induction w using JG with
 |_ w ih =>
  intro ls hl;by_cases hw:w=0
  ·rw[hw,fQ];exact fun l h=>Yy (hl l h)
  ·rw[f9 t ls hw];intro l m;have hd:=Z9 (P:=fun l=>l.length<=b) hl (bF _);rcases aX.mp m with e|e
   ·rw[e];split
    ·rw[fj,dw];show _+1<=_;lia
    ·exact Yy hd
   ·exact ih (w / 2) tb_g% ls.tail (aac hl) l e
theorem ain(t:Int){P:Int->Prop}(ht:P t):∀w ls,(∀l∈ls,∀z∈l,P z)->∀l∈fB t ls w,∀z∈l,P z:=
 WY (P:=fun l=>∀z∈l,P z) t (fun _ h=>nomatch h) fun l hl z hz=>by
  rcases bO.mp (lV.mp hz)with e|e
  ·exact hl z e
  ·rwa[cC.mp e]
theorem abO(t:Int)(w:Nat)(ls:Ls)(h:∀l∈ls,Sd l):∀l∈fB t ls w,Sd l:=WY (P:=Sd) t List.Pairwise.nil (fun _ _=>sY _) w ls h
theorem Stl.mem{P:Int->Prop}{tn ov un:Int}(a:Stl room h tn ov un ls out tn' ov' un'):(∀l∈ls,∀z∈l,P z)->∀l∈out,∀z∈l,P z:=
 a.all (P:=fun l=>∀z∈l,P z) (fun _ h=>nomatch h) (fun l hl z hz=>hl z (Pj hz)) fun l m o hl hm z hz=>by
  rcases bO.mp (lV.mp hz)with e|e
  ·exact hl z e
  ·exact hm z (GZ e)
theorem Stl.sd{tn ov un:Int}(a:Stl room h tn ov un ls out tn' ov' un'):(∀l∈ls,Sd l)->∀l∈out,Sd l:=
 a.all (P:=Sd) List.Pairwise.nil (fun _=>anw) fun _ _ _ _ _=>sY _
structure Good(r T ov un:Int)(ls:Ls):Prop where
 r2:2<=r
 r64:r<=64
 ev:r % 2=0
 vl:(val ls:Int)=T
 sd:∀l∈ls,Sd l
 sm:∀l∈ls,(l.length:Int)<=r
 fl:Full ls
 pt:(ov+un)*r<=pot 0 ls
 ov0:0<=ov
 un0:0<=un
theorem Good.new(h1:2<=r)(h2:r<=64)(h3:r % 2=0):Good r 0 0 0 []:=
 #[h1,h2,h3,rfl,fun _ h=>(nomatch h),fun _ h=>(nomatch h),fun _ h=>(nomatch h),by show(0+0)*r<=0;lia,bR _,bR _]
theorem Good.add{r T ov un tn tn' ov' un' t w:Int}(g:Good r T ov un ls)(w1:1<=w)(s:Stl r 0 tn ov un (fB t ls w.toNat) out tn' ov' un'):Good r (T+w) ov' un' out/\out≠[]:=by
 have h1:=g.r2;have mo:=s.mono;have o0:=g.ov0;have u0:=g.un0;show#[#[g.r2,g.r64,g.ev,?_,s.sd (abO t _ _ g.sd),s.small tb_g%,s.full tb_g% (afy t _ _ g.fl),?_,by lia,by lia],fun e=>?_]
 ·rw[s.val,WX];have:=g.vl;lia
 ·have p1:=s.pot g.ev;have p2:=aik t w.toNat 0 ls;have p3:=g.pt;have e:r*(ov'+un'-ov-un)=(ov'+un')*r-(ov+un)*r:=by grind
  lia
 ·exact abM tb_g% (s.empty e)
theorem Good.bits{r T ov un:Int}(g:Good r T ov un ls)(h:ls≠[]):(2:Int) ^ (ls.length-1)<=T:=by
 have:=agW g.fl h;have e:=g.vl;have c:((2 ^ (ls.length-1):Nat):Int)=(2:Int) ^ (ls.length-1):=by rw[u9];rfl
 lia
theorem Good.near{r T ov un:Int}(g:Good r T ov un ls)(h:ls≠[]):(ov+un)*r<=T*((ls.length:Int)-1):=by
 have p:=anB ls 0;rw[ad4,Nat.one_mul,oE]at p;have q:=g.pt;have l1:1<=ls.length:=by
  cases ls with
  |nil=>exact mI rfl h
  |cons a b=>show 1<=b.length+1;lia
 have c:((ls.length-1)*val ls:Nat)=(((ls.length:Int)-1)*(val ls:Int)):=by rw[DR,Int.natCast_sub l1];rfl
 rw[g.vl]at c;rw[DX T];lia
theorem Kq(x:Int):∀xs ys,nr x (xs++ys)=nr x xs+2 ^ xs.length*nr x ys
 |[],ys=>by show nr x ys=0+1*nr x ys;lia
 |z::xs,ys=>by
  show cnt x z+2*nr x (xs++ys)=cnt x z+2*nr x xs+2 ^ (xs.length+1)*nr x ys;rw[Kq x xs ys,pA,rR,Dz _ 2,Dv];lia
theorem agX{x:Int}{ls:Ls}{i:Nat}{l:List Int}(h:ls[i]? = some l):nr x (ls.take (i+1))=nr x (ls.take i)+2 ^ i*cnt x l:=by
 obtain⟨hi,_⟩:=dh.mp h;rw[jm h,Kq,dN,rQ tb_g%];show _+2 ^ i*(cnt x l+2*0)=_;rw[Dy,uY]
theorem anC{ls:Ls}{i:Nat}{l:List Int}(h:ls[i]? = some l):val (ls.take (i+1))=val (ls.take i)+l.length*2 ^ i:=by
 obtain⟨hi,_⟩:=dh.mp h;rw[jm h,qe,dN,rQ tb_g%];show _+2 ^ i*(l.length+2*0)=_;rw[Dy,uY,Dz]
theorem Good.len{r T ov un:Int}(g:Good r T ov un ls){n:Nat}(h:T<2 ^ n):ls.length<=n:=by
 by_cases e:ls=[]
 ·rw[e];exact bF _
 ·have:=g.bits e;rcases lZ (ls.length-1) n with z|z
  ·lia
  ·have p:=JD (show 0<2 by decide) z;have c:((2 ^ n:Nat):Int)=(2:Int) ^ n:=by rw[u9];rfl
   have c2:((2 ^ (ls.length-1):Nat):Int)=(2:Int) ^ (ls.length-1):=by rw[u9];rfl
   lia
theorem Good.small{r T ov un:Int}(g:Good r T ov un ls):∀l∈ls,l.length<=64:=fun l h=>by have:=g.sm l h;have:=g.r64;lia
noncomputable def tw(x:Int):List (Int × Int)->Int
 |[]=>0
 |p::r=>(if p.1<=x then p.2 else 0)+tw x r
theorem agY(x:Int)(p:Int × Int):∀rs,tw x (rs++[p])=tw x rs+if p.1<=x then p.2 else 0
 |[]=>by show _+0=0+_;lia
 |q::r=>by show _+tw x (r++[p])=_+tw x r+_;rw[agY x p r];lia
noncomputable def Rk(T ov un:Int)(ls:Ls)(rs:List (Int × Int)):Prop:=∀x,0<=tw x rs/\tw x rs<=T/\(nr x ls:Int)-ov<=tw x rs/\tw x rs<=nr x ls+un
theorem Rk.new:Rk 0 0 0 [] []:=fun _=>#[bR _,bR _,by show(0:Int)-0<=0;lia,by show(0:Int)<=0+0;lia]
theorem Rk.add{r T ov un tn tn' ov' un' t w:Int}(h:Rk T ov un ls rs)(w1:0<=w)(sd:∀l∈ls,Sd l)(s:Stl r 0 tn ov un (fB t ls w.toNat) out tn' ov' un'):Rk (T+w) ov' un' out (rs++[(t,w)]):=by
 intro x;obtain⟨a1,a2,a3,a4⟩:=h x;obtain⟨b1,b2⟩:=s.nr x (abO t _ _ sd);rw[anA]at b1 b2;rw[agY];rw[YZ,rY,rY]at b1 b2;show 0<=tw x rs+(if t<=x then w else 0)/\tw x rs+(if t<=x then w else 0)<=T+w/\_<=tw x rs+(if t<=x then w else 0)/\tw x rs+(if t<=x then w else 0)<=_;by_cases e:t<=x
 ·rw[mB e]at b1 b2 ⊢;show#[?_,?_,?_,?_] <;> lia
 ·rw[mw e]at b1 b2 ⊢;show#[?_,?_,?_,?_] <;> lia
noncomputable def jn(l m:Ls)(i:Nat):List Int:=srt (l.getD i []++m.getD i [])
noncomputable def ur(n:Nat)(l m:Ls):Ls:=(jG n).map (jn l m)
noncomputable def join(l m:Ls):Ls:=ur (max l.length m.length) l m
theorem vU(n:Nat)(l m:Ls):ur (n+1) l m=ur n l m++[jn l m n]:=by
 unfold ur;rw[adl,bM];rfl
theorem ux(n:Nat)(l m:Ls):(ur n l m).length=n:=by
 unfold ur;rw[aC,CJ]
theorem BX(l:Ls)(n:Nat):val (l.take (n+1))=val (l.take n)+(l.getD n []).length*2 ^ n:=by
 rcases lZ n l.length with h|h
 ·rw[anC (eU h),oN,eU h];rfl
 ·rw[jD tb_g%,jD h,oN,wL h];show _=_+0*_;rw[Nat.zero_mul];rfl
theorem Hf(x:Int)(l:Ls)(n:Nat):nr x (l.take (n+1))=nr x (l.take n)+2 ^ n*cnt x (l.getD n []):=by
 rcases lZ n l.length with h|h
 ·rw[agX (eU h),oN,eU h];rfl
 ·rw[jD tb_g%,jD h,oN,wL h];show _=_+_*0;rw[Dy];rfl
theorem Ey:∀xs ys h,pot h (xs++ys)=pot h xs+pot (h+xs.length) ys
 |[],ys,h=>by show pot h ys=0+pot (h+0) ys;rw[oE,uY]
 |x::xs,ys,h=>by
  show h*2 ^ h*x.length+pot (h+1) (xs++ys)=h*2 ^ h*x.length+pot (h+1) xs+pot (h+(xs.length+1)) ys;rw[Ey xs ys (h+1),show h+1+xs.length=h+(xs.length+1) by lia,o9]
theorem BZ(l:Ls)(n:Nat):pot 0 (l.take (n+1))=pot 0 (l.take n)+n*2 ^ n*(l.getD n []).length:=by
 rcases lZ n l.length with h|h
 ·rw[jm (eU h),Ey,dN,rQ tb_g%,oE,oN,eU h];rfl
 ·rw[jD tb_g%,jD h,oN,wL h];show _=_+_*0;rw[Dy];rfl
theorem Ez(l m:Ls)(i:Nat):(jn l m i).length=(l.getD i []).length+(m.getD i []).length:=by
 unfold jn;rw[fj,dw]
theorem W5(l m:Ls):∀n,val (ur n l m)=val (l.take n)+val (m.take n)
 |0=>rfl
 |n+1=>by
  rw[vU,qe,ux,W5 l m n,BX,BX];show _+2 ^ n*((jn l m n).length+2*0)=_;rw[Dy,uY,Ez,rR,Dz (2 ^ n),Dz (2 ^ n)];lia
theorem abP(x:Int)(l m:Ls):∀n,nr x (ur n l m)=nr x (l.take n)+nr x (m.take n)
 |0=>rfl
 |n+1=>by
  rw[vU,Kq,ux,abP x l m n,Hf,Hf];show _+2 ^ n*(cnt x (jn l m n)+2*0)=_;rw[Dy,uY];unfold jn;rw[Z8,cnt_append,rR];lia
theorem W6(l m:Ls):∀n,pot 0 (ur n l m)=pot 0 (l.take n)+pot 0 (m.take n)
 |0=>rfl
 |n+1=>by
  rw[vU,Ey,ux,W6 l m n,BZ,BZ,oE];show _+(n*2 ^ n*(jn l m n).length+0)=_;rw[uY,Ez,rR];lia
theorem abQ(l m:Ls):val (join l m)=val l+val m:=by
 unfold join;rw[W5,jD tb_g%,jD tb_g%]
theorem ap9(x:Int)(l m:Ls):nr x (join l m)=nr x l+nr x m:=by
 unfold join;rw[abP,jD tb_g%,jD tb_g%]
theorem anD(l m:Ls):pot 0 (join l m)=pot 0 l+pot 0 m:=by
 unfold join;rw[W6,jD tb_g%,jD tb_g%]
theorem Sh(l m:Ls):(join l m).length=max l.length m.length:=ux _ _ _
theorem mL{P:List Int->Prop}{ls:Ls}(h:∀l∈ls,P l)(h0:P [])(i:Nat):P (ls.getD i []):=by
 rcases lZ i ls.length with z|z
 ·rw[oN,eU z];exact h _ (CP z)
 ·rwa[oN,wL z]
theorem zL{P:List Int->Prop}(h:∀i,P (jn l m i)):∀k∈join l m,P k:=by
 intro k hk;unfold join ur at hk;obtain⟨i,_,rfl⟩:=dU.mp hk;exact h i
theorem agZ(l m:Ls):∀k∈join l m,Sd k:=zL fun _=>sY _
theorem anE{P:Int->Prop}(hl:∀k∈l,∀z∈k,P z)(hm:∀k∈m,∀z∈k,P z):∀k∈join l m,∀z∈k,P z:=zL (P:=fun k=>∀z∈k,P z) fun i z hz=>by
 unfold jn at hz;rcases bO.mp (lV.mp hz)with e|e
 ·exact mL (P:=fun k=>∀z∈k,P z) hl (fun _ h=>nomatch h) i z e
 ·exact mL (P:=fun k=>∀z∈k,P z) hm (fun _ h=>nomatch h) i z e
theorem aio(hl:Full l)(hm:Full m):Full (join l m):=by
 intro k hk;rw[List.getLast?_eq_getElem?,Sh]at hk;have hp:=(dh.mp hk).1;rw[Sh]at hp;unfold join ur at hk;rw[dG,List.getElem?_range tb_g%]at hk;have e:jn l m (max l.length m.length-1)=k:=cA hk;intro z;have hz:(jn l m (max l.length m.length-1)).length=0:=by rw[e,z];rfl
 rw[Ez]at hz;have one:∀{ls:Ls},Full ls->max l.length m.length=ls.length->(ls.getD (max l.length m.length-1) []).length=0->False:=by
  intro ls f e0 h0;have hi:ls.length-1<ls.length:=by lia
  have:=f ls[ls.length-1] (by rw[List.getLast?_eq_getElem?,eU hi]);rw[e0,oN,eU hi]at h0;exact this (Mi.mp h0)
 rcases Nat.le_total l.length m.length with a|a
 ·exact one hm tb_g% tb_g%
 ·exact one hl tb_g% tb_g%
theorem Good.xX(g:Good r T1 ov1 un1 l)(h:Good r T2 ov2 un2 m)(s:Stl r 0 tn (ov1+ov2) (un1+un2) (join l m) out tn' ov' un'):Good r (T1+T2) ov' un' out:=by
 have h1:=g.r2;have mo:=s.mono;have a1:=g.ov0;have a2:=g.un0;have a3:=h.ov0;have a4:=h.un0;show#[g.r2,g.r64,g.ev,?_,s.sd (agZ l m),s.small tb_g%,s.full tb_g% (aio g.fl h.fl),?_,by lia,by lia]
 ·rw[s.val,abQ];have:=g.vl;have:=h.vl;lia
 ·have p1:=s.pot g.ev;have p2:=anD l m;have p3:=g.pt;have p4:=h.pt;have e:r*(ov'+un'-(ov1+ov2)-(un1+un2))=(ov'+un')*r-(ov1+un1)*r-(ov2+un2)*r:=by grind
  lia
noncomputable def prs(h:Nat):Ls->List (Int × Int)
 |[]=>[]
 |l::r=>l.map (fun t=>(t,(2:Int) ^ h))++prs (h+1) r
theorem Sq:∀h xs ys,prs h (xs++ys)=prs h xs++prs (h+xs.length) ys
 |h,[],ys=>rfl
 |h,x::xs,ys=>by
  show _++prs (h+1) (xs++ys)=(_++prs (h+1) xs)++prs (h+(xs.length+1)) ys;rw[Sq,gD,show h+1+xs.length=h+(xs.length+1) by lia]
theorem anF{ls:Ls}{i:Nat}{l:List Int}(e:ls[i]? = some l):prs 0 (ls.take (i+1))=prs 0 (ls.take i)++l.map (fun t=>(t,(2:Int) ^ i)):=by
 obtain⟨hi,_⟩:=dh.mp e;rw[jm e,Sq,dN,rQ tb_g%,oE];show _++(_++[])=_;rw[gk]
theorem aad:∀{h:Nat}{ls:Ls},p∈prs h ls->(∃l∈ls,p.1∈l)/\∃i,i<ls.length/\p.2=2 ^ (h+i)
 |h,[],m=>nomatch m
 |h,l::r,m=>by
  rcases bO.mp m with m|m
  ·obtain⟨t,mt,rfl⟩:=dU.mp m;show#[#[l,cJ,mt],0,ad2 _,rfl]
  ·obtain⟨⟨l',m1,m2⟩,i,hi,e⟩:=aad m;show#[#[l',cV _ m1,m2],i+1,Nat.succ_lt_succ hi,by rw[e,show h+1+i=h+(i+1) by lia]]
theorem aip(h:i<=60):0<(2:Int) ^ i/\(2:Int) ^ i<2305843009213693952:=by
 have p:=JD (show 0<2 by decide) h;have c:((2 ^ i:Nat):Int)=(2:Int) ^ i:=by rw[u9];rfl
 have q:0<2 ^ i:=Nat.pow_pos tb_g%;have e:2 ^ 60=1152921504606846976:=by decide
 lia
theorem ag0:∀{h:Nat}{ls:Ls}{b:Nat},(∀l∈ls,l.length<=b)->(prs h ls).length<=ls.length*b
 |h,[],b,_=>by show 0<=_;lia
 |h,l::r,b,hb=>by
  show(_++prs (h+1) r).length<=(r.length+1)*b;rw[dw,aC,Nat.add_mul];have:=ag0 (h:=h+1) (ls:=r) fun l m=>hb l (cV _ m);have:=hb l cJ;lia
theorem uy(x:Int):∀a b,tw x (a++b)=tw x a+tw x b
 |[],b=>(kY _).symm
 |p::a,b=>by show _+tw x (a++b)=_+tw x a+_;rw[uy x a b];lia
theorem aqa{a b:List (Int × Int)}(h:a.Perm b):tw x a=tw x b:=by
 induction h with
 |nil=>rfl
 |cons p _ ih=>show _+_=_+_;rw[ih]
 |swap p q l=>show _+(_+_)=_+(_+_);lia
 |trans _ _ h1 h2=>rw[h1,h2]
theorem anG(x c:Int):∀l:List Int,tw x (l.map fun t=>(t,c))=c*cnt x l
 |[]=>by show 0=c*((0:Nat):Int);lia
 |t::l=>by
  show(if t<=x then c else 0)+tw x (l.map fun t=>(t,c))=_;rw[anG x c l,cnt_cons,tO,iT];by_cases e:t<=x
  ·rw[mB e,mB e];show c+_=c*1+_;lia
  ·rw[mw e,mw e];show 0+_=c*0+_;lia
theorem anH(x:Int):∀h ls,tw x (prs h ls)=2 ^ h*nr x ls
 |h,[]=>by show 0=2 ^ h*((0:Nat):Int);lia
 |h,l::r=>by
  show tw x (_++prs (h+1) r)=2 ^ h*((cnt x l+2*nr x r:Nat):Int);rw[uy,anG,anH x (h+1) r,mj,tO,DR,iT,jK];rfl
noncomputable def sw:List (Int × Int)->Int
 |[]=>0
 |p::r=>p.2+sw r
theorem Kr:∀a b,sw (a++b)=sw a+sw b
 |[],b=>(kY _).symm
 |p::a,b=>by show _+sw (a++b)=_+sw a+_;rw[Kr a b];lia
theorem aqb{a b:List (Int × Int)}(h:a.Perm b):sw a=sw b:=by
 induction h with
 |nil=>rfl
 |cons p _ ih=>show _+_=_+_;rw[ih]
 |swap p q l=>show _+(_+_)=_+(_+_);lia
 |trans _ _ h1 h2=>rw[h1,h2]
theorem anI(c:Int):∀l:List Int,sw (l.map fun t=>(t,c))=c*(l.length:Int)
 |[]=>by show 0=c*((0:Nat):Int);lia
 |t::l=>by
  show c+sw (l.map fun t=>(t,c))=c*((l.length+1:Nat):Int);rw[anI c l,tO,iT];show _=_+c*1;lia
theorem anJ:∀h ls,sw (prs h ls)=2 ^ h*val ls
 |h,[]=>by show 0=2 ^ h*((0:Nat):Int);lia
 |h,l::r=>by
  show sw (_++prs (h+1) r)=2 ^ h*((l.length+2*val r:Nat):Int);rw[Kr,anI,anJ (h+1) r,mj,tO,DR,iT,jK];rfl
noncomputable def pk(k:Int):Int->List (Int × Int)->Option Int
 |_,[]=>none
 |s,p::r=>if k<=s+p.2 then some p.1 else pk k (s+p.2) r
theorem ag1:∀{S:List (Int × Int)} {s:Int},s<k->pk k s S=some x->∃a w b,S=a++(x,w)::b/\s+sw a<k/\k<=s+sw a+w
 |[],s,_,h=>nomatch h
 |p::r,s,hs,h=>by
  rw[pk]at h;by_cases c:k<=s+p.2
  ·rw[mB c]at h;obtain rfl:=cA h;show#[[],p.2,r,rfl,by show s+0<k;lia,by show k<=s+0+p.2;lia]
  ·rw[mw c]at h;obtain⟨a,w,b,e,h1,h2⟩:=ag1 (S:=r) tb_g% h;show#[p::a,w,b,by rw[e];rfl,by show s+(p.2+sw a)<k;lia,by show k<=s+(p.2+sw a)+w;lia]
theorem ag2:∀{S:List (Int × Int)} {s:Int},s<k->pk k s S=none->s+sw S<k
 |[],s,hs,_=>by show s+0<k;lia
 |p::r,s,hs,h=>by
  rw[pk]at h;by_cases c:k<=s+p.2
  ·rw[mB c]at h;cases h
  ·rw[mw c]at h;have:=ag2 (S:=r) tb_g% h;show s+(p.2+sw r)<k;lia
noncomputable def rkP(M:Int)(p:Int × Int):Int:=p.1*M+p.2
theorem anK{M:Int}(h:rkP M p<=rkP M q)(h1:0<=p.2)(h2:q.2<M)(h3:0<=q.2):p.1<=q.1:=by
 refine Int.le_of_not_gt fun g=>?_;have:=wM (show q.1+1<=p.1 by lia) (show 0<=M by lia);rw[mX]at this;unfold rkP at h;lia
theorem Ks:∀{S:List (Int × Int)},(∀p∈S,0<=p.2)->0<=tw x S/\tw x S<=sw S
 |[],_=>#[bR _,bR _]
 |p::r,h=>by
  have h1:=h p cJ;obtain⟨a,b⟩:=Ks (x:=x) (S:=r) fun q m=>h q (cV _ m);show 0<=(if p.1<=x then p.2 else 0)+_/\(if p.1<=x then p.2 else 0)+_<=p.2+_;split <;> lia
theorem anL:∀{S:List (Int × Int)},(∀p∈S,p.1<=x)->tw x S=sw S
 |[],_=>rfl
 |p::r,h=>by
  show(if p.1<=x then p.2 else 0)+_=p.2+_;rw[mB (h p cJ),anL fun q m=>h q (cV _ m)]
theorem ag3:∀{S:List (Int × Int)},(∀p∈S,x<p.1)->tw x S=0
 |[],_=>rfl
 |p::r,h=>by
  show(if p.1<=x then p.2 else 0)+_=0;rw[mw (by have:=h p cJ;lia),ag3 fun q m=>h q (cV _ m)];lia
theorem aiq{M k x:Int}{S:List (Int × Int)}(hp:S.Perm (prs 0 ls))(hs:S.Pairwise fun p q=>rkP M p<=rkP M q)(hb:∀p∈S,0<=p.2/\p.2<M)(k1:1<=k)(h:pk k 0 S=some x):
  k<=nr x ls/\(nr (x-1) ls:Int)<k/\∃l∈ls,x∈l:=by
 obtain⟨a,w,b,e,h1,h2⟩:=ag1 tb_g% h;have mx:(x,w)∈S:=by rw[e];simp
 obtain⟨hl,_⟩:=aad (hp.mem_iff.mp mx);have t1:∀z,(nr z ls:Int)=tw z S:=fun z=>by
  rw[aqa hp,anH,YZ,rY]
 rw[e]at hs;obtain⟨_,s2,s3⟩:=lW.mp hs;have s4:=(gC.mp s2).1;have la:∀p∈a,p.1<=x:=fun p m=>anK (s3 p m (x,w) cJ) (hb p (by rw[e];simp[m])).1 (hb _ mx).2 (hb _ mx).1;have lb:∀p∈b,x<=p.1:=fun p m=>anK (s4 p m) (hb _ mx).1 (hb p (by rw[e];simp[m])).2 (hb p (by rw[e];simp[m])).1;have n1:∀p∈a,0<=p.2:=fun p m=>(hb p (by rw[e];simp[m])).1;have n2:∀p∈b,0<=p.2:=fun p m=>(hb p (by rw[e];simp[m])).1;show#[?_,?_,hl]
 ·rw[t1,e,uy];show k<=tw x a+((if x<=x then w else 0)+tw x b);rw[anL la,mB (bR _)];have:=(Ks (x:=x) n2).1;lia
 ·rw[t1,e,uy];show tw (x-1) a+((if x<=x-1 then w else 0)+tw (x-1) b)<k;rw[mw tb_g%,ag3 (S:=b) fun p m=>by have:=lb p m;lia];have:=(Ks (x:=x-1) n1).2;lia
theorem ag4:∀{rs:List (Int × Int)},(∀p∈rs,1<=p.2)->tw (x-1) rs<=tw x rs
 |[],_=>bR _
 |p::r,h=>by
  have h1:=h p cJ;have:=ag4 (x:=x) (rs:=r) fun q m=>h q (cV _ m);show(if p.1<=x-1 then p.2 else 0)+_<=(if p.1<=x then p.2 else 0)+_;split <;> split <;> lia
theorem anM:∀{rs:List (Int × Int)},(∀p∈rs,1<=p.2)->(∃p∈rs,p.1=x)->tw (x-1) rs<tw x rs
 |[],_,⟨_,m,_⟩=>nomatch m
 |p::r,h,⟨q,m,e⟩=>by
  have h1:=h p cJ;have h2:∀q∈r,1<=q.2:=fun q m=>h q (cV _ m);show(if p.1<=x-1 then p.2 else 0)+_<(if p.1<=x then p.2 else 0)+_;rcases aX.mp m with z|z
  ·subst z;have:=ag4 (x:=x) h2;rw[mw tb_g%,mB tb_g%];lia
  ·have:=anM h2 #[q,z,e];split <;> split <;> lia
theorem stands{T ov un k x:Int}(hk:Rk T ov un ls rs)(hw:∀p∈rs,1<=p.2)(hm:∀l∈ls,∀z∈l,∃p∈rs,p.1=z)(n1:k<=nr x ls)(n2:(nr (x-1) ls:Int)<k)(hl:∃l∈ls,x∈l):
  0<=tw (x-1) rs/\tw (x-1) rs<tw x rs/\k-ov<=tw x rs/\tw (x-1) rs<k+un/\tw x rs<=T:=by
 obtain⟨l,m1,m2⟩:=hl;obtain⟨a1,a2,a3,a4⟩:=hk x;obtain⟨b1,b2,b3,b4⟩:=hk (x-1);have:=anM hw (hm l m1 x m2);show#[b1,this,?_,?_,a2] <;> lia
theorem Rk.xX(h1:Rk T1 ov1 un1 l rs1)(h2:Rk T2 ov2 un2 m rs2)(s:Stl r 0 tn (ov1+ov2) (un1+un2) (join l m) out tn' ov' un')(e:∀x,tw x rs=tw x rs1+tw x rs2):Rk (T1+T2) ov' un' out rs:=by
 intro x;obtain⟨a1,a2,a3,a4⟩:=h1 x;obtain⟨c1,c2,c3,c4⟩:=h2 x;obtain⟨b1,b2⟩:=s.nr x (agZ l m);rw[ap9]at b1 b2;rw[YZ,rY,rY]at b1 b2;rw[e];show#[?_,?_,?_,?_] <;> lia
theorem Rk.pos{T ov un:Int}(h:Rk T ov un ls rs)(hw:∀p∈rs,1<=p.2)(ne:rs≠[]):1<=T:=by
 cases rs with
 |nil=>exact mI rfl ne
 |cons p r =>
  have a:=anM hw #[p,cJ,rfl];obtain⟨b1,_,_,_⟩:=h (p.1-1);obtain⟨_,c2,_,_⟩:=h p.1;lia
end RG
namespace WN
structure Box where
 f:Int
 l:Int
 s:Int
noncomputable def sum(bs:List Box):Int:=(bs.map (·.s)).sum
theorem sum_nil:sum []=0:=rfl
theorem sum_cons(b:Box)(r:List Box):sum (b::r)=b.s+sum r:=by unfold sum;rw[cX,qZ]
theorem sum_append(a b:List Box):sum (a++b)=sum a+sum b:=by unfold sum;rw[bM,rK]
noncomputable def settle(room:Int):Int->Box->List Box->List Box
 |_,b,[]=>[b]
 |S,b,o::os=>if(b.s+o.s)*room<=S then settle room S #[o.f,b.l,b.s+o.s] os else b::settle room (S+b.s) o os
theorem Ss(room S:Int)(b:Box):settle room S b []=[b]:=rfl
theorem mO(room S:Int)(b o:Box)(os:List Box):settle room S b (o::os)=if(b.s+o.s)*room<=S then settle room S #[o.f,b.l,b.s+o.s] os else b::settle room (S+b.s) o os:=rfl
noncomputable def settled(room:Int):List Box->List Box
 |[]=>[]
 |b::os=>settle room 0 b os
theorem EY(room:Int):∀os S b,(settle room S b os).length<=os.length+1
 |[],S,b=>by rw[Ss];simp
 |o::os,S,b=>by
  rw[mO];split
  ·have:=EY room os S #[o.f,b.l,b.s+o.s];simp only[fu];lia
  ·have:=EY room os (S+b.s) o;simp only[fu];lia
theorem abR(room:Int)(bs:List Box):(settled room bs).length<=bs.length:=by
 cases bs with
 |nil=>exact bC _
 |cons b os=>exact EY room os 0 b
noncomputable def Multi(room:Int):Int->List Box->Prop
 |_,[]=>True
 |S,b::os=>(b.f≠b.l->b.s*room<=S)/\Multi room (S+b.s) os
noncomputable def Ca(room:Int):Int->List Box->Prop
 |_,[]=>True
 |_,[_]=>True
 |S,b::o::os=>S<(b.s+o.s)*room/\Ca room (S+b.s) (o::os)
theorem Multi.mono:∀{bs:List Box}{S S':Int},S<=S'->Multi room S bs->Multi room S' bs
 |[],_,_,_,_=>trivial
 |b::os,S,S',h,m=>#[fun z=>gn (m.1 z) h,Multi.mono tb_g% m.2]
theorem Multi.take:∀{bs:List Box}{S:Int}(n:Nat),Multi room S bs->Multi room S (bs.take n)
 |[],_,n,_=>by rw[XH];trivial
 |b::os,S,0,m=>trivial
 |b::os,S,n+1,m=>#[m.1,Multi.take n m.2]
theorem vV(room:Int):∀os S b,(b.f≠b.l->b.s*room<=S)->Multi room (S+b.s) os->Multi room S (settle room S b os)
 |[],S,b,h,_=>#[h,trivial]
 |o::os,S,b,h,m=>by
  rw[mO];split
  ·rename_i c;exact vV room os S _ (fun _=>c) (by show Multi room (S+(b.s+o.s)) os;rw[<-DW];exact m.2)
  ·show#[h,vV room os (S+b.s) o m.1 m.2]
theorem Vp(h:Multi room 0 bs):Multi room 0 (settled room bs):=by
 cases bs with
 |nil=>trivial
 |cons b os=>exact vV room os 0 b h.1 h.2
theorem vW(hr:0<=room):∀os S b,0<=b.s->(∀x∈os,0<=x.s)->(∃h t,settle room S b os=h::t/\b.s<=h.s)/\Ca room S (settle room S b os)
 |[],S,b,_,_=>#[#[b,[],rfl,bR _],trivial]
 |o::os,S,b,hb,ho=>by
  have h0:=ho o cJ;rw[mO];split
  ·obtain⟨⟨h,t,e,le⟩,n⟩:=vW hr os S #[o.f,b.l,b.s+o.s] (by show 0<=b.s+o.s;lia) fun x m=>ho x (cV _ m);have le':b.s+o.s<=h.s:=le;show#[#[h,t,e,by lia],n]
  ·rename_i c;obtain⟨⟨h,t,e,le⟩,n⟩:=vW hr os (S+b.s) o h0 fun x m=>ho x (cV _ m);show#[#[b,_,rfl,bR _],?_];rw[e]at n ⊢;show#[?_,n];have:(b.s+o.s)*room<=(b.s+h.s)*room:=wM tb_g% hr;lia
theorem Vq(hr:0<=room){bs:List Box}(h:∀x∈bs,0<=x.s):Ca room 0 (settled room bs):=by
 cases bs with
 |nil=>trivial
 |cons b os=>exact(vW hr os 0 b (h b cJ) fun x m=>h x (cV _ m)).2
structure Sums(P:Int->Int):Prop where
 zero:∀n,n<=0->P n=0
 mono:∀a b,a<=b->P a<=P b
noncomputable def Chain(P:Int->Int)(edge:Int):Int->List Box->Prop
 |u,[]=>edge<=u->P u=P edge
 |u,b::os=>1<=b.f/\b.f<=b.l/\b.l<=u/\P u=P b.l/\b.s=P b.l-P (b.f-1)/\P (b.f-1)<P b.f/\P (b.l-1)<P b.l/\Chain P edge (b.f-1) os
theorem Chain.pos{P:Int->Int}(hP:Sums P){edge:Int}:∀{bs:List Box}{u:Int},Chain P edge u bs->∀b∈bs,1<=b.s
 |b::os,u,⟨_,h2,_,_,h5,h6,_,r⟩,x,m=>by
  rcases aX.mp m with rfl|m
  ·have:=hP.mono x.f x.l h2;lia
  ·exact Chain.pos hP r x m
theorem Chain.below{P:Int->Int}:∀{bs:List Box}{u:Int},Chain P edge u bs->∀b∈bs,1<=b.f/\b.f<=b.l/\b.l<=u
 |b::os,u,⟨h1,h2,h3,_,_,_,_,r⟩,x,m=>by
  rcases aX.mp m with rfl|m
  ·show#[h1,h2,h3]
  ·obtain⟨k1,k2,k3⟩:=Chain.below r x m;show#[k1,k2,by lia]
theorem Chain.edge{P:Int->Int}(hP:Sums P){edge qg:Int}(he:edge<=qg):∀{bs:List Box}{u:Int},Chain P edge u bs->Chain P qg u (bs.filter fun b=>decide (qg<b.l))
 |[],u,h=>fun hu=>by
  have h1:=h (gn he hu);have h2:=hP.mono edge qg he;have h3:=hP.mono qg u hu;lia
 |b::os,u,⟨h1,h2,h3,h4,h5,h6,h7,r⟩=>by
  by_cases c:qg<b.l
  ·rw[wJ (by simpa using c)];show#[h1,h2,h3,h4,h5,h6,h7,Chain.edge hP he r]
  ·rw[qX (by simpa using c)];have e:os.filter (fun b=>decide (qg<b.l))=[]:=by
    rw[Gg];intro x m;obtain⟨_,_,k3⟩:=Chain.below r x m;simp;lia
   rw[e];intro hu;have k2:=hP.mono b.l qg tb_g%;have k3:=hP.mono qg u hu;lia
theorem Chain.Mw{P:Int->Int}{edge qg:Int}:∀{bs:List Box}{u:Int},Chain P edge u bs->∃n,(bs.filter fun b=>decide (qg<b.l))=bs.take n
 |[],_,_=>#[0,rfl]
 |b::os,u,⟨_,h2,_,_,_,_,_,r⟩=>by
  by_cases c:qg<b.l
  ·rw[wJ (by simpa using c)];obtain⟨n,e⟩:=Chain.Mw (qg:=qg) r;show#[n+1,by rw[e];rfl]
  ·rw[qX (by simpa using c)];show#[0,?_];rw[XF,Gg];intro x m;obtain⟨_,_,k3⟩:=Chain.below r x m;simp;lia
theorem Chain.join{P:Int->Int}{edge u:Int}{b o:Box}{os:List Box}(h:Chain P edge u (b::o::os)):Chain P edge u (#[o.f,b.l,b.s+o.s]::os):=by
 obtain⟨h1,h2,h3,h4,h5,h6,h7,k1,k2,k3,k4,k5,k6,k7,r⟩:=h;show#[k1,?_,h3,h4,?_,k6,h7,r]
 ·show o.f<=b.l;lia
 ·show b.s+o.s=P b.l-P (o.f-1);lia
theorem Chain.settle{P:Int->Int}{edge room:Int}:∀{os:List Box}{S u:Int}{b:Box},Chain P edge u (b::os)->Chain P edge u (settle room S b os)
 |[],S,u,b,h=>h
 |o::os,S,u,b,h=>by
  rw[mO];split
  ·exact Chain.settle h.join
  ·obtain⟨h1,h2,h3,h4,h5,h6,h7,r⟩:=h;show#[h1,h2,h3,h4,h5,h6,h7,Chain.settle r]
theorem Chain.settled{P:Int->Int}{edge room:Int}{bs:List Box}{u:Int}(h:Chain P edge u bs):Chain P edge u (settled room bs):=by
 cases bs with
 |nil=>exact h
 |cons b os=>exact Chain.settle h
noncomputable def low(e:Int)(bs:List Box):Int:=sum (bs.filter fun b=>decide (e<b.f))
noncomputable def cut(e:Int)(bs:List Box):Int:=sum (bs.filter fun b=>decide (b.f<=e/\e<b.l))
theorem abS{P:Int->Int}:∀{bs:List Box}{u:Int},Chain P edge u bs->u<=e->low e bs=0/\cut e bs=0:=by
 intro bs u h hu;have k:=Chain.below h;constructor
 ·unfold low;rw[Gg.mpr (fun x m=>by obtain⟨_,_,_⟩:=k x m;simp;lia)];rfl
 ·unfold cut;rw[Gg.mpr (fun x m=>by obtain⟨_,_,_⟩:=k x m;simp;lia)];rfl
theorem Chain.holds{P:Int->Int}(hP:Sums P){edge e:Int}(he:edge<=e):∀{bs:List Box}{u:Int},Chain P edge u bs->e<=u->low e bs<=P u-P e/\P u-P e<=low e bs+cut e bs
 |[],u,h,hu=>by
  have h1:=h (gn he hu);have h2:=hP.mono edge e he;have h3:=hP.mono e u hu;show 0<=P u-P e/\P u-P e<=0+0;lia
 |b::os,u,h,hu=>by
  obtain⟨h1,h2,h3,h4,h5,h6,h7,r⟩:=h;by_cases c1:e<b.f
  ·obtain⟨k1,k2⟩:=Chain.holds hP he r tb_g%;have e1:low e (b::os)=b.s+low e os:=by unfold low;rw[wJ (by simpa using c1),sum_cons]
   have e2:cut e (b::os)=cut e os:=by unfold cut;rw[qX (by simp;lia)]
   rw[e1,e2];lia
  ·obtain⟨k1,k2⟩:=abS r (e:=e) tb_g%;have e1:low e (b::os)=low e os:=by unfold low;rw[qX (by simpa using c1)]
   by_cases c2:e<b.l
   ·have e2:cut e (b::os)=b.s+cut e os:=by unfold cut;rw[wJ (by simp;lia),sum_cons]
    have m1:=hP.mono e b.l tb_g%;have m2:=hP.mono (b.f-1) e tb_g%;rw[e1,e2,k1,k2];lia
   ·have e2:cut e (b::os)=cut e os:=by unfold cut;rw[qX (by simp;lia)]
    have m1:=hP.mono b.l e tb_g%;have m2:=hP.mono e u hu;rw[e1,e2,k1,k2];lia
theorem Chain.near{P:Int->Int}{edge e room:Int}(hr:0<=room):∀{bs:List Box}{u S:Int},Chain P edge u bs->Multi room S bs->cut e bs*room<=S+low e bs\/cut e bs=0
 |[],u,S,_,_=>.inr rfl
 |b::os,u,S,h,m=>by
  obtain⟨h1,h2,h3,h4,h5,h6,h7,r⟩:=h;by_cases c1:e<b.f
  ·have e1:low e (b::os)=b.s+low e os:=by unfold low;rw[wJ (by simpa using c1),sum_cons]
   have e2:cut e (b::os)=cut e os:=by unfold cut;rw[qX (by simp;lia)]
   rw[e1,e2];rcases Chain.near (e:=e) hr r m.2 with z|z
   ·exact .inl tb_g%
   ·exact .inr z
  ·obtain⟨k1,k2⟩:=abS r (e:=e) tb_g%;have e1:low e (b::os)=low e os:=by unfold low;rw[qX (by simpa using c1)]
   by_cases c2:e<b.l
   ·have e2:cut e (b::os)=b.s+cut e os:=by unfold cut;rw[wJ (by simp;lia),sum_cons]
    refine .inl ?_;rw[e1,e2,k1,k2];have:=m.1 tb_g%;simpa using this
   ·have e2:cut e (b::os)=cut e os:=by unfold cut;rw[qX (by simp;lia)]
    exact .inr (by rw[e2,k2])
theorem jf{a:Int}(h:0<a)(n:Nat):0<a ^ n:=QH h
theorem grown(hr:1<=room):∀(q:Nat){bs:List Box}{S:Int},1<=S->Ca room S bs->bs.length=2*q->S*(room+1) ^ q<=(S+sum bs)*room ^ q/\(0<q->S*(room+1) ^ q<(S+sum bs)*room ^ q)
 |0,bs,S,h,n,l=>by
  have:bs=[]:=Mi.mp tb_g%;subst this;show#[?_,fun z=>mI z (q9 _)];rw[sum_nil];simp
 |q+1,bs,S,h,n,l=>by
  match bs,n,l with
  |b::o::os,n,l =>
   have l':os.length=2*q:=by simp only[fu]at l;lia
   obtain⟨n1,n2⟩:=n;have n3:Ca room (S+b.s+o.s) os:=by
    cases os with
    |nil=>trivial
    |cons c cs=>exact n2.2
   have hb:S*(room+1)+1<=(S+b.s+o.s)*room:=by
    rw[iT,Y5,DW S b.s o.s,mX];lia
   have S0:1<=S+b.s+o.s:=by
    by_cases c:1<=S+b.s+o.s
    ·exact c
    ·have:(S+b.s+o.s)*room<=0:=Int.mul_nonpos_of_nonpos_of_nonneg tb_g% tb_g%;have:0<=S*(room+1):=JL tb_g% tb_g%;lia
   obtain⟨g1,_⟩:=grown hr q S0 n3 l';have p0:=jf (show(0:Int)<room+1 by lia) q;have p1:=jf (show(0:Int)<room by lia) q;have strict:S*(room+1) ^ (q+1)<(S+sum (b::o::os))*room ^ (q+1):=by
    rw[sum_cons,sum_cons,mj,mj];have e1:S*((room+1) ^ q*(room+1))=S*(room+1)*(room+1) ^ q:=by rw[DX ((room+1) ^ q),jK]
    have e2:(S+(b.s+(o.s+sum os)))*(room ^ q*room)=(S+b.s+o.s+sum os)*room ^ q*room:=by rw[<-jK];congr 2;lia
    rw[e1,e2];have k1:(S*(room+1)+1)*(room+1) ^ q<=(S+b.s+o.s)*room*(room+1) ^ q:=wM hb tb_g%;have k2:(S+b.s+o.s)*(room+1) ^ q*room<=(S+b.s+o.s+sum os)*room ^ q*room:=wM g1 tb_g%;have e3:(S+b.s+o.s)*room*(room+1) ^ q=(S+b.s+o.s)*(room+1) ^ q*room:=by rw[ak1]
    rw[mX,rY]at k1;lia
   show#[jt strict,fun _=>strict]
theorem few(hr:1<=room){bs:List Box}(pos:∀b∈bs,1<=b.s)(n:Ca room 0 bs):∀p:Nat,2+2*p<bs.length->(room+1) ^ (p+1)<sum bs*room ^ (p+1):=by
 have shrink:∀(k:Nat){bs:List Box}{S:Int},Ca room S bs->Ca room S (bs.take k):=by
  intro k bs
  induction bs generalizing k with
  |nil=>intro S _;rw[XH];trivial
  |cons b r ih =>
   intro S h;cases k with
   |zero=>trivial
   |succ k =>
    cases r with
    |nil=>rw[ac9,XH];trivial
    |cons o os =>
     cases k with
     |zero=>rw[ac9,XF];trivial
     |succ k=>show#[h.1,ih (k+1) h.2]
 have aqc:∀(k:Nat){bs:List Box},(∀b∈bs,1<=b.s)->sum (bs.take k)<=sum bs:=by
  intro k bs
  induction bs generalizing k with
  |nil=>intro _;rw[XH];exact bR _
  |cons b r ih =>
   intro h;cases k with
   |zero =>
    have:∀{l:List Box},(∀b∈l,1<=b.s)->0<=sum l:=fun {l}=>by
     induction l with
     |nil=>intro _;exact bR _
     |cons c cs ih=>intro h;rw[sum_cons];have:=h c cJ;have:=ih fun x m=>h x (cV _ m);lia
    rw[XF];exact this h
   |succ k=>rw[ac9,sum_cons,sum_cons];have:=ih k fun x m=>h x (cV _ m);lia
 intro p hl
 match bs,pos,n,hl with
 |b::r,pos,n,hl =>
  have lr:2*(p+1)<=r.length:=by simp only[fu]at hl;lia
  have hb:=pos b cJ;have n2:Ca room b.s (r.take (2*(p+1))):=by
   refine shrink _ ?_;cases r with
   |nil=>trivial
   |cons o os=>have:=n.2;rwa[kY]at this
  obtain⟨_,g⟩:=grown hr (p+1) hb n2 (by rw[dN];lia);have g':=g (ad2 _);have s1:=aqc (2*(p+1)) (bs:=r) fun x m=>pos x (cV _ m);have p0:=jf (show(0:Int)<room+1 by lia) (p+1);have p1:=jf (show(0:Int)<room by lia) (p+1);have k1:1*(room+1) ^ (p+1)<=b.s*(room+1) ^ (p+1):=wM hb tb_g%;have k2:(b.s+sum (r.take (2*(p+1))))*room ^ (p+1)<=(b.s+sum r)*room ^ (p+1):=wM tb_g% tb_g%;rw[sum_cons];lia
noncomputable abbrev Rw:=Int × Int
noncomputable def wt(rows:List Rw):Int:=(rows.map (·.2)).sum
theorem aae(r:Rw)(rs:List Rw):wt (r::rs)=r.2+wt rs:=by unfold wt;rw[cX,qZ]
theorem W7(a b:List Rw):wt (a++b)=wt a+wt b:=by unfold wt;rw[bM,rK]
noncomputable def P(rows:List Rw)(n:Int):Int:=wt (rows.filter fun r=>decide (r.1<=n))
noncomputable def Tr(rows:List Rw)(n:Int):Int:=wt (rows.filter fun r=>decide (n<r.1))
theorem P_nil(n:Int):P [] n=0:=rfl
theorem Ku(r:Rw)(rs:List Rw)(n:Int):P (r::rs) n=(if r.1<=n then r.2 else 0)+P rs n:=by
 unfold P;by_cases h:r.1<=n
 ·rw[wJ (by simpa using h),aae,mB h]
 ·rw[qX (by simpa using h),mw h,kY]
theorem aqd(r:Rw)(rs:List Rw)(n:Int):Tr (r::rs) n=(if n<r.1 then r.2 else 0)+Tr rs n:=by
 unfold Tr;by_cases h:n<r.1
 ·rw[wJ (by simpa using h),aae,mB h]
 ·rw[qX (by simpa using h),mw h,kY]
theorem Hg(a b:List Rw)(n:Int):P (a++b) n=P a n+P b n:=by unfold P;rw[iM,W7]
theorem arH(r:Rw)(n:Int):P [r] n=if r.1<=n then r.2 else 0:=by rw[Ku,P_nil,jL]
theorem P_Tr:∀rows n,P rows n+Tr rows n=wt rows
 |[],_=>rfl
 |r::rs,n=>by
  have:=P_Tr rs n;rw[Ku,aqd,aae];by_cases h:r.1<=n
  ·rw[mB h,mw tb_g%];lia
  ·rw[mw h,mB tb_g%];lia
structure Good(rows:List Rw)(c:Int):Prop where
 one:∀r∈rows,1<=r.1/\r.1<=c/\1<=r.2
 up:rows.Pairwise fun a b=>a.1<b.1
theorem Good.nil:Good [] 0:=#[(fun r m=>nomatch m),List.Pairwise.nil]
theorem Good.le{rows:List Rw}(h:Good rows c)(hc:c<=c'):Good rows c':=#[fun r m=>by obtain⟨a,b,d⟩:=h.one r m;show#[a,by lia,d],h.up]
theorem Good.snoc{rows:List Rw}(h:Good rows c)(c0:0<=c)(hv:1<=v):Good (rows++[(c+1,v)]) (c+1):=by
 show#[fun r m=>?_,?_]
 ·rcases bO.mp m with m|m
  ·obtain⟨a,b,d⟩:=h.one r m;show#[a,by lia,d]
  ·rw[cC.mp m];show#[by show 1<=c+1;lia,bR _,hv]
 ·rw[lW];show#[h.up,PN _ _,fun a ha b hb=>?_];rw[cC.mp hb];obtain⟨_,b',_⟩:=h.one a ha;show a.1<c+1;lia
theorem anN:∀{rows:List Rw},(∀r∈rows,1<=r.2)->∀a b,a<=b->P rows a<=P rows b
 |[],_,_,_,_=>bR _
 |r::rs,h,a,b,hab=>by
  have:=anN (rows:=rs) (fun x m=>h x (cV _ m)) a b hab;have h1:=h r cJ;rw[Ku,Ku];by_cases c1:r.1<=a
  ·rw[mB c1,mB tb_g%];lia
  ·rw[mw c1];by_cases c2:r.1<=b
   ·rw[mB c2];lia
   ·rw[mw c2];lia
theorem anO{rows:List Rw}(h:∀r∈rows,n<r.1):P rows n=0:=by
 unfold P;rw[Gg.mpr (fun r m=>by have:=h r m;simp;lia)];rfl
theorem Fb{rows:List Rw}(h:∀r∈rows,r.1<=n):P rows n=wt rows:=by
 unfold P;rw[ac7.mpr (fun r m=>by have:=h r m;simpa using this)]
theorem Good.sums{rows:List Rw}(h:Good rows c):Sums (P rows):=
 #[fun n hn=>anO fun r m=>by obtain⟨a,_,_⟩:=h.one r m;lia,fun a b=>anN (fun r m=>(h.one r m).2.2) a b]
theorem Good.tr{rows:List Rw}(h:Good rows c)(e:Int):P rows c-P rows e=Tr rows e:=by
 have:=P_Tr rows e;rw[Fb fun r m=>(h.one r m).2.1];lia
theorem Chain.up{P:Int->Int}{edge u u':Int}(he:edge<=u)(hu:u<=u')(hP:P u'=P u):∀{bs:List Box},Chain P edge u bs->Chain P edge u' bs
 |[],h=>fun _=>by rw[hP];exact h he
 |b::os,⟨h1,h2,h3,h4,h5,h6,h7,r⟩=>#[h1,h2,by lia,by rwa[hP],h5,h6,h7,r]
theorem Chain.congr{P P':Int->Int}{edge:Int}:∀{bs:List Box}{u:Int},(∀n,n<=u->P' n=P n)->Chain P edge u bs->Chain P' edge u bs
 |[],u,e,h=>fun hu=>by rw[e u (bR _),e edge hu];exact h hu
 |b::os,u,e,⟨h1,h2,h3,h4,h5,h6,h7,r⟩=>by
  show#[h1,h2,h3,?_,?_,?_,?_,r.congr fun n hn=>e n tb_g%]
  ·rwa[e u (bR _),e b.l h3]
  ·rwa[e b.l h3,e (b.f-1) tb_g%]
  ·rwa[e (b.f-1) tb_g%,e b.f tb_g%]
  ·rwa[e (b.l-1) tb_g%,e b.l h3]
structure Inv(r k c:Int)(rows:List Rw)(bs:List Box):Prop where
 good:Good rows c
 c0:0<=c
 chain:Chain (P rows) (c-k) c bs.reverse
 multi:Multi r 0 bs.reverse
 neigh:Ca r 0 bs.reverse
theorem Inv.init(r k:Int):Inv r k 0 [] []:=#[.nil,bR _,fun _=>rfl,trivial,trivial]
theorem Inv.settle{rows:List Rw}{bs:List Box}(hr:0<=r)(g:Good rows c)(c0:0<=c)(he:e<=c-k)(ch:Chain (P rows) e c bs.reverse)(mu:Multi r 0 bs.reverse):
  Inv r k c rows (settled r (bs.filter fun b=>decide (c-k<b.l)).reverse).reverse:=by
 have e1:(bs.filter fun b=>decide (c-k<b.l)).reverse=bs.reverse.filter fun b=>decide (c-k<b.l):=by rw[ada]
 have ch2:=ch.edge g.sums he;obtain⟨n,hn⟩:=ch.Mw (qg:=c-k);show#[g,c0,?_,?_,?_]
 ·rw[PX,e1];exact ch2.settled
 ·rw[PX,e1,hn];exact Vp (mu.take n)
 ·rw[PX,e1];exact Vq hr fun x m=>gn tb_g% (ch2.pos g.sums x m)
theorem Inv.idle{rows:List Rw}(h:Inv r k c rows bs)(hr:0<=r)(hk:0<=k)(hv:0<=v):Inv r k (c+v) rows (settled r (bs.filter fun b=>decide (c+v-k<b.l)).reverse).reverse:=by
 refine .settle hr (h.good.le tb_g%) (by have:=h.c0;lia) (e:=c-k) tb_g% (h.chain.up tb_g% tb_g% ?_) h.multi;rw[Fb fun r m=>by have:=(h.good.one r m).2.1;lia,Fb fun r m=>(h.good.one r m).2.1]
theorem Inv.add{rows:List Rw}(h:Inv r k c rows bs)(hr:0<=r)(hv:1<=v):Inv r k (c+1) (rows++[(c+1,v)]) (settled r ((bs++[(#[c+1,c+1,v]:Box)]).filter fun b=>decide (c+1-k<b.l)).reverse).reverse:=by
 have c0:=h.c0;have low:∀n,n<=c->P (rows++[(c+1,v)]) n=P rows n:=fun n hn=>by
  rw[Hg,arH,mw (by show ¬ c+1<=n;lia),jL]
 have top:P (rows++[(c+1,v)]) (c+1)=P rows c+v:=by
  rw[Hg,arH,mB (bR _),Fb fun r m=>by have:=(h.good.one r m).2.1;lia,Fb fun r m=>(h.good.one r m).2.1]
 refine .settle hr (h.good.snoc c0 hv) tb_g% (e:=c-k) tb_g% ?_ ?_
 ·rw[yd];have e0:c+1-1=c:=by lia
  show#[by show 1<=c+1;lia,bR _,bR _,rfl,?_,?_,?_,?_]
  ·show v=P _ (c+1)-P _ (c+1-1);rw[e0,top,low c (bR _)];lia
  ·show P _ (c+1-1)<P _ (c+1);rw[e0,top,low c (bR _)];lia
  ·show P _ (c+1-1)<P _ (c+1);rw[e0,top,low c (bR _)];lia
  ·show Chain _ _ (c+1-1) _;rw[e0];exact h.chain.congr low
 ·rw[yd];show#[fun z=>mI rfl z,h.multi.mono (by show(0:Int)<=0+v;lia)]
theorem sum_reverse(bs:List Box):sum bs.reverse=sum bs:=by
 induction bs with
 |nil=>rfl
 |cons b r ih=>rw[Cz,sum_append,ih,sum_cons,sum_cons,sum_nil];lia
theorem zM(e:Int)(bs:List Box):low e bs.reverse=low e bs:=by unfold low;rw[ada,sum_reverse]
theorem Mx(e:Int)(bs:List Box):cut e bs.reverse=cut e bs:=by unfold cut;rw[ada,sum_reverse]
theorem Inv.holds{rows:List Rw}(h:Inv r k c rows bs)(h1:1<=m)(h2:m<=k):low (c-m) bs<=Tr rows (c-m)/\Tr rows (c-m)<=low (c-m) bs+cut (c-m) bs:=by
 have:=h.chain.holds h.good.sums (e:=c-m) tb_g% tb_g%;rwa[zM,Mx,h.good.tr]at this
theorem Inv.near{rows:List Rw}(h:Inv r k c rows bs)(hr:0<=r)(e:Int):cut e bs*r<=low e bs:=by
 have h0:0<=low e bs:=by
  rw[<-zM];unfold low;have:=h.chain.pos h.good.sums;have key:∀l:List Box,(∀b∈l,1<=b.s)->0<=sum l:=fun l=>by
   induction l with
   |nil=>intro _;exact bR _
   |cons b r ih=>intro k;rw[sum_cons];have:=k b cJ;have:=ih fun x m=>k x (cV _ m);lia
  exact key _ fun b m=>this b (jA.mp m).1
 have:=h.chain.near hr (e:=e) h.multi;rw[zM,Mx]at this;rcases this with z|z
 ·lia
 ·rw[z];lia
noncomputable def mid(rows:List Rw)(f l:Int):List Rw:=rows.filter fun r=>decide (f<=r.1/\r.1<=l)
theorem Chain.order{P:Int->Int}{edge:Int}:∀{bs:List Box}{u:Int},Chain P edge u bs->bs.Pairwise fun a b=>b.l<a.f
 |[],_,_=>List.Pairwise.nil
 |b::os,u,⟨_,_,_,_,_,_,_,r⟩=>gC.mpr #[fun x m=>by have:=(Chain.below r x m).2.2;lia,Chain.order r]
theorem Inv.order{rows:List Rw}(h:Inv r k c rows bs):bs.Pairwise fun a b=>a.l<b.f:=by
 have:=h.chain.order;rwa[List.pairwise_reverse]at this
theorem Inv.pos{rows:List Rw}(h:Inv r k c rows bs){b:Box}(m:b∈bs):1<=b.s:=h.chain.pos h.good.sums b (yj.mpr m)
theorem Inv.few{rows:List Rw}(h:Inv r k c rows bs)(hr:1<=r)(p:Nat)(hl:2+2*p<bs.length):(r+1) ^ (p+1)<sum bs*r ^ (p+1):=by
 have:=_root_.WN.few hr (bs:=bs.reverse) (fun b m=>h.pos (yj.mp m)) h.neigh p (by rwa[yg]);rwa[sum_reverse]at this
noncomputable def sh(c:Int)(b:Box):Box:=#[b.f+c,b.l+c,b.s]
noncomputable def shR(c:Int)(r:Rw):Rw:=(r.1+c,r.2)
theorem ag5(rows:List Rw)(c n:Int):P (rows.map (shR c)) n=P rows (n-c):=by
 induction rows with
 |nil=>rfl
 |cons r rs ih =>
  rw[cX,Ku,Ku,ih];congr 1;show(if r.1+c<=n then r.2 else 0)=_;by_cases h:r.1<=n-c
  ·rw[mB h,mB tb_g%]
  ·rw[mw h,mw tb_g%]
theorem aul(c:Int)(bs:List Box):sum (bs.map (sh c))=sum bs:=by
 unfold sum;rw[g8];rfl
theorem Multi.sh:∀{bs:List Box}{S:Int},Multi room S bs->Multi room S (bs.map (sh c))
 |[],_,_=>trivial
 |b::os,S,m=>#[fun z=>m.1 (fun y=>z (by show b.f+c=b.l+c;rw[y])),Multi.sh m.2]
theorem Multi.append:∀{xs ys:List Box}{S:Int},Multi room S xs->Multi room (S+sum xs) ys->Multi room S (xs++ys)
 |[],ys,S,_,h=>by rwa[sum_nil,jL]at h
 |x::xs,ys,S,m,h=>#[m.1,Multi.append m.2 (by rwa[sum_cons,<-DW]at h)]
structure Two(rows jg:List Rw)(c:Int):Prop where
 low:∀n,n<=c->P (rows++jg.map (shR c)) n=P rows n
 high:∀n,0<=n->P (rows++jg.map (shR c)) (n+c)=wt rows+P jg n
theorem aaf{rows jg:List Rw}(g:Good rows c)(g':Good jg c'):Two rows jg c:=by
 show#[fun n hn=>?_,fun n hn=>?_]
 ·rw[Hg,ag5,anO (n:=n-c) fun r m=>by have:=(g'.one r m).1;lia,jL]
 ·rw[Hg,ag5,show n+c-c=n by lia,Fb fun r m=>by have:=(g.one r m).2.1;lia]
theorem Good.both{rows jg:List Rw}(g:Good rows c)(g':Good jg c')(c0:0<=c)(c0':0<=c'):Good (rows++jg.map (shR c)) (c+c'):=by
 show#[fun r m=>?_,?_]
 ·rcases bO.mp m with m|m
  ·obtain⟨a,b,d⟩:=g.one r m;show#[a,by lia,d]
  ·obtain⟨x,hx,rfl⟩:=dU.mp m;obtain⟨a,b,d⟩:=g'.one x hx;show#[by show 1<=x.1+c;lia,by show x.1+c<=_;lia,d]
 ·rw[lW];show#[g.up,?_,fun a ha b hb=>?_]
  ·rw[uQ];refine g'.up.imp fun {a b} h=>?_;show a.1+c<b.1+c;lia
  ·obtain⟨x,hx,rfl⟩:=dU.mp hb;have h1:=(g.one a ha).2.1;have h2:=(g'.one x hx).1;show a.1<x.1+c;lia
theorem Chain.glue{rows jg:List Rw}(g:Good rows c)(g':Good jg c')(c0:0<=c)(h0:e0<=c)(h1:e1<=0){ys:List Box}(hy:Chain (P rows) e0 c ys):
  ∀{xs:List Box}{u:Int},0<=u->Chain (P jg) e1 u xs->Chain (P (rows++jg.map (shR c))) e0 (u+c) (xs.map (sh c)++ys)
 |[],u,hu,h=>by
  have t:=aaf g g';have z:P jg u=0:=by
   rw[h tb_g%];exact anO fun r m=>by have:=(g'.one r m).1;lia
  refine Chain.up h0 tb_g% ?_ (hy.congr t.low);rw[t.high u hu,z,t.low c (bR _),Fb fun r m=>(g.one r m).2.1,jL]
 |b::os,u,hu,⟨a1,a2,a3,a4,a5,a6,a7,r⟩=>by
  have t:=aaf g g';show#[by show 1<=b.f+c;lia,by show b.f+c<=b.l+c;lia,by show b.l+c<=u+c;lia,?_,?_,?_,?_,?_]
  ·show P _ (u+c)=P _ (b.l+c);rw[t.high u hu,t.high b.l tb_g%,a4]
  ·show b.s=P _ (b.l+c)-P _ (b.f+c-1);rw[show b.f+c-1=(b.f-1)+c by lia,t.high b.l tb_g%,t.high (b.f-1) tb_g%];lia
  ·show P _ (b.f+c-1)<P _ (b.f+c);rw[show b.f+c-1=(b.f-1)+c by lia,t.high b.f tb_g%,t.high (b.f-1) tb_g%];lia
  ·show P _ (b.l+c-1)<P _ (b.l+c);rw[show b.l+c-1=(b.l-1)+c by lia,t.high b.l tb_g%,t.high (b.l-1) tb_g%];lia
  ·have:=Chain.glue g g' c0 h0 h1 hy (u:=b.f-1) tb_g% r;show Chain _ _ (b.f+c-1) _;rwa[show b.f+c-1=(b.f-1)+c by lia]
theorem Chain.alone{rows jg:List Rw}(g:Good rows c)(g':Good jg c')(c0:0<=c)(h1:0<=e1):
  ∀{xs:List Box}{u:Int},0<=u->Chain (P jg) e1 u xs->Chain (P (rows++jg.map (shR c))) (e1+c) (u+c) (xs.map (sh c))
 |[],u,hu,h=>fun he=>by
  have t:=aaf g g';rw[t.high u hu,t.high e1 h1,h tb_g%]
 |b::os,u,hu,⟨a1,a2,a3,a4,a5,a6,a7,r⟩=>by
  have t:=aaf g g';show#[by show 1<=b.f+c;lia,by show b.f+c<=b.l+c;lia,by show b.l+c<=u+c;lia,?_,?_,?_,?_,?_]
  ·show P _ (u+c)=P _ (b.l+c);rw[t.high u hu,t.high b.l tb_g%,a4]
  ·show b.s=P _ (b.l+c)-P _ (b.f+c-1);rw[show b.f+c-1=(b.f-1)+c by lia,t.high b.l tb_g%,t.high (b.f-1) tb_g%];lia
  ·show P _ (b.f+c-1)<P _ (b.f+c);rw[show b.f+c-1=(b.f-1)+c by lia,t.high b.f tb_g%,t.high (b.f-1) tb_g%];lia
  ·show P _ (b.l+c-1)<P _ (b.l+c);rw[show b.l+c-1=(b.l-1)+c by lia,t.high b.l tb_g%,t.high (b.l-1) tb_g%];lia
  ·have:=Chain.alone g g' c0 h1 (u:=b.f-1) tb_g% r;show Chain _ _ (b.f+c-1) _;rwa[show b.f+c-1=(b.f-1)+c by lia]
theorem Inv.follow{rows jg:List Rw}(h:Inv r k c rows bs)(h':Inv r k c' jg bs')(hr:0<=r)(hk:1<=k):
  Inv r k (c+c') (rows++jg.map (shR c)) (settled r ((bs++bs'.map (sh c)).filter fun b=>decide (c+c'-k<b.l)).reverse).reverse:=by
 have c0:=h.c0;have c0':=h'.c0;have gd:=h.good.both h'.good c0 c0';by_cases hc:c'-k<=0
 ·refine .settle hr gd tb_g% (e:=c-k) tb_g% ?_ ?_
  ·rw[yd,<-yp,JM c c'];exact Chain.glue h.good h'.good c0 tb_g% hc h.chain c0' h'.chain
  ·rw[yd,<-yp];refine Multi.append h'.multi.sh (h.multi.mono ?_);rw[aul,sum_reverse,kY];have key:∀l:List Box,(∀b∈l,1<=b.s)->0<=sum l:=fun l=>by
    induction l with
    |nil=>intro _;exact bR _
    |cons b r ih=>intro k;rw[sum_cons];have:=k b cJ;have:=ih fun x m=>k x (cV _ m);lia
   exact key _ fun b m=>h'.pos m
 ·have e:((bs++bs'.map (sh c)).filter fun b=>decide (c+c'-k<b.l))=(bs'.map (sh c)).filter fun b=>decide (c+c'-k<b.l):=by
   rw [iM,Gg.mpr (fun b m=>by
    have:=(h.chain.below b (yj.mpr m)).2.2;simp;lia),adi]
  rw[e];refine .settle hr gd tb_g% (e:=c'-k+c) tb_g% ?_ ?_
  ·rw[<-yp,JM c c'];exact Chain.alone h.good h'.good c0 tb_g% c0' h'.chain
  ·rw[<-yp];exact h'.multi.sh
noncomputable abbrev Ar:=Int × Int
noncomputable def clock(as:List Ar):Int:=(as.map (·.1)).sum
noncomputable def gG:Int->List Ar->List Rw
 |_,[]=>[]
 |n,a::as=>(if a.2=0 then[]else[(n+a.1,a.2)])++gG (n+a.1) as
noncomputable def rows(as:List Ar):List Rw:=gG 0 as
theorem air:clock []=0:=rfl
theorem jZ(a b:List Ar):clock (a++b)=clock a+clock b:=by unfold clock;rw[bM,rK]
theorem Bg(a:Ar):clock [a]=a.1:=by unfold clock;simp
theorem zN:∀as n c,gG (n+c) as=(gG n as).map (shR c)
 |[],_,_=>rfl
 |a::as,n,c=>by
  show(if a.2=0 then[]else[(n+c+a.1,a.2)])++gG (n+c+a.1) as=_;rw[show n+c+a.1=n+a.1+c by lia,zN as (n+a.1) c];show _=((if a.2=0 then[]else[(n+a.1,a.2)])++gG (n+a.1) as).map (shR c);rw[bM];congr 1;split
  ·rfl
  ·rfl
theorem wV:∀as bs n,gG n (as++bs)=gG n as++gG (n+clock as) bs
 |[],bs,n=>by rw[air,jL];rfl
 |a::as,bs,n=>by
  show(if a.2=0 then[]else[(n+a.1,a.2)])++gG (n+a.1) (as++bs)=_;rw[wV as bs];show _=((if a.2=0 then[]else[(n+a.1,a.2)])++gG (n+a.1) as)++_;rw[gD];congr 2;unfold clock;rw[cX,qZ];congr 1;lia
theorem zO(as bs:List Ar):rows (as++bs)=rows as++(rows bs).map (shR (clock as)):=by
 unfold rows;rw[wV,<-zN]
theorem Kv(as:List Ar)(m:Int):rows (as++[(m,0)])=rows as:=by
 rw[zO];show _++[]=_;rw[gk]
theorem abT(as:List Ar){w:Int}(h:w≠0):rows (as++[(1,w)])=rows as++[(clock as+1,w)]:=by
 rw[zO];congr 1;show(gG 0 [(1,w)]).map _=_;show((if w=0 then[]else[((0:Int)+1,w)])++[]).map _=_;rw[mw h,gk];show[((0:Int)+1+clock as,w)]=_;rw[show(0:Int)+1+clock as=clock as+1 by lia]
end WN
namespace L2
open PySem PySem.Spec PyProof.Rows
section
variable{prog:aK}{w:World}{A:aY}{E:Value->Shared->Prop}{s:Shared}
noncomputable def outR(Q E:Value->Shared->Prop)(r:o8)(z:Shared):Prop:=match r with
 | .ok (.ret u)=>Q u z
 | .ok _=>False
 | .error u=>E u z
noncomputable def outF(prog:aK)(w:World)(A:aY)(Q E:Value->Shared->Prop)(f:Fin)(z:Shared):Prop:=match f with
 | .done g=>outR Q E (.ok g) z
 | .again c=>c.quiet=true/\gO (model prog w) A c (outR Q E) z
theorem aqe{id:String}{b:dO}{xs:List Value}{kw:List (Str × Value)}{Q:Value->Shared->Prop}(hk:builtinKind id=none)
  (hp:plainId id=true) (hb:Dj table id=some b) (ha:yI id #[xs,kw])
  (hc:wpAny (model prog w) A.in1 (b #[xs,kw]) (outF prog w A Q E) E s):wpAny (model prog w) A (call (.builtin id) xs kw) Q E s:=by
 refine Ym (aj2 hp hb ?_);simp only [ake,hk];have hc2:=iY hc (Q':=fun f z=>match f with
  | .done g=>outR Q E (.ok g) z
  | .again c=>c.quiet=true/\gO (model prog w) A c (outR Q E) z) (fun _ _ h=>h) fun _ _ h=>h
 generalize hsig:Manifest.signature? id=sg at *;cases sg with
 |none=>exact aN hc2
 |some sig =>
  have e:al4 id sig #[xs,kw]=pure ():=by
   simp only[yI,hsig]at ha;exact ha
  refine(?_:wpAny _ A.in1 (al4 id sig #[xs,kw]) _ _ s);rw[e];exact aN hc2
end
noncomputable def bdB(b:Bool)(xs:Array (Int × Tok))(i j:Nat):Bool:=cond b (decide (numAt xs i<numAt xs j)) (decide (numAt xs i>numAt xs j))
theorem anP(b:Bool):Dj table (cond b "min.loop" "max.loop")=some (cond b dO.«min.loop» dO.«max.loop»)/\plainId (cond b "min.loop" "max.loop")=true/\(toString (cond b "min" "max")++toString ".loop" : String)=cond b "min.loop" "max.loop" := by
 cases b
 ·show#[F.entry_max_loop,F.plain_max_loop,tb_g%]
 ·show#[F.entry_min_loop,F.plain_min_loop,tb_g%]
theorem bd_as(b:Bool)(xs:Array (Int × Tok)):builtinKind (cond b "min" "max")=none/\plainId (cond b "min" "max")=true/\Dj table (cond b "min" "max")=some (cond b dO.«min» dO.«max»)/\CmpOf prog w A (cond b .Lt .Gt) (fun i v=>(Dm xs)[i]? = some v) (bdB b xs):=by
 cases b
 ·show#[F.kind_max,F.plain_max,F.entry_max,CmpOf.ints_gt (numAt xs) fun _ _=>adJ]
 ·show#[F.kind_min,F.plain_min,F.entry_min,CmpOf.ints_lt (numAt xs) fun _ _=>adJ]
theorem aqf(b:Bool)(a d:Value):yI (cond b "min" "max") #[[a],[("default",d)]]:=by cases b <;> (unfold yI;kernel_rfl)
section
variable{A:aY}{P:Nat->Value->Prop}{St:Nat->Heap->Prop}
theorem anQ(b:Bool)(W:Walks prog w A.in1 it fp wr n P St)(bt:Nat->Nat->Bool)
  (cm:CmpOf prog w A.in1 (cond b .Lt .Gt) P bt) (S:Addr) (nS:S∉fp) (kw:List (Str × Value)):
  ∀k j s u c,k+(j+1)=n->St (j+1) s.heap->P (mV bt j) u ->
   s⁻¹ S=some { cls:=.type "list",data:=.seq [u,u].toArray c } ->
   (∀ v h' tk,P (mV bt (n-1)) v->(∀ b o,b∉wr->b≠S->s⁻¹ b=some o->h'.get? b=some o) ->
    R (.ok (.ret v)) { s with heap:=h',toks:=tk }) ->
   gO (model prog w) A (.builtin (cond b "min.loop" "max.loop") #[[.ref it,.none,.ref S],kw]) R s:=by
 obtain⟨el,pl,nm⟩:=anP b;cases b;all_goals
  dsimp only[cond]at *;have nw:S∉wr:=fun h=>nS (W.sub _ h);intro k
  induction k with
  |zero =>
   intro j s u c e st pu hS post;have ej:j=n-1:=by lia
   have en:j+1=n:=by lia
   rw[ej]at pu;rw[en]at st;refine uU el ?_;rw[yU pl _];refine aB (Jv hS rfl ?_);refine aB (Ql (W.done s _ _ st fun h1 tk1 kp=>?_));refine aB (Ju (kp S _ nw hS) rfl (aB (Qo (aN ?_))));exact post u _ tk1 pu fun b o nb nbS eb=>by
    rw[Bx _ _ (aG nbS)];exact kp b o nb eb
  |succ k ih =>
   intro j s u c e st pu hS post;refine uU el ?_;rw[yU pl _];refine aB (Jv hS rfl ?_);refine aB (Ql (W.item (j+1) s _ _ tb_g% st fun v h1 tk1 pv st1 kp=>?_));have hS1:=kp S _ nw hS;refine aB (aN ?_);refine aB (Ql (oX (aB (cm (j+1) (mV bt j) v u _ _ _ pv pu ?_))));refine aB (oX (CW (aB (Qo (aN ?_)))));have ab:mV bt (j+1)=if bt (j+1) (mV bt j)then j+1 else mV bt j:=rfl
   cases hb:bt (j+1) (mV bt j)with
   |true =>
    rw[hb,mB rfl]at ab;rw[mB rfl];refine aB (Ju hS1 rfl (aB (Qo ?_)));rw[nm];refine aN #[rO pl _,ih (j+1) _ v _ tb_g% (W.frame _ _ _ st1 fun b hb o eb=>?_) (by rw[ab];exact pv) (Ds _ hS1 rfl) fun v2 h2 tk2 p2 k2=>?_]
    ·rwa[Bx _ _ (fun z:S=b=>nS (z ▸ hb))]
    ·exact post v2 h2 tk2 p2 fun b o nb nbS eb=>k2 b o nb nbS (by
      rw [Bx _ _ (aG nbS)];exact kp b o nb eb)
   |false =>
    rw[hb,mw tb_g%]at ab;rw[mw tb_g%];refine aB (Qo ?_);rw[nm];refine aN #[rO pl _,ih (j+1) _ u c tb_g% st1 (by rwa[ab]) hS1 fun v2 h2 tk2 p2 k2=>?_];exact post v2 h2 tk2 p2 fun b o nb nbS eb=>k2 b o nb nbS (kp b o nb eb)
theorem abU(b:Bool)(W:Walks prog w A.in1 it fp wr n P St)(bt:Nat->Nat->Bool)
  (cm:CmpOf prog w A.in1 (cond b .Lt .Gt) P bt) (S:Addr) (nS:S∉fp) (d:Value) {s:Shared} {c:Nat} (st:St 0 s.heap)
  (hS:s⁻¹ S=some { cls:=.type "list",data:=.seq #[] c })
  (post:∀ v h' tk,(if 0<n then P (mV bt (n-1)) v else v=d)->(∀ b o,b∉wr->b≠S->s⁻¹ b=some o->h'.get? b=some o) ->
   R (.ok (.ret v)) { s with heap:=h',toks:=tk }) :
  gO (model prog w) A (.builtin (cond b "min.loop" "max.loop") #[[.ref it,.none,.ref S],[("default",d)]]) R s:=by
 obtain⟨el,pl,nm⟩:=anP b;have bg:=anQ (prog:=prog) (w:=w) (A:=A) (R:=R) (it:=it) (fp:=fp) (wr:=wr) (n:=n) (P:=P) (St:=St) b;cases b;all_goals
  dsimp only[cond]at *;have nw:S∉wr:=fun h=>nS (W.sub _ h);refine uU el ?_;rw[yU pl _];refine aB (Jv hS rfl ?_);rcases adY n with e|e
  ·subst e;refine aB (Ql (W.done s _ _ st fun h1 tk1 kp=>?_));refine aB (oY ?_);exact aN (post d h1 tk1 rfl fun b o nb _ eb=>kp b o nb eb)
  ·refine aB (Ql (W.item 0 s _ _ e st fun v h1 tk1 pv st1 kp=>?_));have hS1:=kp S _ nw hS;refine aB (aN ?_);refine aB (Ju hS1 rfl ?_);rw[nm];refine aN #[rO pl _,bg W bt cm S nS _ (n-1) 0 _ v _ tb_g% (W.frame _ _ _ st1 fun b hb o eb=>?_) pv (Ds _ hS1 rfl) fun v2 h2 tk2 p2 k2=>?_]
   ·rwa[Bx _ _ (fun z:S=b=>nS (z ▸ hb))]
   ·exact post v2 h2 tk2 (by rw [mB (show 0<n from e)];exact p2) fun b o nb nbS eb=>k2 b o nb nbS (by
     rw [Bx _ _ (aG nbS)];exact kp b o nb eb)
end
section
variable{A:aY}{s:Shared}
theorem afA(b:Bool){Q:Value->Shared->Prop}(d:Value)(hh:A.handled=none)(hl:s.heap.IsList l (Dm xs))
  (post:∀ v h' tk,(if 0<xs.size then (Dm xs)[mV (bdB b xs) (xs.size-1)]? = some v else v=d) ->
   (∀ b o,s⁻¹ b=some o->h'.get? b=some o)->Q v { s with heap:=h',toks:=tk }) :
  wpAny (model prog w) A (call (.builtin (cond b "min" "max")) [.ref l] [("default",d)]) Q E s:=by
 have bf:=fun {R it fp wr n P St}=>abU (prog:=prog) (w:=w) (A:=A) (R:=R) (it:=it) (fp:=fp) (wr:=wr) (n:=n) (P:=P) (St:=St) b;have ar:=aqf b (.ref l) d;obtain⟨el,pl,nm⟩:=anP b;obtain⟨k0,p0,e0,cm⟩:=bd_as (prog:=prog) (w:=w) (A:=A.in1) b xs;cases b;all_goals
  dsimp only[cond]at *;have sz:(Dm xs).size=xs.size:=by simp[Dm]
  refine aqe k0 p0 e0 ar ?_;refine aB (uW (show asI _ ["key","default"] 0 #[[],[("default",d)]]=pure [none,some d]from rfl) ?_);refine aB (aN ?_);refine aB (iter_intList hl fun s2 e st hfp nlI=>?_);subst e;refine aB (CZ ?_);rw[nm];refine aN #[rO pl _,bf (aeG (A:=A.in1) hh _ l nlI (Dm xs)) _ cm _ (fun hm=>q9 _ (hfp _ hm)) d ?_ (dW _ rfl) fun v h' tk hv kp=>?_]
  ·exact(aeG (A:=A.in1) (prog:=prog) (w:=w) hh _ l nlI (Dm xs)).frame _ _ _ st fun b _ o e=>dH _ e
  ·rw[sz]at hv;refine post v h' tk hv fun b o e=>kp b o ?_ ?_ (dH _ (dH _ e))
   ·intro hm;have h1:=cC.mp hm;have h2:=bQ e;rw[h1]at h2;exact q9 _ h2
   ·have h2:=bQ e;rw[Dt];exact cF (yK h2)
end
section
variable{X:Cx}
noncomputable def Best(lo:Bool)(dv:V)(ns:List Int)(v:V):Prop:=(ns=[]/\v=dv)\/∃m,v=.int m/\m∈ns/\∀z∈ns,if lo then m<=z else z<=m
noncomputable def aum(K:aH)(lo:Bool)(tl td:TE):TE:=fun σ H Q=>tl σ H fun y H1=>td σ H1 fun dv H2=>∃a ns,y=.ref a/\SqL K H2 a (ns.map V.int)/\∀v,Best lo dv ns v->Q v H2
theorem abV(b:Bool)(hm0:X.mg (cond b "min" "max" : String)=none)(hl:PE X (.Name x px) tl)(hd:PE X de td)(hc:X.calm=true)(hg:Gl X (cond b "min" "max" : String):=by rfl):
  PE X (.Call (.Name (cond b "min" "max" : String) p) [.Name x px] [#[some "default",de,kp]] pos) (aum X.K b tl td):=by
 have bd:=fun {A s l xs Q}=>afA (prog:=X.prog) (w:=X.w) (A:=A) (E:=X.xe) (s:=s) (l:=l) (xs:=xs) (Q:=Q) b;have hbt:∀ys:Array (Int × Tok),mV (bdB b ys) (ys.size-1)<=ys.size-1/\∀j,j<=ys.size-1->if b then numAt ys (mV (bdB b ys) (ys.size-1))<=numAt ys j else numAt ys j<=numAt ys (mV (bdB b ys) (ys.size-1)):=fun ys=>by
  cases b
  ·exact argBest_gt (numAt ys) (ys.size-1)
  ·exact argBest_lt (numAt ys) (ys.size-1)
 have bo:Dd (cond b "min" "max" : String)=some (.builtin (cond b "min" "max")):=by
  cases b
  ·exact boot_max
  ·exact boot_min
 cases b;all_goals
  dsimp only[cond]at *;intro pins s σ H Q I h;refine yw (nH I hg hm0 bo ?_);refine callWith_kw (yV (thn (hl pins s σ H _ I h) fun v s1 zq=>?_));obtain⟨y,H1,I1,r1,q1⟩:=zq;refine Eb (kws_cons (thn (hd pins s1 σ H1 _ I1 q1) fun d s2 ⟨dv,H2,I2,r2,q2⟩=>kws_nil ?_));obtain⟨a,ns,rfl,ha,q⟩:=q2;obtain rfl:v=Value.ref a:=r1;show wpAny _ _ (call (.builtin _) [.ref a] [(Ec "default",d)]) _ _ _;obtain⟨its,rv,pl,hz⟩:=I2.list ha;have hi:=intsAre_of rv;have hl:=pl.isList;obtain⟨ys,ey⟩:=hi.allInts.items;have hns:ns=ys.toList.map (·.1):=by rw[<-hi.numsOf,<-akr,<-ey]
  have hsz:ns.length=ys.size:=by rw[hns,aC,iQ]
  rw[ey]at hl;refine bd d (I2.ok.hd hc) hl fun v h' tk hv hk=>?_;rcases adY ys.size with z|z
  ·rw[mw tb_g%]at hv;subst hv;show#[dv,H2,I2.kept hk,r2,q _ (.inl #[Mi.mp tb_g%,rfl])]
  ·rw[mB z]at hv;obtain⟨t,rfl⟩:=adJ hv;obtain⟨h1,h2⟩:=hbt ys;show#[.int _,H2,I2.kept hk,#[t,rfl],q _ (.inr #[_,rfl,?_,fun b hb=>?_])]
   ·rw[hns,numAt_eq];exact getD_mem (by rw[aC,iQ];lia)
   ·rw[hns]at hb;obtain⟨j,hj,rfl⟩:=mem_getD hb;rw[aC,iQ]at hj;rw[<-numAt_eq];exact h2 j tb_g%
end
theorem afB{K:aH}{xs:List V}
  (Pv:Nat->List V->Hp->Prop) (h0:Pv 0 [] (upd H D (.lst [])))
  (hl:∀i ys H,i<=xs.length->Pv i ys H->SqT K H a xs/\H D=some (.lst ys)/\ys.length<sizeLine)
  (hs:∀i ys H x,xs[i]? = some x->Pv i ys H->tt (vO σ (some x) caps) H fun b H2=>if b=true then te (vO σ (some x) caps) H2 fun y H3=>H3 D=some (.lst ys)/\Pv (i+1) (ys++[y]) (upd H3 D (.lst (ys++[y])))else H2 D=some (.lst ys)/\Pv (i+1) ys H2)
  (hd:∀ys H,Pv xs.length ys H->Q (.ref D) H)
  (mT:∀σ H (R R':Bool->Hp->Prop),(∀b H,R b H->R' b H)->tt σ H R->tt σ H R')
  (mE:∀σ H (Q Q':VK),(∀y H,Q y H->Q' y H)->te σ H Q->te σ H Q'):oH (Itt K a) caps tt te σ D Q H:=by
 show#[fun i m ys G=>m=xs.length-i/\i<=xs.length/\Pv i ys G,#[xs.length,rfl,bF _,h0],?_];rintro i m ys G ⟨rfl,hi,p⟩;obtain⟨sq,q,z⟩:=hl i ys G hi p;show#[q,?_];rcases lZ i xs.length with lt|ge
 ·refine .inr #[#[xs,xs[i],sq,eU lt],z,fun x G' y=>?_];obtain⟨rfl,y⟩:=y;refine mT _ _ _ _ (fun b G2 hb=>?_) (hs i ys _ x (y xs sq) p);cases b with
  |true =>
   rw[mB rfl]at hb ⊢;exact mE _ _ _ _ (fun y G3 ⟨a,b⟩=>#[a,xs.length-(i+1),by lia,rfl,lt,b]) hb
  |false =>
   rw[mw tb_g%]at hb ⊢;show#[hb.1,xs.length-(i+1),by lia,rfl,lt,hb.2]
 ·obtain rfl:i=xs.length:=by lia
  exact .inl #[#[xs,sq,bC _],hd ys G p]
section
variable{lo hi:Option Expr}
noncomputable def aag{α:Type}(k:Int)(xs:List α)(lo hi:Option Int):List α:=
 (sliceRange (jr lo hi (some k) xs.length).1 (jr lo hi (some k) xs.length).2.1 (jr lo hi (some k) xs.length).2.2).filterMap (xs[·]?)
noncomputable def rSlK(K:aH)(k:Int):V->Option Int->Option Int->Hp->VK->Prop:=fun x lo hi H Q=>∃a xs,x=.ref a/\SqL K H a xs/\∀p,H p=none->Q (.ref p) (upd H p (.lst (aag k xs lo hi)))
noncomputable def tSl2(K:aH)(te:TE)(tl th ts:TO):TE:=fun σ H Q=>te σ H fun x H1=>tl σ H1 fun l H2=>th σ H2 fun u H3=>ts σ H3 fun t H4=>∃k,t=some k/\k≠0/\rSlK K k x l u H4 Q
theorem aqg:∀{xs:List V}{us:List Value},Vals xs us->∀ks:List Nat,Vals (ks.filterMap (xs[·]?)) (ks.filterMap (us[·]?)):=by
 intro xs us r ks
 induction ks with
 |nil=>exact .nil
 |cons k ks ih =>
  rw[yc,yc];rcases lZ k xs.length with h|h
  ·obtain⟨u,eu,ru⟩:=r.get (eU h);rw[eU h,eu];exact .cons ru ih
  ·rwa[wL h,wL (by rw[<-r.length];exact h)]
theorem anR(k:Int)(xs:List α)(lo hi:Option Int):(aag k xs lo hi).length<=xs.length:=by
 have:=slicePick_size_le (Array.replicate xs.length Value.none) lo hi (some k);rw[alm]at this;unfold Qq at this;rw[cN,alm]at this;refine cH (Dw ?_) this;unfold aag;rw[ajl,ajl];apply List.countP_congr;intro k _;simp[Array.getElem?_replicate]
theorem ais(he:PE X e te)(hl:PO X lo tl)(hu:PO X hi th)(hs:PO X (some se) ts):PE X (.Subscript e (.Slice lo hi (some se) p2) pos) (tSl2 X.K te tl th ts):=by
 intro pins s σ H Q I h;refine aei (thn (he pins s σ H _ I h) fun v s1 zq=>?_);obtain⟨x,H1,I1,r1,q1⟩:=zq;refine wpAny_Slice (thn (hl pins s1 σ H1 _ I1 q1) fun vl s2 ⟨l,H2,I2,pl,q2⟩=>thn (hu pins s2 σ H2 _ I2 q2) fun vu s3 ⟨u,H3,I3,pu,q3⟩=>thn (hs pins s3 σ H3 _ I3 q3) fun vs s4 zq=>?_);obtain⟨t,H4,I4,pt,q4⟩:=zq;obtain⟨k,rfl,k0,a,xs,rfl,hx,q⟩:=q4;cases r1;have I5:Inv X pins σ H4 { s4 with heap:=s4.heap.push { cls:=.type "slice",data:=.fields [vl,vu,vs].toArray } }:=I4.kept (t':=s4.toks) fun b ob q=>dH _ q;obtain⟨its,r,ht,hz⟩:=I5.list hx;have hlen:=r.length;show wpAny (model X.prog X.w) X.A (YJ e (.Slice lo hi (some se) p2) (.ref a) (.ref (~~~s4))) (EP X pins σ Q) X.xe { s4 with heap:=s4.heap.push { cls:=.type "slice",data:=.fields [vl,vu,vs].toArray } };refine tail_any (ops:=[.ref a,.ref (~~~s4)]) ht.isList.typeIs adz.lookup ?_ (by with_unfolding_all rfl);refine ajZ ht.isList (alZ ..) pl pu pt (by simpa using k0) ?_ (by rw[cN];lia);have ec:Qq its.toArray l u (some k)=(aag k its l u).toArray:=by
  unfold Qq aag;rw[cN];simp only[ac5]
 rw[ec];show#[.ref _,_,I5.laid (t':=s4.toks) (o:=.lst (aag k xs l u)) (fun b ob q=>dH _ q) (bC _) ?_,rfl,q _ (I5.hok.fresh (bC _))];show#[cH (anR k xs l u) hz,_,0,?_,dW _ rfl];unfold aag;rw[<-hlen];exact aqg r _
end
theorem ait{ns:List Int}(ht:t=0\/t=1):aag 2 (ns.map V.int) (some t) (some ((ns.length:Int)-(ns.length:Int) % 2))=(RG.pick (decide (t=1)) ns).map V.int:=by
 have hp:∀(ns:List Int)(o:Bool),RG.pick o ns=(jG (ns.length / 2)).filterMap fun k=>ns[(if o then 1 else 0)+2*k]?:=by
  intro ns o
  fun_induction RG.pick o ns with
  |case1 a b r ih =>
   have e:(a::b::r).length / 2=r.length / 2+1:=by simp only[fu];lia
   have sh:(fun k=>(a::b::r)[(if o=true then 1 else 0)+2*k]?) ∘ Nat.succ=fun k=>r[(if o=true then 1 else 0)+2*k]?:=by
    funext k
    show(a::b::r)[(if o=true then 1 else 0)+2*(k+1)]? = _;rw[show(if o=true then 1 else 0)+2*(k+1)=(if o=true then 1 else 0)+2*k+1+1 by lia,ac3,ac3]
   rw[ih,e,List.range_succ_eq_map,yc,ajB,sh];cases o <;> rfl
  |case2 l h =>
   match l,h with
   |[],_=>rfl
   |[x],_=>simp
   |a::b::r,h=>exact mI rfl (h a b r)
 unfold aag;rw[hp,ajA];have hn:(ns.map V.int).length=ns.length:=aC _;rw[hn];have b1:(jr (some t) (some ((ns.length:Int)-(ns.length:Int) % 2)) (some 2) ns.length).1=min t ns.length:=by
  rcases ht with rfl|rfl <;> simp[jr] <;> lia
 have b2:(jr (some t) (some ((ns.length:Int)-(ns.length:Int) % 2)) (some 2) ns.length).2.1=(ns.length:Int)-(ns.length:Int) % 2:=by
  simp[jr];lia
 have b3:(jr (some t) (some ((ns.length:Int)-(ns.length:Int) % 2)) (some 2) ns.length).2.2=2:=rfl;rw[b1,b2,b3];unfold sliceRange;rw[ajB];have cnt:(if(2:Int)>0 then(if min t ns.length<(ns.length:Int)-(ns.length:Int) % 2 then((ns.length:Int)-(ns.length:Int) % 2-min t ns.length+2-1) / 2 else 0)else(if min t ns.length>(ns.length:Int)-(ns.length:Int) % 2 then(min t ns.length-((ns.length:Int)-(ns.length:Int) % 2)-2-1) / (-2)else 0)).toNat=ns.length / 2:=by
  rw[mB tb_g%];split
  ·rcases ht with rfl|rfl <;> lia
  ·rcases ht with rfl|rfl <;> lia
 rw[cnt];have fm:∀(ks:List Nat)(f g:Nat->Option V),(∀k∈ks,f k=g k)->ks.filterMap f=ks.filterMap g:=by
  intro ks f g
  induction ks with
  |nil=>intro _;rfl
  |cons k r ih =>
   intro h;rw[yc,yc,h k cJ,ih fun j hj=>h j (cV _ hj)]
 refine fm _ _ _ fun k hk=>?_;have hk:=CQ.mp hk;show(ns.map V.int)[(min t ns.length+2*(k:Int)).toNat]? = _;have:(min t ns.length+2*(k:Int)).toNat=(if decide (t=1)then 1 else 0)+2*k:=by
  rcases ht with rfl|rfl
  ·simp;lia
  ·simp;lia
 rw[this,dG]
noncomputable def Itv(K:aH)(a:Addr)(n:Nat):It:=
 #[fun i H=>∃xs,SqL K H a xs/\xs.length=n/\i<n,fun i H x H'=>H'=H/\∀xs,SqL K H a xs->xs[n-1-i]? = some x,fun i _=>n<=i]
theorem anS{P:aK}{w:World}{K:aH}{tg:Expr}(a it:Addr)(n:Nat):Turn P w K tg (Itv K a n) [it] it (fun i h=>i<=n/\h.IsRevIter it a ((n:Int)-1-i)) where
 mem:=by simp
 obj:=fun i h st b hb=>by
  have e:b=it:=by simpa using hb
  subst e;obtain⟨_,o,e,c,d⟩:=st;show#[o,e,fun v z=>by rw[d]at z;cases z]
 keep:=fun i h h' st k=>#[st.1,st.2.at fun o e=>k it (by simp) o e]
 item:=by
  intro X hP hw hK hc i pins s σ H E I hf st hg;subst hP hw hK;obtain⟨xs,hq,hn,hi⟩:=hg;obtain⟨its,rv,p,hz⟩:=I.list hq;have hx:xs[n-1-i]? = some (xs[n-1-i]'tb_g%):=eU tb_g%;obtain⟨u,hu,ru⟩:=rv.get hx;obtain⟨f0,f1,f2,f3,f4,f5⟩:=hf it (by simp);have st2:=st.2;rw[show(n:Int)-1-i=((n-1-i:Nat):Int) by lia]at st2;refine wpAny_pyNext_rev_item st2 p.isList (x:=u) (by simpa using hu) fun h' st' sb=>?_;rw[show((n-1-i:Nat):Int)-1=(n:Int)-1-((i+1:Nat):Int) by lia]at st';have I1:Inv X pins σ H { s with heap:=h' }:=I.turned (t':=s.toks) (fun b o hb e=>(sb.2 b hb).trans e) f0 f1 f3 f4 f5;obtain⟨o,e,c,d⟩:=id st';show#[u,rfl,agw (s:={ s with heap:=h' }) e c d tb_g% #[_,H,I1,ru,#[rfl,fun ys hy=>by rwa[I.abj hy hq]],#[hi,st'],fun b hb=>(hf b hb).1]]
 done:=by
  intro X hP hw hK hc i pins s σ H E I hf st hg;subst hP hw hK;have hle:n<=i:=hg;have e:i=n:=Yz st.1 hle;subst e;obtain⟨f0,f1,f2,f3,f4,f5⟩:=hf it (by simp);have st2:=st.2;rw[show(i:Int)-1-i = -1 by lia]at st2;exact wpAny_pyNext_rev_end (I.ok.hd hc) st2 fun h' eb=>#[rfl,I.turned (t':=s.toks) (fun b o hb e=>eb b o hb e) f0 f1 f3 f4 f5]
 self:=fun _ _ _ _ _ st h=>ady st.2 h
noncomputable def iRev(K:aH)(ta:TA):TI:=fun σ H R=>ta σ H fun vs H1=>∃a xs,vs=[.ref a]/\SqL K H1 a xs/\R (Itv K a xs.length) H1
theorem aun(hg:Gl X "reversed")(hm:X.mg "reversed" = none)(ha:PA X [a] ta)(hs:cD [a] X.env=[(false,eval a X.env)]:=by rfl):
  PI X tg (.Call (.Name "reversed" p) [a] [] pos) (iRev X.K ta):=by
 intro pins s σ H R I h;refine Call_ (nH I hg hm akV (Wh (thn (ha pos pins s σ H _ I h) fun us s1 zq=>?_) hs rfl));obtain⟨vs,H1,I1,r1,q1⟩:=zq;obtain⟨l,xs,e,hq,q⟩:=q1;subst e;obtain⟨u,rfl,ru⟩:=vals1 r1;cases ru;obtain⟨its,rv,pl,hz⟩:=I1.list hq;have hlen:=rv.length;refine aj5 pl.isList ?_;have el:((its.toArray.size:Nat):Int)-1=(xs.length:Int)-1-((0:Nat):Int):=by rw[cN];lia
 refine ady #[_,dW _ rfl,rfl,rfl] #[_,[~~~s1],_,Itv X.K l xs.length,H1,rfl,I1.kept (t':=s1.toks) fun b o e=>dH _ e,anS l _ _,#[bF _,_,dW _ rfl,rfl,by rw[<-el];rfl],fun b hb=>?_,q];have e:b= ~~~s1:=by simpa using hb
 subst e;exact I1.ahM (bC _) (I1.hok.fresh (bC _))
theorem aqh{K:aH}{a:Addr}{xs:List V}{g:TG}{tb:TS}{D:Ends}{σ:St}{H:Hp}(Pv:Nat->St->Hp->Prop)(h0:Pv 0 σ H)(hl:∀i σ H,i<=xs.length->Pv i σ H->SqL K H a xs)
  (hs:∀i x σ H,xs.reverse[i]? = some x->Pv i σ H->g x σ H fun σ2 H2=>tb { D with nx:=Pv (i+1),ct:=Pv (i+1),bk:=D.nx } σ2 H2) (hd:∀σ H,Pv xs.length σ H->D.nx σ H):
  ∃W:Nat->Nat->St->Hp->Prop,(∃m,W 0 m σ H)/\∀i m σ H,W i m σ H ->
   ((Itv K a xs.length).stop i H/\D.nx σ H)\/((Itv K a xs.length).go i H/\∃N:St->Hp->Prop,(∀σ' H',N σ' H'->∃m',m'<m/\W (i+1) m' σ' H')/\∀x H',(Itv K a xs.length).yld i H x H'->g x σ H' fun σ2 H2=>tb { D with nx:=N,ct:=N,bk:=D.nx } σ2 H2):=by
 show#[fun i m σ H=>m=xs.length-i/\i<=xs.length/\Pv i σ H,#[xs.length,by simp,bF _,h0],?_];rintro i m σ H ⟨rfl,hi,p⟩;have q:=hl i σ H hi p;by_cases hlt:i<xs.length
 ·refine .inr #[#[xs,q,rfl,hlt],Pv (i+1),fun σ' H' p'=>#[xs.length-(i+1),by lia,rfl,hlt,p'],fun x H' y=>?_];obtain⟨rfl,hx⟩:=y;exact hs i x σ H' (by rw[aju hlt];exact hx xs q) p
 ·have e:i=xs.length:=by lia
  subst e;exact .inl #[bC _,hd σ H p]
theorem afC:Yn (.type "list_reverseiterator") "__len__" = pure none:=by rw[Yd,X5];kernel_rfl
theorem anT:Yn (.type "list_reverseiterator") "__length_hint__" = pure (some (.builtin "list_reverseiterator.__length_hint__")):=by rw[Yd,X5];kernel_rfl
section
variable{A:aY}{s:Shared}
theorem anU(ty:s.TypeIs (.ref r) "list_reverseiterator")(h:Q false s):wpAny (model prog w) A (Zd (.ref r)) Q E s:=by
 unfold Zd;refine aB (Yc ty afC ?_)
 wp_delta
 refine uV (fun q=>mI q tb_g%) fun _=>?_;refine uV (fun q=>mI q tb_g%) fun _=>?_;refine aB (Yc ty anT ?_);generalize hid:("list_reverseiterator.__length_hint__" : String)=nm
 wp_delta
 rw[show splitId nm=some ("list_reverseiterator","__length_hint__")from by rw[<-hid];decide +kernel];subst hid;refine aB (X7 (T := "list_reverseiterator") (b:=true) ty (by rw[Yh];kernel_rfl) ?_);refine uV (fun q=>mI q tb_g%) fun _=>?_;refine uV (fun _=>?_) fun q=>mI tb_g% q;refine uV (fun q=>mI q tb_g%) fun _=>?_;exact aN h
noncomputable def Behind(items:Array Value)(i:Nat)(v:Value):Prop:=items[items.size-1-i]? = some v
theorem anV{items:Array Value}(hh:A.handled=none)(hr:s.heap.IsRevIter r l ((items.size:Int)-1))(hl:s.heap.IsList l items)(hrl:l≠r)(S:Addr)(n1:S≠r)(n2:S≠l)(res:Value)(c:Nat)
  (hS:s⁻¹ S=some { cls:=.type "list",data:=.seq #[] c }) (hz:items.size<=sizeLine)
  (hR:∀h' tk acc d,(∀b o,b≠S->b≠r->s⁻¹ b=some o->h'.get? b=some o)->h'.get? S=some { cls:=.type "list",dict:=none,data:=.seq acc d,slots:=#[] }->ItemsOf (Behind items) acc items.size->R (.ok (.ret res)) { s with heap:=h',toks:=tk }):
  wpAny (model prog w) A.in1 (Wj (.ref S) (.ref r) res) (fun fin t=>match fin with | .done f=>R (.ok f) t | .again k=>k.quiet=true/\gO (model prog w) A k R t) (fun e t=>R (.error e) t) s:=by
 have W:=Walks.listRev (prog:=prog) (w:=w) (A:=A.in1) hh r l hrl items;have away:S∉[r,l]:=by
  simp only[aX,fH,or_false,not_or];show#[n1,n2]
 unfold Wj;refine aB (adF (T := "list_reverseiterator") hr.typeIs ?_);have e1:Ze (.ref S) (.ref r)=false:=by simp[Ze,n1]
 have e2:(Value.type "list_reverseiterator" == Value.type "list")=false:=by decide
 have e3:(Value.type "list_reverseiterator" == Value.type "tuple")=false:=by decide
 simp only[e1,e2,e3,Bool.or_false,vd,if_false];refine aB (ady hr ?_);refine aB (oX (anU hr.typeIs ?_));refine uV (fun q=>mI q tb_g%) fun _=>aN #[rO PySem.F.plain_extend_loop _,?_];refine aj3 W.toS hz S away res items.size 0 _ #[] c rfl (bF _) #[bF _,by simpa using hr,hl] hS (al8 _) fun t acc d hm hS2 hacc=>?_;rw[al6 hm];refine hR t.heap t.toks acc d (fun b o hb hb2 e=>hm.heap b o (fun m=>?_) e) hS2 hacc;rcases aX.mp m with q|q
 ·exact hb q
 ·exact hb2 (cC.mp q)
theorem anW{items:Array Value}(hh:A.handled=none)(hr:s.heap.IsRevIter r l ((items.size:Int)-1))(hl:s.heap.IsList l items)(hrl:l≠r)(S:Addr)(n1:S≠r)(n2:S≠l)
  (hS:s⁻¹ S=some { cls:=.type "list",data:=.seq #[] }) (hz:items.size<=sizeLine)
  (hR:∀h' tk acc d,(∀b o,b≠S->b≠r->s⁻¹ b=some o->h'.get? b=some o)->h'.get? S=some { cls:=.type "list",dict:=none,data:=.seq acc d,slots:=#[] }->ItemsOf (Behind items) acc items.size->R (.ok (.ret .none)) { s with heap:=h',toks:=tk }):
  wpAny (model prog w) A.in1 (dO.«list.__init__» ⟨[.ref S,.ref r],[]⟩) (fun fin t=>match fin with | .done f=>R (.ok f) t | .again k=>k.quiet=true/\gO (model prog w) A k R t) (fun e t=>R (.error e) t) s:=by
 show wpAny _ _ (do let was <-alz (.ref S);asi (.ref S) (fun _=>#[]);letGo was.toList.reverse;Wj (.ref S) (.ref r) .none) _ _ s;refine aB ?_;unfold alz;refine aB (Jv hS rfl (aN ?_));show wpAny _ _ (adR S (fun _=>#[]) >>= fun _=>letGo (#[]:Array Value).toList.reverse >>= fun _=>Wj (.ref S) (.ref r) Value.none) _ _ s;refine aB (Ju hS rfl ?_);have hS2:=Ds (jd (fun _=>(#[]:Array Value))) hS rfl;have rest:∀b o,b≠S->s⁻¹ b=some o->(s.heap.update S (jd (fun _=>(#[]:Array Value)))).get? b=some o:=fun b o n e=>(Bx _ _ (aG n)).trans e;refine aB (Qo ?_);refine anV hh (hr.at fun o e=>rest r o (aG n1) e) (hl.at fun o e=>rest l o (aG n2) e) hrl S n1 n2 .none _ hS2 hz fun h' tk acc d hk hS3 hacc=>?_;exact hR h' tk acc d (fun b o n m e=>hk b o n m (rest b o n e)) hS3 hacc
theorem anY{items:Array Value}(hh:A.handled=none)(hr:s.heap.IsRevIter r l ((items.size:Int)-1))(hl:s.heap.IsList l items)(hrl:l≠r)(hz:items.size<=sizeLine)
  (hQ:∀h' tk acc d,(∀b o,b≠r->s⁻¹ b=some o->h'.get? b=some o)->h'.get? (~~~s)=some { cls:=.type "list",dict:=none,data:=.seq acc d,slots:=#[] }->ItemsOf (Behind items) acc items.size->Q (.ref (~~~s)) { s with heap:=h',toks:=tk }):
  wpAny (model prog w) A (call (.type "list") [.ref r]) Q E s:=by
 refine callType_codes (Q₁:=fun o t=>o=.ref (~~~s)/\t={ s with heap:=s.heap.push { cls:=.type "list",data:=.seq #[] } }) PySem.F.called_list (PySem.F.typeCall_list_1 _) PySem.F.entry_list_init (code_list_new _ #[rfl,rfl]) fun o t ht=>?_;obtain⟨rfl,rfl⟩:=ht;have hS:(s.heap.push { cls:=.type "list",data:=.seq #[] }).get? (~~~s)=some { cls:=.type "list",data:=.seq #[] }:=dW _ rfl;obtain⟨o1,g1,_⟩:=id hr;obtain⟨o2,g2,_⟩:=id hl;show#[#[_,hS,rfl],PySem.F.args_list_init_2 _ _,anW (A:=A.in1) hh (hr.at fun o e=>dH _ e) (hl.at fun o e=>dH _ e) hrl _ (yL (bQ g1)) (yL (bQ g2)) hS hz fun h' tk acc d hk hS2 hacc=>?_];show#[rfl,hQ h' tk acc d (fun b o n e=>hk b o (cF (bQ e)) n (dH _ e)) hS2 hacc]
theorem ag6:∀{xs:List V}{us:List Value},us.length=xs.length->(∀(j:Nat)(x:V)(u:Value),xs[j]? = some x->us[j]? = some u->RelV x u)->Vals xs us
 |[],[],_,_=>.nil
 |[],_::_,h,_=>by cases h
 |_::_,[],h,_=>by cases h
 |x::xs,u::us,h,k=>.cons (k 0 x u rfl rfl) (ag6 (by simpa using h) fun j y v hy hv=>k (j+1) y v (by simpa using hy) (by simpa using hv))
end
section
variable{X:Cx}{l:Expr}{p p' pos pos':Pos}
noncomputable def anZ(K:aH)(ta:TA):TE:=fun σ H Q=>ta σ H fun vs H1=>∃a xs,vs=[.ref a]/\SqL K H1 a xs/\∀q,H1 q=none->Q (.ref q) (upd H1 q (.lst xs.reverse))
theorem afD{ta:TA}(hm0:X.mg "list" = none)(hm1:X.mg "reversed" = none)(ha:PA X [l] ta)(hc:X.calm=true)(hg0:Gl X "list" := by rfl)(hg1:Gl X "reversed" := by rfl)
  (he:cD [.Call (.Name "reversed" p') [l] [] pos'] X.env=[(false,eval (.Call (.Name "reversed" p') [l] [] pos') X.env)]:=by rfl) (hs:cD [l] X.env=[(false,eval l X.env)]:=by rfl):
  PE X (.Call (.Name "list" p) [.Call (.Name "reversed" p') [l] [] pos'] [] pos) (anZ X.K ta):=by
 intro pins s σ H Q I h;refine Call_ (nH I hg0 hm0 boot_list (Wh ?_ he rfl));rw[he];refine yV (Call_ (nH I hg1 hm1 akV (Wh (thn (ha pos' pins s σ H _ I h) fun us s1 zq=>?_) hs rfl)));obtain⟨vs,H1,I1,r1,q1⟩:=zq;obtain⟨a,xs,e,hq,q⟩:=q1;subst e;obtain⟨u,rfl,ru⟩:=vals1 r1;cases ru;obtain⟨its,rv,pl,hz⟩:=I1.list hq;have hlen:=rv.length;refine aj5 pl.isList (Eb ?_);show wpAny _ _ (call (.type "list") [.ref (~~~s1)]) _ _ _;have hla:a≠ ~~~s1:=by
  obtain⟨o,g,_⟩:=pl.isList;exact cF (bQ g)
 refine anY (items:=its.toArray) (I1.ok.hd hc) #[_,dW _ rfl,rfl,rfl] (pl.isList.at fun o e=>dH _ e) hla (by rw[cN];lia) fun h' tk acc d hk hS hacc=>?_;have kp:∀b o,s1⁻¹ b=some o->h'.get? b=some o:=fun b o e=>hk b o (cF (bQ e)) (dH _ e);have hsz:(s1.heap.push (revObj a ((its.toArray.size:Int)-1))).objs.size= ~~~s1+1:=JK _ _;have rr:Vals xs.reverse acc.toList:=ag6 (by rw[iQ,hacc.1,cN,yg];lia) fun j x u hx hu=>by
  have hj:j<xs.length:=by
   have:=(dh.mp hx).1
   rwa [yg]at this
  rw[aju hj]at hx;have hb:Behind its.toArray j u:=hacc.2 j u (by rwa[<-gR]);unfold Behind at hb;rw[cN,<-hlen]at hb;obtain⟨v,hv,rvv⟩:=rv.get hx;have:u=v:=cA (hb.symm.trans (by simpa using hv));rwa[this]
 show#[.ref _,_,I1.laid (a:=(s1.heap.push (revObj a ((its.toArray.size:Int)-1))).objs.size) (o:=.lst xs.reverse) (t':=tk) kp (by rw[hsz];exact pC _) ?_,rfl,q _ (I1.hok.fresh (by rw[hsz];exact pC _))];show#[by rw[yg];lia,acc.toList,d,rr,by first|(rwa[alj])|simpa using hS]
end
section
variable{X:Cx}{pins:List (Addr × Obj)}{σ:St}{H:Hp}{s:Shared}{h':Heap}
theorem Inv.aiu{t':Nat}{ch:List Addr}{t:Addr}{o:HO}(I:Inv X pins σ H s)(k:∀b u,b∉ch->s⁻¹ b=some u->h'.get? b=some u)(hf:∀b∈ch,Kc X pins H b)(ht: ~~~s<=t)
  (new:cT X.prog X.w (upd H t o) h' t o):Inv X pins σ (upd H t o) { s with heap:=h',toks:=t' }:=by
 have nit:∀b u,H b=some u->b∉ch:=fun b u e z=>by rw[(hf b z).1]at e;cases e
 have ntt:H t=none:=I.hok.fresh ht;have lt:∀b u,s⁻¹ b=some u->b≠t:=fun b u e=>cF (cY (bQ e) ht);refine I.step (g':=s.gens) (d':=s.drawn) (ch:=ch) (fun b hb=>#[(hf b hb).2.2.2.1,(hf b hb).2.1,(hf b hb).2.2.2.2.1,(hf b hb).2.2.2.2.2]) (fun b o _ _ hc e _=>k b o hc e) (fun b o _ _ hc e _=>#[o.slots,k b o hc e]) (fun b u _ e n=>by rwa[ao (lt b u e)])
  (fun b o hc e=>#[o,k b o hc e]) (fun b xs e=>by rwa[ao (ak e ntt)]) (fun b q u e=>by rwa[ao (ak e ntt)]) (fun b ps e=>#[#[],by rw[ao (ak e ntt),e];simp]) (fun m hm=>?_) (fun b u e=>?_) I.bare
 ·obtain⟨o,es,ep,ho,r⟩:=hm;show#[o,es,ep,k _ o (fun z=>(hf _ z).2.1 rfl) ho,r]
 ·by_cases hb:b=t
  ·subst hb;rw[aj]at e;cases e;exact new
  ·rw[ao hb]at e;refine(I.hok b u e).stay (fun c v hc q=>k c v ?_ q) (fun c q=>by rwa[ao (ak q ntt)]) fun c xs q=>by rwa[ao (ak q ntt)]
   rcases hc with z|z
   ·rw[z];exact nit b u e
   ·exact nit c _ z
theorem Inv.aqi{t':Nat}{ch:List Addr}(I:Inv X pins σ H s)(k:∀b u,b∉ch->s⁻¹ b=some u->h'.get? b=some u)(hf:∀b∈ch,Kc X pins H b):Inv X pins σ H { s with heap:=h',toks:=t' }:=by
 have nit:∀b u,H b=some u->b∉ch:=fun b u e z=>by rw[(hf b z).1]at e;cases e
 refine I.step (g':=s.gens) (d':=s.drawn) (ch:=ch) (fun b hb=>#[(hf b hb).2.2.2.1,(hf b hb).2.1,(hf b hb).2.2.2.2.1,(hf b hb).2.2.2.2.2]) (fun b o _ _ hc e _=>k b o hc e) (fun b o _ _ hc e _=>#[o.slots,k b o hc e]) (fun b u _ _ n=>n)
  (fun b o hc e=>#[o,k b o hc e]) (fun _ _ e=>e) (fun _ _ _ e=>e) (fun b ps e=>#[#[],by rw[e];simp]) (fun m hm=>?_) (fun b u e=>?_) I.bare
 ·obtain⟨o,es,ep,ho,r⟩:=hm;show#[o,es,ep,k _ o (fun z=>(hf _ z).2.1 rfl) ho,r]
 ·refine(I.hok b u e).stay (fun c v hc q=>k c v ?_ q) (fun _ q=>q) fun _ _ q=>q;rcases hc with z|z
  ·rw[z];exact nit b u e
  ·exact nit c _ z
end
noncomputable def Itz(a b:Addr):It:=
 #[fun i H=>∃ xs ys,H a=some (.lst xs)/\H b=some (.lst ys)/\i<xs.length/\i<ys.length,
  fun i H x H'=>∃t u v xs ys,H a=some (.lst xs)/\H b=some (.lst ys)/\xs[i]? = some u/\ys[i]? = some v/\H t=none/\x=.ref t/\H'=upd H t (.tup [u,v]),
  fun i H=>∃ xs ys,H a=some (.lst xs)/\H b=some (.lst ys)/\(xs.length<=i\/ys.length<=i)]
theorem arI{c z TI TO i1 i2:Addr}(h:c∈[z,TO,i1,i2]):c∈[z,TI,TO,i1,i2]:=by
 simp only[aX,fH,or_false]at h ⊢;rcases h with h|h|h|h <;> simp[h]
structure Z5(z TI TO i1 i2:Addr):Prop where
 a:TI≠z
 b:TO≠z
 c:i1≠z
 d:i2≠z
 e:TI≠TO
 f:TI≠i1
 g:TI≠i2
 h:TO≠i1
 i:TO≠i2
 j:i1≠i2
theorem Z5.apart{z TI TO i1 i2 a b:Addr}(k:Z5 z TI TO i1 i2){H:Hp}{xs ys:List V}(ha:H a=some (.lst xs))(hb:H b=some (.lst ys))(f:∀c∈[z,TI,TO,i1,i2],H c=none):ZipApart z TI TO i1 i2 a b:=
 #[k.a,k.b,k.c,k.d,k.e,k.f,k.g,k.h,k.i,k.j,ak ha (f z (by simp)),ak ha (f TO (by simp)),ak ha (f i1 (by simp)),ak ha (f i2 (by simp)),ak hb (f z (by simp)),ak hb (f TO (by simp)),ak hb (f i1 (by simp)),ak hb (f i2 (by simp))]
theorem z5_of(n:Nat):Z5 (n+4) (n+2) (n+3) n (n+1):=
 #[(show ¬ (n+2:Nat)=n+4 by lia),(show ¬ (n+3:Nat)=n+4 by lia),(show ¬ (n:Nat)=n+4 by lia),(show ¬ (n+1:Nat)=n+4 by lia),(show ¬ (n+2:Nat)=n+3 by lia),(show ¬ (n+2:Nat)=n by lia),(show ¬ (n+2:Nat)=n+1 by lia),(show ¬ (n+3:Nat)=n by lia),(show ¬ (n+3:Nat)=n+1 by lia),(show ¬ (n:Nat)=n+1 by lia)]
theorem an0{P:aK}{w:World}{K:aH}{elts:List Expr}{x1}{tpos:Pos}(a b z TI TO i1 i2:Addr)(k5:Z5 z TI TO i1 i2):
  Turn P w K (.Tuple elts x1 tpos) (Itz a b) [z,TI,TO,i1,i2] z (fun i h=>IsZip h z TI TO .none/\IsPair h TI (.ref i1) (.ref i2)/\(∃u v,IsPair h TO u v)/\h.IsListIter i1 a i/\h.IsListIter i2 b i) where
 mem:=by simp
 obj:=fun i h st c hc=>by
  obtain⟨hz,hTI,⟨u,v,hTO⟩,⟨o1,h1,_,d1⟩,⟨o2,h2,_,d2⟩⟩:=st;simp only[aX,fH,or_false]at hc;rcases hc with rfl|rfl|rfl|rfl|rfl
  ·show#[_,hz,fun v z=>by cases z]
  ·show#[_,hTI,fun v z=>by cases z]
  ·show#[_,hTO,fun v z=>by cases z]
  ·show#[_,h1,fun v z=>by rw[d1]at z;cases z]
  ·show#[_,h2,fun v z=>by rw[d2]at z;cases z]
 keep:=fun i h h' st k=>by
  obtain⟨hz,hTI,⟨u,v,hTO⟩,⟨o1,h1,r1⟩,⟨o2,h2,r2⟩⟩:=st;show#[k z (by simp) _ hz,k TI (by simp) _ hTI,#[u,v,k TO (by simp) _ hTO],#[o1,k i1 (by simp) _ h1,r1],#[o2,k i2 (by simp) _ h2,r2]]
 item:=by
  intro X hP hw hK hc i pins s σ H E I hf st hg;subst hP hw hK;obtain⟨hz,hTI,⟨pa,pb,hTO⟩,h1,h2⟩:=st;obtain⟨xs,ys,ea,eb,li,lj⟩:=hg;obtain⟨_,us,n,rv,_,gl⟩:=I.Vk ea;obtain⟨_,vs,m,rw',_,gr⟩:=I.Vk eb;have ex:xs[i]? = some xs[i]:=eU li;have ey:ys[i]? = some ys[i]:=eU lj;obtain⟨u,hu,ru⟩:=rv.get ex;obtain⟨v,hv,rv'⟩:=rw'.get ey;have D:=k5.apart ea eb fun c hc=>(hf c hc).1;refine wpAny_pyNext_zip_item D hz hTI hTO h1 h2 #[_,gl,rfl,n,rfl] #[_,gr,rfl,m,rfl] (by simpa using hu) (by simpa using hv) fun h' a1 a2 a3 a4 a5 a6 hk=>?_;have nt:H (~~~s)=none:=I.hok.fresh (bC _);have hf4:∀c∈[z,TO,i1,i2],Kc X pins H c:=fun c hc=>hf c (arI hc);have I1:Inv X pins σ (upd H (~~~s) (.tup [xs[i],ys[i]])) { s with heap:=h' }:=I.aiu (t':=s.toks) (ch:=[z,TO,i1,i2])
   (fun c o hc e=>hk c o (fun q=>hc (by simp[q])) (fun q=>hc (by simp[q])) (fun q=>hc (by simp[q])) (fun q=>hc (by simp[q])) e) hf4 (bC _)
   #[tb_g%,[u,v],.cons ru (.cons rv' .nil),#[_,a5,rfl,_,rfl]]
  have lts:∀c∈[z,TI,TO,i1,i2],c≠ ~~~s:=fun c hc=>by
   have:∃o,s⁻¹ c=some o:=by
    obtain⟨o1,g1,_⟩:=h1;obtain⟨o2,g2,_⟩:=h2;simp only[aX,fH,or_false]at hc;rcases hc with rfl|rfl|rfl|rfl|rfl
    ·show#[_,hz]
    ·show#[_,hTI]
    ·show#[_,hTO]
    ·show#[_,g1]
    ·show#[_,g2]
   obtain⟨o,e⟩:=this;exact cF (bQ e)
  have fr1:∀c∈[z,TI,TO,i1,i2],(upd H (~~~s) (.tup [xs[i],ys[i]])) c=none:=fun c hc=>by rw[ao (lts c hc)];exact(hf c hc).1
  show#[.ref (~~~s),rfl,wpAny_letOwnedTupleGo_zip a1 fun h2' hz' hs'=>?_];obtain⟨f0,f1,f2,f3,f4,f5⟩:=hf z (by simp);show#[.ref (~~~s),_,I1.turned (t':=s.toks) (fun c ob hb q=>(hs'.2 c hb).trans q) (fr1 z (by simp)) f1 f3 f4 f5,rfl,#[_,_,_,xs,ys,ea,eb,ex,ey,nt,rfl,rfl],#[hz',?_,#[u,v,?_],?_,?_],fr1]
  ·exact(hs'.2 TI k5.a).trans (hk TI _ k5.a k5.e k5.f k5.g hTI)
  ·exact(hs'.2 TO k5.b).trans a2
  ·obtain⟨o,e,r⟩:=a3;show#[o,(hs'.2 i1 k5.c).trans e,r]
  ·obtain⟨o,e,r⟩:=a4;show#[o,(hs'.2 i2 k5.d).trans e,r]
 done:=by
  intro X hP hw hK hc i pins s σ H E I hf st hg;subst hP hw hK;obtain⟨hz,hTI,⟨pa,pb,hTO⟩,h1,h2⟩:=st;obtain⟨xs,ys,ea,eb,le⟩:=hg;obtain⟨_,us,n,rv,el,gl⟩:=I.Vk ea;obtain⟨_,vs,m,rw',er,gr⟩:=I.Vk eb;have D:=k5.apart ea eb fun c hc=>(hf c hc).1;have hend:us.toArray[i]? = none\/vs.toArray[i]? = none:=by
   rcases le with z|z
   ·exact .inl (ali (by rwa[cN,<-el]))
   ·exact .inr (ali (by rwa[cN,<-er]))
  refine wpAny_pyNext_zip_end (I.ok.hd hc) D hz hTI hTO h1 h2 #[_,gl,rfl,n,rfl] #[_,gr,rfl,m,rfl] hend fun h' hk=>#[rfl,?_];exact I.aqi (t':=s.toks) (ch:=[z,TO,i1,i2]) (fun c o hc e=>hk c o (fun q=>hc (by simp[q])) (fun q=>hc (by simp[q])) (fun q=>hc (by simp[q])) (fun q=>hc (by simp[q])) e)
   (fun c hc=>hf c (arI hc))
 self:=fun A i s Q E st h=>akf st.1 h
noncomputable def iZip(ta:TA):TI:=fun σ H R=>ta σ H fun vs H1=>∃a b xs ys,vs=[.ref a,.ref b]/\H1 a=some (.lst xs)/\H1 b=some (.lst ys)/\R (Itz a b) H1
theorem an1{X:Cx}{a b:Expr}{ta:TA}{elts:List Expr}{x1}{tpos p pos:Pos}(hg:Gl X "zip")(hm:X.mg "zip" = none)(ha:PA X [a,b] ta)(hs:cD [a,b] X.env=[(false,eval a X.env),(false,eval b X.env)]:=by rfl)
  (hs2:cD [b] X.env=[(false,eval b X.env)]:=by rfl):PI X (.Tuple elts x1 tpos) (.Call (.Name "zip" p) [a,b] [] pos) (iZip ta):=by
 intro pins s σ H R I h;refine Call_ (nH I hg hm boot_zip (Wh (thn (ha pos pins s σ H _ I h) fun us s1 zq=>?_) (by rw[hs,hs2]) (by rw[hs2];rfl)));obtain⟨vs,H1,I1,r1,q1⟩:=zq;obtain⟨l1,l2,xs,ys,e,e1,e2,q⟩:=q1;subst e;cases r1 with
 |cons r rr =>
  cases rr with
  |cons r' rr =>
   cases rr;cases r;cases r';obtain ⟨_,us,n,rv,_,gl⟩:=I1.Vk e1;obtain ⟨_,vs,m,rw',_,gr⟩:=I1.Vk e2;refine call_zip_2 (xs:=us.toArray) (ys:=vs.toArray) #[_,gl,rfl,n,rfl] #[_,gr,rfl,m,rfl] fun h' z1 z2 z3 z4 z5 z6 hk=>?_;refine akf z1 #[_,[~~~s1+4,~~~s1+2,~~~s1+3,~~~s1,~~~s1+1],_,Itz l1 l2,H1,rfl,I1.kept (t':=s1.toks) hk,
    an0 l1 l2 (~~~s1+4) (~~~s1+2) (~~~s1+3) (~~~s1) (~~~s1+1) (z5_of _),#[z1,z2,#[_,_,z3],z4,z5],fun c hc=>?_,q]
   have hle: ~~~s1<=c:=by
    simp only[aX,fH,or_false]at hc;rcases hc with rfl|rfl|rfl|rfl|rfl <;> lia
   exact I1.ahM hle (I1.hok.fresh hle)
theorem W8(Pv:Nat->List V->Hp->Prop)(h0:Pv 0 [] (upd H D (.lst [])))
  (hl:∀i zs H,Pv i zs H->H a=some (.lst xs)/\H b=some (.lst ys)/\H D=some (.lst zs)/\zs.length<sizeLine)
  (hs:∀i zs H x y t (ws:List (Option V)),xs[i]? = some x->ys[i]? = some y->Pv i zs H->H t=none->ws.length=k->g (.ref t) (oG σ ws caps) (upd H t (.tup [x,y])) fun σ2 H2=>(∃ws':List (Option V),ws'.length=k/\σ2=oG σ ws' caps)/\te σ2 H2 fun u H4=>H4 D=some (.lst zs)/\Pv (i+1) (zs++[u]) (upd H4 D (.lst (zs++[u]))))
  (hd:∀zs H,Pv (min xs.length ys.length) zs H->Q (.ref D) H)
  (monoG:∀x σ H (R R':St->Hp->Prop),(∀σ H,R σ H->R' σ H)->g x σ H R->g x σ H R')
  (mono:∀σ H (Q Q':VK),(∀y H,Q y H->Q' y H)->te σ H Q->te σ H Q'):
  ug (Itz a b) g k caps Gx te σ D Q H:=by
 show#[fun i m zs H=>m=min xs.length ys.length-i/\i<=min xs.length ys.length/\Pv i zs H,#[min xs.length ys.length,by simp,bF _,h0],?_];rintro i m zs H ⟨rfl,hi,p⟩;obtain⟨qa,qb,qd,hz⟩:=hl i zs H p;show#[qd,?_];by_cases hlt:i<min xs.length ys.length
 ·refine .inr #[#[xs,ys,qa,qb,by lia,by lia],hz,fun x H' y ws hw=>?_];obtain⟨t,u,v,xs',ys',ea,eb,ex,ey,ht,rfl,rfl⟩:=y;rw[qa]at ea;cases ea;rw[qb]at eb;cases eb;refine monoG _ _ _ _ _ (fun σ2 H2 h2=>#[h2.1,?_]) (hs i zs H u v t ws ex ey p ht hw);unfold Gx;dsimp only;rw[mB rfl];exact mono _ _ _ _ (fun y H3 ⟨a,b⟩=>#[a,min xs.length ys.length-(i+1),by lia,rfl,hlt,b]) h2.2
 ·have e:i=min xs.length ys.length:=by lia
  subst e;exact .inl #[#[xs,ys,qa,qb,by lia],hd zs H p]
inductive Alike (K:aH) (H:Hp):Nat->V->V->Prop where
 |flat {n:Nat} {x:V} (h:zx x=true):Alike K H n x x
 |lst {n:Nat} {a b:Addr} {xs ys:List V} (ha:SqL K H a xs) (hb:SqL K H b ys) (hl:xs.length=ys.length) (h:∀(i:Nat)(x y:V),xs[i]? = some x->ys[i]? = some y->Alike K H n x y):Alike K H (n+1) (.ref a) (.ref b)
 |tup {n:Nat} {a b:Addr} {xs ys:List V} (ha:SqT K H a xs) (hb:SqT K H b ys) (hl:xs.length=ys.length) (h:∀(i:Nat)(x y:V),xs[i]? = some x->ys[i]? = some y->Alike K H n x y):Alike K H (n+1) (.ref a) (.ref b)
theorem abW(h:zx x=true):eqV x x=true:=by
 cases x with
 |non=>rfl
 |bl b=>show(b == b)=true;simp
 |int i=>show(i == i)=true;simp
 |str z=>show(z == z)=true;simp
 |byt _=>cases h
 |flt _=>cases h
 |ref _=>cases h
 |ty _=>cases h
section
variable{X:Cx}{pins:List (Addr × Obj)}{σ:St}{H:Hp}{s:Shared}
theorem all_true(n:Nat):((jG n).all fun _=>true)=true:=by simp
theorem rE{K:aH}(ru:Vals xs us)(rv:Vals ys vs)
  (h:∀(i:Nat)(x y:V),xs[i]? = some x->ys[i]? = some y->Alike K H n x y) (ih:∀(x y:V)(u v:Value),Alike K H n x y->RelV x u->RelV y v->QM A s u v true):
  ∀j (h1:j<us.toArray.size) (h2:j<vs.toArray.size),QM A s us.toArray[j] vs.toArray[j] true:=fun j h1 h2=>by
 have e1:j<us.length:=by simpa using h1
 have e2:j<vs.length:=by simpa using h2
 have l1:j<xs.length:=by rwa[ru.length]
 have l2:j<ys.length:=by rwa[rv.length]
 have g1:xs[j]? = some xs[j]:=eU l1;have g2:ys[j]? = some ys[j]:=eU l2;obtain⟨u,k1,r1⟩:=ru.get g1;obtain⟨v,k2,r2⟩:=rv.get g2;have m1:us.toArray[j]=u:=by
  rw[eU e1]at k1;simpa using k1
 have m2:vs.toArray[j]=v:=by
  rw[eU e2]at k2;simpa using k2
 rw[m1,m2];exact ih _ _ _ _ (h j _ _ g1 g2) r1 r2
theorem abX(I:Inv X pins σ H s):∀n A x y u v,A.units+n<cLine->Alike X.K H n x y->RelV x u->RelV y v->QM A s u v true
 |0,A,x,y,u,v,hu,h,ru,rv=>by
  cases h with
  |flat f=>have:=ZF (A:=A) (s:=s) ru rv f f;rwa[abW f]at this
 |n+1,A,x,y,u,v,hu,h,ru,rv=>by
  have ih:=fun(x y:V) (u v:Value) (k:Alike X.K H n x y) (r1:RelV x u) (r2:RelV y v)=>abX I n A.in1 x y u v (by show A.units+1+n<cLine;lia) k r1 r2;cases h with
  |flat f=>have:=ZF (A:=A) (s:=s) ru rv f f;rwa[abW f]at this
  | @lst _ a b xs ys ha hb hl k =>
   obtain rfl:u=Value.ref a:=ru;obtain rfl:v=Value.ref b:=rv;by_cases e:a=b
   ·subst e;exact aeA _
   ·obtain⟨us,r1,p1,_⟩:=I.list ha;obtain⟨vs,r2,p2,_⟩:=I.list hb;have:=aez (A:=A) p1.isList p2.isList (by rw[cN,cN,<-r1.length,<-r2.length,hl]) tb_g% (rE r1 r2 k ih);rw[all_true]at this;exact alV e this
  | @tup _ a b xs ys ha hb hl k =>
   obtain rfl:u=Value.ref a:=ru;obtain rfl:v=Value.ref b:=rv;by_cases e:a=b
   ·subst e;exact aeA _
   ·obtain⟨us,r1,p1,_⟩:=I.tuple ha;obtain⟨vs,r2,p2,_⟩:=I.tuple hb;have hs:us.toArray.size=vs.toArray.size:=by rw[cN,cN,<-r1.length,<-r2.length,hl]
    have:=alS (A:=A) p1 p2 tb_g% (rE r1 r2 k ih);rw[all_true,hs]at this;exact alV e (by simpa using this)
noncomputable def auo(K:aH)(b:Bool):R2:=fun x y H Q=>∃n p q,x=.ref p/\y=.ref q/\n<=40/\Alike K H n x y/\Q (.bl b) H
theorem an2(hu:X.A.units+64<cLine):OpR X (gq .Eq) (auo X.K true):=by
 intro pins s σ H x y v u Q I rx ry h;obtain⟨n,p,q,rfl,rfl,hn,k,w⟩:=h;obtain rfl:v=Value.ref p:=rx;obtain rfl:u=Value.ref q:=ry;have ih:=fun m (hm:m+1<=40) (x y:V) (u v:Value) (k:Alike X.K H m x y) (r1:RelV x u) (r2:RelV y v)=>abX I m X.A.in1 x y u v (by show X.A.units+1+m<cLine;lia) k r1 r2;have fin:EP X pins σ Q (.bool true) s:=#[.bl true,H,I,rfl,w];cases k with
 |flat f=>cases f
 | @lst m a b xs ys ha hb hl k =>
  obtain⟨us,r1,p1,_⟩:=I.list ha;obtain⟨vs,r2,p2,_⟩:=I.list hb;have:=aez (A:=X.A) p1.isList p2.isList (by rw[cN,cN,<-r1.length,<-r2.length,hl]) tb_g% (rE r1 r2 k (ih m tb_g%));rw[all_true]at this;exact this X.prog X.w X.xe _ fin
 | @tup m a b xs ys ha hb hl k =>
  obtain⟨us,r1,p1,_⟩:=I.tuple ha;obtain⟨vs,r2,p2,_⟩:=I.tuple hb;have hs:us.toArray.size=vs.toArray.size:=by rw[cN,cN,<-r1.length,<-r2.length,hl]
  have:=alS (A:=X.A) p1 p2 tb_g% (rE r1 r2 k (ih m tb_g%));rw[all_true,hs]at this;exact(show SeqAt.RcAt X.A s (.ref p) (.ref q) true by simpa using this) X.prog X.w X.xe _ fin
end
section
variable{X:Cx}
noncomputable def rSumL(K:aH):List V->Hp->VK->Prop:=fun xs H Q=>∃(a:Addr)(ns:List Int),xs=[V.ref a]/\SqL K H a (ns.map V.int)/\Q (.int ns.sum) H
theorem Kw(hc:X.calm=true):gU X (.builtin "sum") (rSumL X.K):=by
 intro pins s σ H xs us Q I r h;obtain⟨a,ns,rfl,ha,q⟩:=h;obtain⟨u,rfl,ru⟩:=vals1 r;cases ru;obtain⟨its,rv,p,hz⟩:=I.list ha;have hi:=intsAre_of rv;have hl:=p.isList;obtain⟨ys,e⟩:=hi.allInts.items;have hns:ns=ys.toList.map (·.1):=by rw[<-hi.numsOf,<-akr,<-e]
 rw[e]at hl;refine sum_intListG (I.ok.hd hc) hl fun h' tk t' hk=>#[.int ns.sum,H,I.kept hk,#[t',?_],q];rw[preSum_eq,jD (by simp),hns]
end
theorem iw{K:aH}{xs:List V}(Pv:Nat->List V->Hp->Prop)(h0:Pv 0 [] (upd H D (.lst [])))
  (hl:∀i ys H,i<=xs.length->Pv i ys H->SqL K H a xs/\H D=some (.lst ys)/\ys.length<sizeLine)
  (hs:∀i ys H x,xs[i]? = some x->Pv i ys H->tt (vO σ (some x) caps) H fun b H2=>if b=true then te (vO σ (some x) caps) H2 fun y H3=>H3 D=some (.lst ys)/\Pv (i+1) (ys++[y]) (upd H3 D (.lst (ys++[y])))else H2 D=some (.lst ys)/\Pv (i+1) ys H2) (hd:∀ys H,Pv xs.length ys H->Q (.ref D) H)
  (an3:∀σ H (R R':Bool->Hp->Prop),(∀b H,R b H->R' b H)->tt σ H R->tt σ H R')
  (mono:∀σ H (Q Q':VK),(∀y H,Q y H->Q' y H)->te σ H Q->te σ H Q'):
  oH (Itl K a) caps tt te σ D Q H:=by
 show#[fun i m ys H=>m=xs.length-i/\i<=xs.length/\Pv i ys H,#[xs.length,by simp,bF _,h0],?_];rintro i m ys H ⟨rfl,hi,p⟩;obtain⟨sq,q,z⟩:=hl i ys H hi p;show#[q,?_];by_cases hlt:i<xs.length
 ·refine .inr #[#[xs,xs[i],sq,by simp[hlt]],z,fun x H' y=>?_];obtain⟨e,y⟩:=y;subst e;refine an3 _ _ _ _ (fun b H2 hb=>?_) (hs i ys _ x (y xs sq) p);cases b with
  |true =>
   rw[mB rfl]at hb ⊢;exact mono _ _ _ _ (fun y H3 ⟨a,b⟩=>#[a,xs.length-(i+1),by lia,rfl,hlt,b]) hb
  |false =>
   rw[mw tb_g%]at hb ⊢;show#[hb.1,xs.length-(i+1),by lia,rfl,hlt,hb.2]
 ·have e:i=xs.length:=by lia
  subst e;exact .inl #[#[xs,sq,bC _],hd ys H p]
noncomputable def sZ(te:TE):Prop:=∀σ H (Q Q':VK),(∀y H,Q y H->Q' y H)->te σ H Q->te σ H Q'
theorem Hh(hr:∀x y H (Q Q':VK),(∀y H,Q y H->Q' y H)->r x y H Q->r x y H Q')(ma:sZ ta)(mb:sZ tb):sZ (tOp r ta tb):=fun σ H Q Q' hq h =>
 ma σ H _ _ (fun x H1 h1=>mb σ H1 _ _ (fun y H2 h2=>hr x y H2 Q Q' hq h2) h1) h
theorem jo {K:aH}  (ma:sZ ta) (mb:sZ tb):sZ (tOp (zA K) ta tb):=Hh (fun x y H Q Q' hq h2=>by
 rcases h2 with⟨a1,a2,a3,a4,a5,a6,a7,a8,q⟩|⟨a1,a2,a3,a4,a5,a6,a7,a8,q⟩|⟨a1,a2,a3,a4,q⟩
 ·exact .inl #[a1,a2,a3,a4,a5,a6,a7,a8,hq _ _ q]
 ·exact .inr (.inl #[a1,a2,a3,a4,a5,a6,a7,a8,hq _ _ q])
 ·exact .inr (.inr #[a1,a2,a3,a4,hq _ _ q])) ma mb
theorem gY   (ma:sZ ta) (mb:sZ tb):sZ (tOp (rI0 f) ta tb):=Hh (fun x y H Q Q' hq h2=>by
 obtain ⟨a1,a2,a3,a4,q⟩:=h2;show#[a1,a2,a3,a4,hq _ _ q]) ma mb
theorem aP(i:Nat):sZ (tVar i):=fun σ H Q Q' hq ⟨v,e,q⟩=>#[v,e,hq _ _ q]
theorem lM(v:V):sZ (tC v):=fun σ H Q Q' hq q=>hq _ _ q
noncomputable def W9(ta:TA):Prop:=∀σ H (Q Q':List V->Hp->Prop),(∀xs H,Q xs H->Q' xs H)->ta σ H Q->ta σ H Q'
theorem uz:W9 ahS:=fun σ H Q Q' hq q=>hq _ _ q
theorem gK(ma:sZ ta)(mr:W9 tr):W9 (Rj ta tr):=fun σ H Q Q' hq h=>ma σ H _ _ (fun x H1 h1=>mr σ H1 _ _ (fun xs H2 h2=>hq _ _ h2) h1) h
theorem Sv(ma:W9 ta):sZ (tTup ta):=fun σ H Q Q' hq h=>ma σ H _ _ (fun xs H1 h1=>#[h1.1,fun p hp=>hq _ _ (h1.2 p hp)]) h
theorem pre_take(ns:List Int):∀j,preSum (fun i=>(ns[i]?).getD 0) j=(ns.take j).sum
 |0=>by simp[preSum]
 |j+1=>by
  rw[preSum,pre_take ns j,jE,rK];cases ns[j]? <;> simp
theorem Mv:∀{kvs:List (Key × V)} {vs:List (Key × Value)} {i:Nat} {k:Key} {u:Value},KV kvs vs->vs[i]? = some (k,u)->∃p,kvs[i]? = some p/\RelV p.2 u
 |_,_,_,_,_,.nil,h=>by simp at h
 |p::ps,_,0,k,u,.cons (b:=q) r t,h=>by
  have e:q=(k,u):=by simpa using h
  subst e;show#[p,rfl,r.2]
 |p::ps,_,i+1,k,u,.cons r t,h=>by
  obtain⟨p',e,rr⟩:=Mv (i:=i) t (by simpa using h);show#[p',by simpa using e,rr]
section
variable{X:Cx}{l:Expr}{td:TE}{p cpos apos pos:Pos}
noncomputable def tSumV(td:TE):TE:=fun σ H Q=>td σ H fun x H1=>∃(a:Addr) (kvs:List (Key × V)) (ns:List Int),x=.ref a/\Rd H1 a (.dK kvs)/\kvs.map (·.2)=ns.map V.int/\Q (.int ns.sum) H1
theorem ag7(hm0:X.mg "sum" = none)(hl:PE X l td)(m:MI X l "values" apos cpos)(hc:X.calm=true)(hg:Gl X "sum" := by rfl)
  (he:cD [.Call (.Attribute l "values" apos) [] [] cpos] X.env=[(false,eval (.Call (.Attribute l "values" apos) [] [] cpos) X.env)]:=by rfl):
  PE X (.Call (.Name "sum" p) [.Call (.Attribute l "values" apos) [] [] cpos] [] pos) (tSumV td):=by
 intro pins s σ H Q I h;refine yw (nH I hg hm0 boot_sum ?_);refine ad7 ?_ he rfl;rw[he];refine yV (Qj (T := "dict") (id := "dict.values") m.base rfl m.line QK Zf alF (thn (hl pins s σ H _ I h) fun v s1 zq=>?_));obtain⟨x,H1,I1,r1,q1⟩:=zq;obtain⟨a,kvs,ns,rfl,e,ei,q⟩:=q1;obtain rfl:v=Value.ref a:=r1;obtain⟨t1,t2,hS⟩:=Rq I1 (.inl #[kvs,e]);show#[t1,t2,?_];obtain⟨z,_,vs,rel,dd⟩:=tZ I1.hok e;obtain⟨ep,dm⟩:=dd.dictAt;have hlen:=rel.length;have hns:ns.length=kvs.length:=by have:=mM jF ei;simpa using this.symm
 refine Ye Zf alE rfl (Qh #[rfl,t1,alD _,_,aj8 (cu X.prog X.w) a hS,#[vs,dd],?_]);refine Eb ?_;show wpAny _ _ (call (.builtin "sum") [.ref (~~~s1)]) _ _ _;have I2:=I1.kept (h':=s1.heap.push { cls:=.type "dict_values",data:=.fields [.ref a].toArray }) (t':=s1.toks) fun b ob e=>dH _ e;have KS:=ajR (prog:=X.prog) (w:=X.w) (r:= ~~~s1) (d:=a) (knd:=cu X.prog X.w) (kvs:=vs) (ep:=ep);have hok:(s1.heap.push { cls:=.type "dict_values",data:=.fields [.ref a].toArray }).IsValuesView (~~~s1) a/\(s1.heap.push { cls:=.type "dict_values",data:=.fields [.ref a].toArray }).DictAt (cu X.prog X.w) a vs ep:=#[#[_,dW _ rfl,rfl,rfl],dm.push _];have th:=KS.there _ hok;generalize s1.heap.push { cls:=.type "dict_values",data:=.fields [.ref a].toArray }=G at I2 hok th ⊢;refine call_sum_walkAnyS ?_;obtain⟨oI,St,hit,W,st⟩:=KS.iter X.A.in1 { s1 with heap:=G } (I1.ok.hd hc) hok;refine hit _ _ #[G.objs.size,_,_,_,vs.length,_,_,fun i=>(ns[i]?).getD 0,rfl,W.toS,st,fun b hb=>?_,fun i v hv=>?_,fun s' t' hm=>?_]
 ·show b<(G.push oI).objs.size;rw[JK];have:b=G.objs.size\/b=a:=by simpa using hb
  rcases this with z|z
  ·rw[z];exact Du _
  ·rw[z];exact yK th.2
 ·obtain⟨k,ek⟩:=hv;obtain⟨pr,hp,rp⟩:=Mv rel ek;have e2:(kvs.map (·.2))[i]? = some pr.2:=by rw[dG,hp];rfl
  rw[ei,dG]at e2;cases en:ns[i]? with
  |none=>rw[en]at e2;cases e2
  |some n =>
   rw[en]at e2;have e3:V.int n=pr.2:=cA e2;rw[<-e3]at rp;obtain⟨t,et⟩:∃t,v=Value.int n t:=rp;show#[t,by rw[et];show _=Value.int ((ns[i]?).getD 0) t;rw[en];rfl]
 ·have hk:∀ b o,G.get? b=some o->s'⁻¹ b=some o:=fun b o e=>hm.heap b o (fun hI=>by
   have:b=G.objs.size:=by simpa using hI
   exact mI (bQ e) (by rw [this];exact q9 _)) (dH _ e)
  rw[al6 hm];show#[.int ns.sum,H1,I2.kept (t':=s'.toks) hk,#[t',?_],q];rw[pre_take,jD tb_g%]
end
noncomputable def MonoT(tt:TT):Prop:=∀σ H (R R':Bool->Hp->Prop),(∀b H,R b H->R' b H)->tt σ H R->tt σ H R'
theorem dJ  (m:sZ te):MonoT (Ml te):=fun σ H R R' hr h=>m σ H _ _ (fun y H1 h1=>by
 obtain ⟨b,e,r⟩:=h1;show#[b,e,hr _ _ r]) h
theorem aqj(ma:sZ ta)(mb:sZ tb):sZ (tOp rNe ta tb):=Hh (fun x y H Q Q' hq h=>#[h.1,hq _ _ h.2]) ma mb
theorem Sw{K:aH}(i j:Nat):∀x σ H (R R':St->Hp->Prop),(∀σ H,R σ H->R' σ H)->amn K 2 (Gm (mF i) (Gm (mF j) amm)) x σ H R->amn K 2 (Gm (mF i) (Gm (mF j) amm)) x σ H R':=fun x σ H R R' hr h=>by
 obtain⟨a,xs,e,sq,hl,v,r,e1,v2,r2,e2,e3,q⟩:=h;show#[a,xs,e,sq,hl,v,r,e1,v2,r2,e2,e3,hr _ _ q]
noncomputable def rBits:V->List V->Hp->VK->Prop:=fun x vs H Q=>∃i:Int,x=.int i/\vs=[]/\Q (.int ((tQ i:Nat):Int)) H
theorem aqk:MtR X "int.bit_length" rBits:=by
 intro pins s σ H x vs v us Q I rx rv h;obtain⟨i,rfl,rfl,q⟩:=h;obtain⟨t,rfl⟩:∃t,v=Value.int i t:=rx;have hus:=rv.zero;subst hus;exact call_gives alC (typeIs_int s i t) PySem.F.entry_int_bit_length (PySem.F.args_int_bit_length_1 _) (asD i t) (show Made.post _ _ _ from#[.int _,H,I.tok _,#[_,rfl],q])
theorem aql(hr:∀vs H (Q Q':VK),(∀y H,Q y H->Q' y H)->r vs H Q->r vs H Q')(ma:W9 ta):sZ (tCB r ta):=fun σ H Q Q' hq h=>ma σ H _ _ (fun vs H1 h1=>hr vs H1 Q Q' hq h1) h
theorem Sy {K:aH}  (ma:W9 ta):sZ (tCB (abu K) ta):=aql (fun vs H Q Q' hq h=>by
 rcases h with⟨x,n,e,l,q⟩|⟨a,kvs,e,r,q⟩
 ·exact .inl #[x,n,e,l,hq _ _ q]
 ·exact .inr #[a,kvs,e,r,hq _ _ q]) ma
theorem SJ {K:aH}   (ma:sZ ta):sZ (amz K ta f):=fun σ H Q Q' hq h=>ma σ H _ _ (fun x H1 h1=>by
 obtain ⟨a,C,dx,fs,v,e,h2,c,n,l,q⟩:=h1;show#[a,C,dx,fs,v,e,h2,c,n,l,hq _ _ q]) h
theorem bits_le{x:Int}(h:x.natAbs<2 ^ n):tQ x<=n:=by
 unfold tQ;split
 ·exact bF _
 ·rename_i hx;have h0:x.natAbs≠0:=by
   intro z;apply hx;have:x=0:=by lia
   rw[this];rfl
  have:=(ad5 h0).mpr h;lia
theorem aqm(h:0<=x):x<2 ^ tQ x:=by
 unfold tQ;split
 ·rename_i hx;have:x=0:=by simpa using hx
  rw[this];decide
 ·have h1:x.natAbs<2 ^ (x.natAbs.log2+1):=Nat.lt_log2_self;have h2:((x.natAbs:Nat):Int)<((2 ^ (x.natAbs.log2+1):Nat):Int):=Y0.mpr h1;rw[u9]at h2;have h3:((x.natAbs:Nat):Int)=x:=by lia
  rwa[h3]at h2
noncomputable def ag8(i j:Int):Prop:=∃n m:Nat,i.natAbs<2 ^ n/\j.natAbs<2 ^ m/\n+m<=134217728
theorem ag8.ok(h:ag8 i j):adT i j:=by
 obtain⟨n,m,h1,h2,h3⟩:=h;have b1:=bits_le h1;have b2:=bits_le h2;unfold adT;have:alw ((tQ i:Int)+tQ j)=false:=by
  unfold alw;refine mS ?_;show ¬ ((tQ i:Int)+tQ j>((134217728:Nat):Int));lia
 rw[this];simp
theorem vX:OpR X (jH .Mult) (rI ag8 fun i j=>.int (i*j)):=opI (C:=ag8) (g:=fun i j=>i*j) fun _ _ _ _ _ _ _ hc q=>mul_int q hc.ok
noncomputable def arJ(_ j:Int):Prop:=0<j/\∃n:Nat,n<=9000/\j<2 ^ n
theorem SM:OpR X (jH .FloorDiv) (rI arJ fun i j=>.int (i / j)):=
 opI (C:=arJ) (g:=fun i j=>i / j) fun i j t u s Q E hc h=>by
  obtain⟨h0,n,h1,h2⟩:=hc;have hl:j.natAbs.log2<9000:=by
   have:j.natAbs≠0:=by lia
   have h3:j.natAbs<2 ^ n:=by
    have:((j.natAbs:Nat):Int)<((2 ^ n:Nat):Int):=by
     rw[u9];have h4:((j.natAbs:Nat):Int)=j:=by lia
     rwa[h4]
    exact Y0.mp this
   have:=(ad5 this).mpr h3;lia
  refine aef tb_g% ?_ (.inl (alR hl));rwa[QF i tb_g%]
theorem Xa{x:Int}{n:Nat}(h0:0<=x)(h:x<2 ^ n):x.natAbs<2 ^ n:=by
 have:((x.natAbs:Nat):Int)<((2 ^ n:Nat):Int):=by
  rw[u9];have h4:((x.natAbs:Nat):Int)=x:=by lia
  rwa[h4]
 exact Y0.mp this
theorem Hj(ns:List Int)(lo hi:Option Int):∃ms:List Int,abn (ns.map V.int) lo hi=ms.map V.int/\ms.length<=ns.length/\∀m∈ms,m∈ns:=by
 show#[(ns.drop (HT.sIx (ns.map V.int).length 0 lo)).take (HT.sIx (ns.map V.int).length (ns.map V.int).length hi-HT.sIx (ns.map V.int).length 0 lo),?_,?_,fun m hm=>Qa (ac6 hm)]
 ·unfold abn;rw[List.map_take,XJ]
 ·rw[dN,CN];lia
theorem int_at{ns:List Int}{i:Nat}{y:V}(h:(ns.map V.int)[i]? = some y):∃z,ns[i]? = some z/\y=V.int z:=by
 rw[dG]at h;cases e:ns[i]? with
 |none=>rw[e]at h;cases h
 |some z=>rw[e]at h;show#[z,rfl,(cA h).symm]
theorem Hl{ns:List Int}(h0:0<=i)(h1:i<(ns.length:Int)):∃v,v∈ns/\atI (ns.map V.int) i=some (.int v):=by
 have e:ns[i.toNat]? = some (ns[i.toNat]'tb_g%):=eU tb_g%;show#[_,mv e,?_];have:=Gp (xs:=ns.map V.int) (j:=i.toNat) (v:=.int (ns[i.toNat]'tb_g%)) (by rw[dG,e];rfl)
 rwa [ak0 h0]at this
theorem four{a b c d v:Int}(h:v∈[a,b,c,d]):v=a\/v=b\/v=c\/v=d:=by simpa using h
theorem an4(f:Str)(v:V):bW f v []=[(f,v)]:=rfl
theorem aqn(f:Str)(v:V)(r:List (Str × V))(u:V):bW f v ((f,u)::r)=(f,v)::r:=by
 unfold bW;rw[mB rfl]
theorem aqo(h:¬ g=f)(v:V)(r:List (Str × V))(u:V):bW f v ((g,u)::r)=(g,u)::bW f v r:=by
 rw[bW,mw h]
theorem bH{f m:Str}{v:V}{r:List (Str × V)}(h:¬ m=f):((f,v)::r).lookup m=r.lookup m:=by
 rw[adf];rw[xj.mpr h]
theorem aup{K:aH}(h:SqT K H a xs)(q:Q (.int xs.length) H):abu K [.ref a] H Q:=.inl #[.ref a,xs.length,rfl,.inr #[xs,h,rfl],q]
theorem abY:decide (V.ref a=V.non)=false:=mS (by intro z;cases z)
theorem abZ:decide (V.non=V.non)=true:=mN rfl
theorem gb(b:But p H H')(h:H' a=none)(n:a≠p):H a=none:=by
 cases e:H a with
 |none=>rfl
 |some o=>rw[b a o e n]at h;cases h
theorem aiv(mt:∀σ H (R R':Bool->Hp->Prop),(∀b H,R b H->R' b H)->t σ H R->t σ H R')(mu:∀σ H (R R':Bool->Hp->Prop),(∀b H,R b H->R' b H)->u σ H R->u σ H R'):
  ∀ σ H (R R':Bool->Hp->Prop),(∀ b H,R b H->R' b H)->tAnd t u σ H R->tAnd t u σ H R':=fun σ H R R' hr h=>mt σ H _ _ (fun b H1 hb=>by
 cases b with
 |true=>rw[mB rfl]at hb ⊢; exact mu σ H1 _ _ hr hb
 | false=>rw [mw tb_g%] at hb ⊢; exact hr _ _ hb) h
section
variable{X:Cx}
theorem aiw:∀{ns ms:List Int},ns.length=ms.length->((jG ns.length).all fun j=>eqV (V.int (ns.getD j 0)) (V.int (ms.getD j 0)))=decide (ns=ms):=by
 intro ns ms hl;by_cases h:ns=ms
 ·subst h;rw[mN rfl,Xz];intro j _;show(ns.getD j 0 == ns.getD j 0)=true;simp
 ·rw[mS h];cases e:((jG ns.length).all fun j=>eqV (V.int (ns.getD j 0)) (V.int (ms.getD j 0)))with
  |false=>rfl
  |true =>
   exfalso;apply h;rw[Xz]at e;refine List.ext_getElem? fun i=>?_;by_cases hi:i<ns.length
   ·have:=e i (CQ.mpr hi);have this:(ns.getD i 0 == ms.getD i 0)=true:=this;have this:ns.getD i 0=ms.getD i 0:=by simpa using this
    rw[eU hi,eU tb_g%];rw[oN,oN,eU hi,eU (show i<ms.length by lia)]at this;exact mM some this
   ·rw[wL tb_g%,wL tb_g%]
noncomputable def rEqI(K:aH):R2:=fun x y H Q=>∃(a b:Addr)(ns ms:List Int),x=.ref a/\y=.ref b/\SqL K H a (ns.map V.int)/\SqL K H b (ms.map V.int)/\ns.length=ms.length/\Q (.bl (decide (ns=ms))) H
theorem an5(hu:X.A.units+64<cLine):OpR X (gq .Eq) (rEqI X.K):=by
 intro pins s σ H x y v u Q I rx ry h;obtain⟨a,b,ns,ms,rfl,rfl,ha,hb,hl,w⟩:=h;obtain rfl:v=Value.ref a:=rx;obtain rfl:u=Value.ref b:=ry;obtain⟨us,r1,p1,_⟩:=I.list ha;obtain⟨vs,r2,p2,_⟩:=I.list hb;have l1:=r1.length;have l2:=r2.length;rw[aC]at l1 l2;have:=aez (A:=X.A) (s:=s) (e:=fun j=>eqV (V.int (ns.getD j 0)) (V.int (ms.getD j 0))) p1.isList p2.isList (by rw[cN,cN,<-l1,<-l2,hl]) tb_g% fun j h1 h2=>by
  have e1:j<us.length:=by simpa using h1
  have e2:j<vs.length:=by simpa using h2
  have g1:(ns.map V.int)[j]? = some (V.int (ns.getD j 0)):=by rw[dG,oN,eU (show j<ns.length by lia)];rfl
  have g2:(ms.map V.int)[j]? = some (V.int (ms.getD j 0)):=by rw[dG,oN,eU (show j<ms.length by lia)];rfl
  obtain⟨u,k1,r1'⟩:=r1.get g1;obtain⟨v,k2,r2'⟩:=r2.get g2;have m1:us.toArray[j]=u:=by
   rw[eU e1]at k1;simpa using k1
  have m2:vs.toArray[j]=v:=by
   rw[eU e2]at k2;simpa using k2
  rw[m1,m2];exact ZF r1' r2' rfl rfl
 rw[cN,<-l1,aiw hl]at this;exact this X.prog X.w X.xe _ #[.bl _,H,I,rfl,w]
noncomputable def an6(_ j:Int):Prop:=j≠0/\∃n:Nat,n<=9000/\j.natAbs<2 ^ n
theorem Kz:OpR X (jH .FloorDiv) (rI an6 fun i j=>.int (i.fdiv j)):=
 opI (C:=an6) (g:=fun i j=>i.fdiv j) fun i j t u s Q E hc h=>by
  obtain⟨h0,n,h1,h2⟩:=hc;have hl:j.natAbs.log2<9000:=by
   have h3:j.natAbs≠0:=by lia
   have:=(ad5 h3).mpr h2;lia
  exact aef h0 h (.inl (alR hl))
end
section
variable{X:Cx}{l:Expr}{p cpos apos pos:Pos}
noncomputable def an7(td:TE):TE:=fun σ H Q=>td σ H fun x H1=>∃a kvs ns,x=.ref a/\Rd H1 a (.dK kvs)/\(kvs.map fun p=>kV p.1)=ns.map V.int/\ns.length<64 /\
 ∀(l:Addr)(ns':List Int),H1 l=none->ns'.Perm ns->ns'.Pairwise (· <= ·)->Q (.ref l) (upd H1 l (.lst (ns'.map V.int)))
theorem Ho(hm0:X.mg "sorted" = none)(hl:PE X l td)(m:MI X l "keys" apos cpos)(hc:X.calm=true)(hg:Gl X "sorted" := by rfl)
  (he:cD [.Call (.Attribute l "keys" apos) [] [] cpos] X.env=[(false,eval (.Call (.Attribute l "keys" apos) [] [] cpos) X.env)]:=by rfl):
  PE X (.Call (.Name "sorted" p) [.Call (.Attribute l "keys" apos) [] [] cpos] [] pos) (an7 td):=by
 intro pins s σ H Q I h;refine Call_ (nH I hg hm0 boot_sorted (ad7 ?_ he rfl));rw[he];refine yV (Qj (T := "dict") (id := "dict.keys") m.base rfl m.line QK alK PySem.F.type_dict_keys (thn (hl pins s σ H _ I h) fun v s1 zq=>?_));obtain⟨x,H1,I1,r1,q1⟩:=zq;obtain⟨a,kvs,ns,rfl,e,ei,h64,q⟩:=q1;obtain rfl:v=Value.ref a:=r1;obtain⟨t1,t2,hS⟩:=Rq I1 (.inl #[kvs,e]);show#[t1,t2,?_];obtain⟨z,_,vs,rel,dd⟩:=tZ I1.hok e;obtain⟨ep,dm⟩:=dd.dictAt;have hlen:=rel.length;have hns:ns.length=kvs.length:=by have:=mM jF ei;simpa using this.symm
 refine Ye alK PySem.F.entry_dict_keys rfl (Qh #[rfl,t1,PySem.F.args_dict_keys_1 _,_,PySem.W.kdl_meets_keys (cu X.prog X.w) a hS,#[vs,dd],?_]);refine Eb ?_;show wpAny _ _ (call (.builtin "sorted") [.ref (~~~s1)]) _ _ _;have I2:=I1.kept (h':=s1.heap.push { cls:=.type "dict_keys",data:=.fields [.ref a].toArray }) (t':=s1.toks) fun b ob e=>dH _ e;refine RM (X:=X) (ns:=ns) (PySem.W.kdl_keys (knd:=cu X.prog X.w) (kvs:=vs) (ep:=ep)) (I1.ok.hd hc) #[#[_,dW _ rfl,rfl,rfl],dm.push _] (by rwa[<-hlen]) tb_g% (fun us hu hv=>?_) fun h' tk l' out ns' e' kp hne hl' hI hp ho=>?_
 ·have vv:=Aq rel hu hv;rw[ei]at vv;exact intsAre_of vv
 ·show#[.ref l',_,I2.Ms (t':=tk) kp hne (show cT X.prog X.w _ h' l' (.lst (ns'.map V.int))from#[?_,out.toList,e',lH hI,by simpa using hl']),rfl,q l' ns' (I2.none_of hne) hp ho];rwa[aC,hp.length_eq,hns]
end
end L2
namespace OFF
section
variable{x y m n a b c d:Int}
theorem an8(ha:a=m)(hb:b=m*x)(hc:c=m*x*x):b*b-a*c=0:=by
 subst ha hb hc
 grind
theorem an9(h:m≠0)(ha:a=m)(hb:b=m*x):b.fdiv a=x:=by
 subst ha hb;rw[DX];exact aej x h
theorem SN(ha:a=m+n)(hb:b=m*x+n*y)(hc:c=m*x*x+n*y*y):b*b-a*c = -(m*n*((y-x)*(y-x))):=by
 subst ha hb hc
 grind
theorem zP(hm:m≠0)(hn:n≠0)(hxy:x<y)(ha:a=m+n)(hb:b=m*x+n*y)(hc:c=m*x*x+n*y*y):b*b-a*c≠0:=by
 rw[SN ha hb hc];have h1:m*n≠0:=ael hm hn;have h2:(y-x)*(y-x)≠0:=ael tb_g% tb_g%;have h3:=ael h1 h2;omega
theorem aoa(hm:m≠0)(hn:n≠0)(hxy:x<y)(ha:a=m+n)(hb:b=m*x+n*y)(hc:c=m*x*x+n*y*y)(hd:d=m*x*x*x+n*y*y*y):(b*c-a*d).fdiv (b*b-a*c)=x+y:=by
 have h0:=zP hm hn hxy ha hb hc;have e:b*c-a*d=(x+y)*(b*b-a*c):=by
  rw[SN ha hb hc];subst ha hb hc hd
  grind
 rw[e];exact aej _ h0
theorem aix(hm:m≠0)(hn:n≠0)(hxy:x<y)(ha:a=m+n)(hb:b=m*x+n*y)(hc:c=m*x*x+n*y*y)(hd:d=m*x*x*x+n*y*y*y):(c*c-b*d).fdiv (b*b-a*c)=x*y:=by
 have h0:=zP hm hn hxy ha hb hc;have e:c*c-b*d=(x*y)*(b*b-a*c):=by
  rw[SN ha hb hc];subst ha hb hc hd
  grind
 rw[e];exact aej _ h0
theorem afE:(x+y)*(x+y)-4*(x*y)=(y-x)*(y-x):=by grind
theorem aob{r s:Int}(h0:1<=r)(h0':1<=s)(h:r*r<=s*s)(h1:s*s<(r+1)*(r+1)):r=s:=by
 rcases Int.lt_trichotomy r s with l|l|l
 ·have:=yR (show r+1<=s by omega) (show r+1<=s by omega) tb_g% tb_g%;omega
 ·exact l
 ·have:=Int.mul_lt_mul' (show s<=r by omega) l tb_g% tb_g%;omega
theorem aqp:(x+y-(y-x)) / 2=x:=by omega
theorem aoc(hxy:x<y)(ha:a=m+n)(hb:b=m*x+n*y):(b-x*a) / (y-x)=n:=by
 have e:b-x*a=n*(y-x):=by subst ha hb;grind
 rw[e];exact Int.mul_ediv_cancel _ tb_g%
end
end OFF
namespace L2
open PySem PySem.Spec PyProof.Rows
theorem aah{lo:Int}{n:Nat}{caps:List Nat}{tt:TT}{te:TE}{σ:St}{H:Hp}{D:Addr}{Q:VK}(Pv:Nat->List V->Hp->Prop)(h0:Pv 0 [] (upd H D (.lst [])))(hl:∀i ys H,i<=n->Pv i ys H->H D=some (.lst ys)/\ys.length<sizeLine)
  (hs:∀i ys H,i<n->Pv i ys H->tt (vO σ (some (.int (lo+i))) caps) H fun b H2=>if b=true then te (vO σ (some (.int (lo+i))) caps) H2 fun y H3=>H3 D=some (.lst ys)/\Pv (i+1) (ys++[y]) (upd H3 D (.lst (ys++[y])))else H2 D=some (.lst ys)/\Pv (i+1) ys H2) (hd:∀ys H,Pv n ys H->Q (.ref D) H)
  (an3:∀σ H (R R':Bool->Hp->Prop),(∀b H,R b H->R' b H)->tt σ H R->tt σ H R')
  (mono:∀σ H (Q Q':VK),(∀y H,Q y H->Q' y H)->te σ H Q->te σ H Q'):
  oH (Itr lo n) caps tt te σ D Q H:=by
 show#[fun i m ys H=>m=n-i/\i<=n/\Pv i ys H,#[n,by simp,bF _,h0],?_];rintro i m ys H ⟨rfl,hi,p⟩;obtain⟨q,z⟩:=hl i ys H hi p;show#[q,?_];by_cases hlt:i<n
 ·refine .inr #[hlt,z,fun x H' y=>?_];obtain⟨e,y⟩:=y;subst e y;refine an3 _ _ _ _ (fun b H2 hb=>?_) (hs i ys _ hlt p);cases b with
  |true =>
   rw[mB rfl]at hb ⊢;exact mono _ _ _ _ (fun y H3 ⟨a,b⟩=>#[a,n-(i+1),by lia,rfl,hlt,b]) hb
  |false =>
   rw[mw tb_g%]at hb ⊢;show#[hb.1,n-(i+1),by lia,rfl,hlt,hb.2]
 ·have e:i=n:=by lia
  subst e;exact .inl #[bC _,hd ys H p]
end L2
set_option maxHeartbeats 4000000
namespace My
open PySem L2 MG
set_option genInjectivity false in
set_option genSizeOf false in
structure Ad where
 C'0:Addr
 C'1:Addr
 C'2:Addr
 C'3:Addr
 C'4:Addr
 C'5:Addr
 aai:Addr
 aaj:FuncData
 Vr:Addr
 Vs:FuncData
 aqq:Addr
 aqr:FuncData
 aak:Addr
 aal:FuncData
 SQ:Addr
 SX:FuncData
 aiy:Addr
 aiz:FuncData
 aod:Addr
 aoe:FuncData
 Hq:Addr
 aam:FuncData
 ab0:Addr
 ab1:FuncData
 aof:Addr
 aog:FuncData
 Cd:Addr
 Vt:FuncData
 Nj:Addr
 Nk:FuncData
 aan:Addr
 aao:FuncData
 Vu:Addr
 Vv:FuncData
 aoh:Addr
 aoi:FuncData
 auq:Addr
 aur:FuncData
 wW:Addr
 Nm:FuncData
 afF:Addr
 afG:FuncData
 Hr:Addr
 Hs:FuncData
 S5:Addr
 S6:FuncData
 wX:Addr
 Np:FuncData
 aoj:Addr
 aok:FuncData
 aiA:Addr
 aiB:FuncData
 S7:Addr
 S8:FuncData
 S9:Addr
 Tc:FuncData
 afH:Addr
 afI:FuncData
 zQ:Addr
 Td:FuncData
 Vw:Addr
 Vx:FuncData
 Te:Addr
 Tf:FuncData
 Tg:Addr
 Ti:FuncData
 Nq:Addr
 Nr:FuncData
 Nt:Addr
 Nu:FuncData
 wY:Addr
 Nv:FuncData
 aqs:Addr
 aqt:FuncData
 aap:Addr
 aaq:FuncData
 aar:Addr
 aas:FuncData
 Vy:Addr
 Vz:FuncData
 afJ:Addr
 afK:FuncData
 aat:Addr
 aau:FuncData
 aol:Addr
 aom:FuncData
 Ht:Addr
 Hu:FuncData
 aiC:Addr
 aiD:FuncData
 Tj:Addr
 Tn:FuncData
 afL:Addr
 afM:FuncData
 KC:Addr
 KD:FuncData
 Hw:Addr
 Hx:FuncData
 aav:Addr
 aaw:FuncData
 aon:Addr
 aoo:FuncData
 aax:Addr
 aay:FuncData
 aaz:Addr
 aaA:FuncData
 afN:Addr
 afO:FuncData
 Nx:Addr
 Ny:FuncData
 VB:Addr
 VD:FuncData
 KH:Addr
 KJ:FuncData
 Hy:Addr
 Hz:FuncData
 Tp:Addr
 Tq:FuncData
 Nz:Addr
 NP:FuncData
 KN:Addr
 KQ:FuncData
 afP:Addr
 afQ:FuncData
 aus:Addr
 aut:FuncData
 afR:Addr
 afS:FuncData
 ab2:Addr
 ab3:FuncData
 ab4:Addr
 ab5:FuncData
 auu:Addr
 auv:FuncData
 VF:Addr
 VG:FuncData
 Tt:Addr
 Tv:FuncData
 HB:Addr
 HD:FuncData
 KR:Addr
 KY:FuncData
 Fe:Addr
 Fi:FuncData
 NQ:Addr
 NT:FuncData
 Br:Addr
 Bs:FuncData
 Tw:Addr
 Tz:FuncData
 aiE:Addr
 aiF:FuncData
 ab6:Addr
 ab7:FuncData
 aiG:Addr
 aiH:FuncData
 aop:Addr
 aoq:FuncData
 ab8:Addr
 ab9:FuncData
 aqu:Addr
 aqv:FuncData
 NZ:Addr
 N5:FuncData
 TF:Addr
 TJ:FuncData
 N6:Addr
 N7:FuncData
 TQ:Addr
 TV:FuncData
 aaB:Addr
 aaC:FuncData
 afT:Addr
 afU:FuncData
 arK:Addr
 d_law:FuncData
structure Tx(K:aH)(mg:Str->Option Value)(A:Ad):Prop where
 gH:Cls K A.C'0
 ag9:mg "Rungs" = some (.ref A.C'0)
 aeM:Mk K A.C'0 A.Hq
 na'6:cj K A.C'0 "room"
 aiI:cj K A.C'0 "total"
 aiJ:cj K A.C'0 "over"
 aiK:cj K A.C'0 "under"
 TX:cj K A.C'0 "turns"
 Xb:cj K A.C'0 "least"
 Xc:cj K A.C'0 "most"
 acd:cj K A.C'0 "rungs"
 vY:Cls K A.C'1
 ace:mg "Window" = some (.ref A.C'1)
 aeN:Mk K A.C'1 A.Cd
 aha:cj K A.C'1 "room"
 ahb:cj K A.C'1 "reach"
 TY:cj K A.C'1 "clock"
 acf:cj K A.C'1 "boxes"
 xY:Cls K A.C'2
 T3:mg "Distinct" = some (.ref A.C'2)
 aeO:Mk K A.C'2 A.wW
 ahc:cj K A.C'2 "room"
 Xd:cj K A.C'2 "arrivals"
 Xe:cj K A.C'2 "level"
 acg:cj K A.C'2 "kept"
 qj:Cls K A.C'3
 T4:mg "Frequent" = some (.ref A.C'3)
 aeP:Mk K A.C'3 A.wX
 ahd:cj K A.C'3 "room"
 Xf:cj K A.C'3 "total"
 Xg:cj K A.C'3 "lost"
 ach:cj K A.C'3 "counts"
 VH:Cls K A.C'4
 Xh:mg "Balance" = some (.ref A.C'4)
 aeQ:Mk K A.C'4 A.zQ
 ahe:cj K A.C'4 "span"
 T5:cj K A.C'4 "sums"
 gQ:Cls K A.C'5
 T6:mg "Keepsake" = some (.ref A.C'5)
 aeR:Mk K A.C'5 A.wY
 ahf:cj K A.C'5 "room"
 ahg:cj K A.C'5 "reach"
 ahh:cj K A.C'5 "span"
 aci:cj K A.C'5 "came"
 acj:cj K A.C'5 "went"
 acn:cj K A.C'5 "up"
 aco:cj K A.C'5 "down"
 acp:cj K A.C'5 "window"
 acq:cj K A.C'5 "seen"
 acr:cj K A.C'5 "balance"
 vZ:Fg K mg "with_thing" vf A.aai A.aaj ["lists","thing","weight"]
 tD:Fg K mg "left_behind" rZ A.Vr A.Vs ["things"]
 aaD:Fg K mg "risen" Zk A.aqq A.aqr ["things","turns"]
 v8:Mg K A.C'0 "turn" "Rungs.turn" vg A.aak A.aal Q20
 ql:Mg K A.C'0 "settle" "Rungs.settle" pG A.SQ A.SX ["self","lists"]
 Bh:Fg K mg "greater" JW A.aiy A.aiz Q11
 HF:Fg K mg "lesser" QW A.aod A.aoe Q11
 v9:Mg K A.C'0 "__init__" "Rungs.__init__" vh A.Hq A.aam Q14
 zR:Mg K A.C'0 "add" "Rungs.add" yW A.ab0 A.ab1 Q3
 T7:Fg K mg "joined" QX A.aof A.aog ["boxes","room"]
 tE:Mg K A.C'1 "__init__" "Window.__init__" sy A.Cd A.Vt Q21
 nJ:Mg K A.C'1 "settle" "Window.settle" mY A.Nj A.Nk ["self","boxes"]
 wg:Mg K A.C'1 "add" "Window.add" vm A.aan A.aao ["self","weight"]
 tG:Mg K A.C'1 "idle" "Window.idle" sE A.Vu A.Vv Q13
 T8:Fg K mg "spread" QZ A.aoh A.aoi Q16
 afV:Fg K mg "mark" aeJ A.auq A.aur Q16
 nM:Mg K A.C'2 "__init__" "Distinct.__init__" mZ A.wW A.Nm Q14
 Fj:Fg K mg "of_marks" Ef A.afF A.afG ["things","level"]
 j7:Mg K A.C'2 "settle" "Distinct.settle" jO A.Hr A.Hs ["self","things"]
 qm:Mg K A.C'2 "add" "Distinct.add" pH A.S5 A.S6 Q10
 nO:Mg K A.C'3 "__init__" "Frequent.__init__" m5 A.wX A.Np Q14
 T9:Fg K mg "cut_of" Q5 A.aoj A.aok ["counts","room"]
 KZ:Fg K mg "lowered" JX A.aiA A.aiB ["counts","cut"]
 qp:Mg K A.C'3 "fit" "Frequent.fit" pI A.S7 A.S8 ["self","grown"]
 qt:Mg K A.C'3 "add" "Frequent.add" pJ A.S9 A.Tc Q3
 Fl:Fg K mg "with_row" Eh A.afH A.afI ["sums","thing","weight"]
 qu:Mg K A.C'4 "__init__" "Balance.__init__" pK A.zQ A.Td ["self","span"]
 tH:Mg K A.C'4 "put" "Balance.put" sH A.Vw A.Vx Q3
 qw:Mg K A.C'4 "take" "Balance.take" pN A.Te A.Tf Q3
 qx:Mg K A.C'5 "put" "Keepsake.put" pO A.Tg A.Ti Q3
 nP:Mg K A.C'5 "take" "Keepsake.take" m6 A.Nq A.Nr Q3
 nQ:Mg K A.C'5 "idle" "Keepsake.idle" m7 A.Nt A.Nu Q13
 nU:Mg K A.C'5 "__init__" "Keepsake.__init__" m8 A.wY A.Nv Q22
 aaE:Fg K mg "_law_mix" Zm A.aqs A.aqt Q23
 iH:Fg K mg "_law_far_back" vo A.aap A.aaq []
 wj:Fg K mg "_law_thing_by" vp A.aar A.aas Q15
 tK:Fg K mg "_law_weight_by" sI A.Vy A.Vz Q15
 Fo:Fg K mg "_law_row_by" Ei A.afJ A.afK Q15
 wu:Fg K mg "_law_shape_by" vq A.aat A.aau Q15
 Ua:Fg K mg "_law_done" Q6 A.aol A.aom Q24
 j8:Fg K mg "poured_frequent" jP A.Ht A.Hu Q11
 K3:Fg K mg "list_at" JZ A.aiC A.aiD ["lists","place"]
 qy:Fg K mg "poured_rungs" pP A.Tj A.Tn Q11
 Fp:Fg K mg "followed" Ej A.afL A.afM Q11
 lN:Fg K mg "poured_balance" lB A.KC A.KD Q11
 j9:Fg K mg "poured_distinct" jQ A.Hw A.Hx Q11
 wz:Fg K mg "empty_like" vA A.aav A.aaw ["keepsake"]
 Ub:Fg K mg "poured" Q7 A.aon A.aoo Q11
 wA:Mg K A.C'0 "near" "Rungs.near" vB A.aax A.aay Q10
 wB:Mg K A.C'0 "rank" "Rungs.rank" vC A.aaz A.aaA Q10
 Ft:Fg K mg "thing_at" Ek A.afN A.afO ["lists","k"]
 nW:Mg K A.C'0 "by_rank" "Rungs.by_rank" m9 A.Nx A.Ny Q17
 tL:Mg K A.C'1 "last" "Window.last" sO A.VB A.VD Q13
 gh:Mg K A.C'2 "exact" "Distinct.exact" lC A.KH A.KJ Q12
 fL:Mg K A.C'2 "bounds" "Distinct.bounds" jR A.Hy A.Hz Q12
 qz:Mg K A.C'3 "low" "Frequent.low" pQ A.Tp A.Tq Q10
 nY:Mg K A.C'3 "high" "Frequent.high" ni A.Nz A.NP Q10
 lO:Mg K A.C'3 "often" "Frequent.often" lE A.KN A.KQ Q19
 Fv:Fg K mg "due_sums" El A.afP A.afQ ["span"]
 afW:Fg K mg "root" aeK A.aus A.aut ["number"]
 Fw:Fg K mg "one_pair" Eo A.afR A.afS ["rest"]
 zT:Fg K mg "two_pairs" yX A.ab2 A.ab3 ["rest","bend"]
 zU:Fg K mg "pairs_for" yZ A.ab4 A.ab5 ["rest"]
 afX:Fg K mg "fits" aeL A.auu A.auv ["pairs","rest","span"]
 jh:Mg K A.C'4 "off" "Balance.off" sS A.VF A.VG Q12
 qC:Mg K A.C'5 "net" "Keepsake.net" pR A.Tt A.Tv Q10
 kj:Mg K A.C'5 "ranked" "Keepsake.ranked" jT A.HB A.HD Q10
 lQ:Mg K A.C'5 "often" "Keepsake.often" lF A.KR A.KY Q19
 jy:Mg K A.C'5 "by_rank" "Keepsake.by_rank" jw A.Fe A.Fi Q17
 nZ:Mg K A.C'5 "last" "Keepsake.last" nu A.NQ A.NT Q13
 dZ:Mg K A.C'5 "distinct" "Keepsake.distinct" iU A.Br A.Bs Q12
 iz:Mg K A.C'5 "off" "Keepsake.off" pU A.Tw A.Tz Q12
 K4:Fg K mg "_law_whole" J0 A.aiE A.aiF ["_law_found"]
 zV:Fg K mg "_law_weights" za A.ab6 A.ab7 ["_law_rows","_law_kind"]
 K5:Fg K mg "_law_up_to" J8 A.aiG A.aiH Q25
 Uc:Fg K mg "_law_last" Q8 A.aop A.aoq ["_law_rows","_law_many"]
 zW:Fg K mg "_law_between" zc A.ab8 A.ab9 Q26
 aaF:Fg K mg "_law_off" Zn A.aqu A.aqv ["_law_rows","_law_span"]
 n8:Fg K mg "_law_counts_hold" nA A.NZ A.N5 Q18
 qD:Fg K mg "_law_rank_holds" pW A.TF A.TJ Q27
 oh:Fg K mg "_law_often_holds" nF A.N6 A.N7 Q28
 qF:Fg K mg "_law_rest_holds" pY A.TQ A.TV Q18
 wC:Fg K mg "_law_all_hold" vD A.aaB A.aaC Q18
 Fx:Fg K mg "_law_pieces" Ep A.afT A.afU ["_law_script"]
 aor:Fg K mg "law" amg A.arK A.d_law ["_law_script"]
 auw:mg "bool" = none
 aos:mg "dict" = none
 n_int:mg "int" = none
 wD:mg "isinstance" = none
 n_len:mg "len" = none
 aaG:mg "list" = none
 Mz:mg "max" = none
 acs:mg "min" = none
 HJ:mg "range" = none
 Ud:mg "reversed" = none
 n_set:mg "set" = none
 fM:mg "sorted" = none
 acu:mg "sum" = none
 aqw:mg "tuple" = none
 arL:mg "zip" = none
 aot:∃u,mg "MOST" = some u/\RelV (.int 1152921504606846976) u
 N8:∃u,mg "MOST_HALVINGS" = some u/\RelV (.int 60) u
 aou:∃u,mg "SPREAD" = some u/\RelV (.int 770093176312745717) u
 aiL:oU K (.type "int") (.type "int")=some true
 afY:oU K (.type "int") (.type "bool")=some false
 apr:oU K (.type "tuple") (.type "tuple")=some true
 arM:oU K (.type "list") (.type "list")=some true
variable{P:aK}{w:World}{K:aH}{base:Heap}{A:Ad}
local macro_rules | `(tactic| walk_at "sc") => `(tactic| exact ⟨rfl, rfl, rfl, by decide +kernel, rfl, by decide +kernel, by decide +kernel⟩)
theorem Ce:aA ["lists","thing","weight","grown","place","bits"] ["lists","thing","weight"] (aq vf):=tb_g%
theorem Ue:aA ["things"] ["things"] (aq rZ):=tb_g%
theorem aov:aA ["things","turns"] ["things","turns"] (aq Zk):=tb_g%
theorem VJ:aA Q20 Q20 (aq vg):=tb_g%
theorem wZ:aA ["self","lists","settled","place","stands_for","things"] ["self","lists"] (aq pG):=tb_g%
theorem Fy:aA ["one","other","known"] Q11 (aq JW):=tb_g%
theorem K6:aA ["one","other","known"] Q11 (aq QW):=tb_g%
theorem VL:aA Q14 Q14 (aq vh):=tb_g%
theorem aaH:aA Q3 Q3 (aq yW):=tb_g%
theorem Xi:aA ["boxes","room","done","newer","at_hand","box"] ["boxes","room"] (aq QX):=tb_g%
theorem Ug:aA Q21 Q21 (aq sy):=tb_g%
theorem iI:aA ["self","boxes","edge","within"] ["self","boxes"] (aq mY):=tb_g%
theorem VN:aA ["self","weight"] ["self","weight"] (aq vm):=tb_g%
theorem Uh:aA Q13 Q13 (aq sE):=tb_g%
theorem aiM:aA Q16 Q16 (aq QZ):=tb_g%
theorem ahi:aA ["thing","rest","halvings"] Q16 (aq aeJ):=tb_g%
theorem K7:aA Q14 Q14 (aq mZ):=tb_g%
theorem acv:aA ["things","level"] ["things","level"] (aq Ef):=tb_g%
theorem qG:aA ["self","things","left"] ["self","things"] (aq jO):=tb_g%
theorem Oa:aA Q10 Q10 (aq pH):=tb_g%
theorem K8:aA Q14 Q14 (aq m5):=tb_g%
theorem Xj:aA ["counts","room","falling"] ["counts","room"] (aq Q5):=tb_g%
theorem Ui:aA ["counts","cut","left","thing","count"] ["counts","cut"] (aq JX):=tb_g%
theorem xg:aA ["self","grown","cut"] ["self","grown"] (aq pI):=tb_g%
theorem xq:aA ["self","thing","weight","grown"] Q3 (aq pJ):=tb_g%
theorem MF:aA ["sums","thing","weight","grown","share","held"] ["sums","thing","weight"] (aq Eh):=tb_g%
theorem Ob:aA ["self","span"] ["self","span"] (aq pK):=tb_g%
theorem Uj:aA Q3 Q3 (aq sH):=tb_g%
theorem Oc:aA Q3 Q3 (aq pN):=tb_g%
theorem Od:aA Q3 Q3 (aq pO):=tb_g%
theorem K9:aA Q3 Q3 (aq m6):=tb_g%
theorem La:aA Q13 Q13 (aq m7):=tb_g%
theorem Lb:aA Q22 Q22 (aq m8):=tb_g%
theorem aow:aA Q23 Q23 (aq Zm):=tb_g%
theorem Cg:aA ["_law_way","_law_turn"] [] (aq vo):=tb_g%
theorem Ci:aA ["_law_cell","_law_how","_law_high"] Q15 (aq vp):=tb_g%
theorem Ul:aA Q15 Q15 (aq sI):=tb_g%
theorem MJ:aA ["_law_cell","_law_kind","_law_thing","_law_weight"] Q15 (aq Ei):=tb_g%
theorem Cj:aA ["_law_cell","_law_room","_law_reach","_law_span"] Q15 (aq vq):=tb_g%
theorem aiN:aA Q24 Q24 (aq Q6):=tb_g%
theorem qH:aA ["one","other","poured","together","thing","count"] Q11 (aq jP):=tb_g%
theorem afZ:aA ["lists","place"] ["lists","place"] (aq JZ):=tb_g%
theorem xr:aA ["one","other","poured","together","place"] Q11 (aq pP):=tb_g%
theorem zX:aA ["one","other","both","behind"] Q11 (aq Ej):=tb_g%
theorem rF:aA ["one","other","poured"] Q11 (aq lB):=tb_g%
theorem qI:aA ["one","other","poured"] Q11 (aq jQ):=tb_g%
theorem VP:aA ["keepsake"] ["keepsake"] (aq vA):=tb_g%
theorem Xk:aA ["one","other","both"] Q11 (aq Q7):=tb_g%
theorem Ck:aA ["self","thing","told","stands_for","things"] Q10 (aq vB):=tb_g%
theorem Cm:aA ["self","thing","near"] Q10 (aq vC):=tb_g%
theorem MN:aA ["lists","k","kept","stands_for","things","thing","near","weight"] ["lists","k"] (aq Ek):=tb_g%
theorem Ld:aA Q17 Q17 (aq m9):=tb_g%
theorem qJ:aA ["self","many","edge","low","across"] Q13 (aq sO):=tb_g%
theorem HN:aA Q12 Q12 (aq lC):=tb_g%
theorem qK:aA ["self","many","others"] Q12 (aq jR):=tb_g%
theorem Oe:aA Q10 Q10 (aq pQ):=tb_g%
theorem Le:aA Q10 Q10 (aq ni):=tb_g%
theorem rG:aA ["self","part","whole","told","thing","high"] Q19 (aq lE):=tb_g%
theorem MP:aA ["span","once","squares"] ["span"] (aq El):=tb_g%
theorem wF:aA ["number","guess","doubling","better"] ["number"] (aq aeK):=tb_g%
theorem acw:aA ["rest"] ["rest"] (aq Eo):=tb_g%
theorem gB:aA ["rest","bend","both","times","square","apart","low","more"] ["rest","bend"] (aq yX):=tb_g%
theorem HS:aA ["rest","bend"] ["rest"] (aq yZ):=tb_g%
theorem ahj:aA ["pairs","rest","span","sums","thing","more"] ["pairs","rest","span"] (aq aeL):=tb_g%
theorem qL:aA ["self","rest","pairs"] Q12 (aq sS):=tb_g%
theorem xu:aA ["self","thing","low"] Q10 (aq pR):=tb_g%
theorem qM:aA ["self","thing","risen","fallen"] Q10 (aq jT):=tb_g%
theorem HW:aA Q19 Q19 (aq lF):=tb_g%
theorem Bt:aA Q17 Q17 (aq jw):=tb_g%
theorem Lg:aA Q13 Q13 (aq nu):=tb_g%
theorem zY:aA Q12 Q12 (aq iU):=tb_g%
theorem Og:aA Q12 Q12 (aq pU):=tb_g%
theorem af0:aA ["_law_found"] ["_law_found"] (aq J0):=tb_g%
theorem HX:aA ["_law_rows","_law_kind","_law_weights_here","_law_row"] ["_law_rows","_law_kind"] (aq za):=tb_g%
theorem af2:aA Q25 Q25 (aq J8):=tb_g%
theorem Bj:aA ["_law_rows","_law_many","_law_told","_law_left","_law_k","_law_row"] ["_law_rows","_law_many"] (aq Q8):=tb_g%
theorem aaI:aA Q26 Q26 (aq zc):=tb_g%
theorem HY:aA ["_law_rows","_law_span","_law_more","_law_row","_law_told"] ["_law_rows","_law_span"] (aq Zn):=tb_g%
theorem uD:aA ["_law_keepsake","_law_rows","_law_cell","_law_came","_law_went","_law_things","_law_thing"] Q18 (aq nA):=tb_g%
theorem xG:aA ["_law_keepsake","_law_rows","_law_k","_law_came","_law_thing","_law_first","_law_last_here","_law_high","_law_low"] Q27 (aq pW):=tb_g%
theorem uE:aA ["_law_keepsake","_law_rows","_law_part","_law_whole_here","_law_came","_law_total","_law_found","_law_listed","_law_thing","_law_low","_law_high"] Q28 (aq nF):=tb_g%
theorem xH:aA ["_law_keepsake","_law_rows","_law_cell","_law_came","_law_many","_law_total","_law_k","_law_due"] Q18 (aq pY):=tb_g%
theorem Cp:aA ["_law_keepsake","_law_rows","_law_cell","_law_whole_here","_law_part"] Q18 (aq vD):=tb_g%
theorem M5:aA ["_law_script","_law_pieces_here","_law_cell"] ["_law_script"] (aq Ep):=tb_g%
theorem aox:aA ["_law_script","_law_shape","_law_cell","_law_left","_law_rows","_law_keepsake","_law_row","_law_at","_law_one","_law_other"] ["_law_script"] (aq amg):=tb_g%
seal PSs PS PE PA PT PW PG PGs PI PO PTs OpR IxR
set_option hygiene false in
local macro_rules | `(tactic| k_dat ([$xs,*], [$ys,*], [$zs,*]) "p") => `(tactic| (
 repeat' first | exact rfl $[| ((first | apply cpE | apply cpS | apply cpN);refine' $zs)]* $[| apply $xs]* | apply cg | apply gA | apply pv | apply cI | apply pf | apply vH | apply fJ | apply Zu | apply eO | apply psS | apply Rf | apply apy | apply amk | apply atO | apply gw | apply apz | apply amF | apply gW | apply amA | apply pgN | apply zj | apply Zv | apply aeS | apply pe_bl | apply Zt | apply atE | apply pw_or | apply pw_or1 | apply pw_and | apply pw_and1 | apply pwB | apply atx | apply atw | apply atz | apply aty | apply arn | apply apG | apply apH | apply Kf | apply dX | apply zp | apply aeX | apply Gn | apply atH | apply amv | apply agB | apply agC | apply arp | apply agA | apply aro | apply apK | apply amt | apply ixG | exact gi 0 | exact gi 1 | exact gi 2 | exact gi 3 | exact gi 4 | exact gi 5 | exact gi 6 | exact gi 7 | exact gi 8 | exact gi 9 | exact gi 10 | exact rfl | exact jU _ | exact fun _=>rfl | exact fun _ _=>rfl | exact .inl rfl | exact .inr rfl | exact .inr (.inl rfl) | exact .inr (.inr rfl) | exact hr.mono tb_g% | exact wQ hr | exact hr.units | decide +kernel | with_unfolding_all rfl $[| refine' $ys]* | refine' aeV JR rfl ?_ ?_ ?_ | refine' abk JR ?_ ?_ | refine' atD ?_ ?_ (setG tb_g%) | refine' bZ ahZ (by rfl) T.n_len PySem.boot_len ?_ | refine' arv alI PySem.F.slot_list_append PySem.F.type_list_append Ww ?_ ?_ | apply aml))
local macro_rules | `(tactic| k_dat $a "h") => `(tactic| (
 first | show#[$a] | (rotate_left;k_dat $a "h")))
inductive Ex2 {a0 a1:Type} (P:a0->a1->Prop):Prop
 |k x0 x1:P x0 x1->Ex2 P
inductive Ex3 {a0 a1 a2:Type} (P:a0->a1->a2->Prop):Prop
 |k x0 x1 x2:P x0 x1 x2->Ex3 P
inductive Ex4 {a0 a1 a2 a3:Type} (P:a0->a1->a2->a3->Prop):Prop
 |k x0 x1 x2 x3:P x0 x1 x2 x3->Ex4 P
inductive Ex5 {a0 a1 a2 a3 a4:Type} (P:a0->a1->a2->a3->a4->Prop):Prop
 |k x0 x1 x2 x3 x4:P x0 x1 x2 x3 x4->Ex5 P
inductive Ex6 {a0 a1 a2 a3 a4 a5:Type} (P:a0->a1->a2->a3->a4->a5->Prop):Prop
 |k x0 x1 x2 x3 x4 x5:P x0 x1 x2 x3 x4 x5->Ex6 P
inductive Ex7 {a0 a1 a2 a3 a4 a5 a6:Type} (P:a0->a1->a2->a3->a4->a5->a6->Prop):Prop
 |k x0 x1 x2 x3 x4 x5 x6:P x0 x1 x2 x3 x4 x5 x6->Ex7 P
inductive Ex8 {a0 a1 a2 a3 a4 a5 a6 a7:Type} (P:a0->a1->a2->a3->a4->a5->a6->a7->Prop):Prop
 |k x0 x1 x2 x3 x4 x5 x6 x7:P x0 x1 x2 x3 x4 x5 x6 x7->Ex8 P
inductive ou (A0 A1 A2:Prop):Prop
 |k:A0->A1->A2->ou A0 A1 A2
inductive oJ (A0 A1 A2 A3:Prop):Prop
 |k:A0->A1->A2->A3->oJ A0 A1 A2 A3
inductive uF (A0 A1 A2 A3 A4:Prop):Prop
 |k:A0->A1->A2->A3->A4->uF A0 A1 A2 A3 A4
inductive acy (A0 A1 A2 A3 A4 A5:Prop):Prop
 |k:A0->A1->A2->A3->A4->A5->acy A0 A1 A2 A3 A4 A5
inductive Oh (A0 A1 A2 A3 A4 A5 A6:Prop):Prop
 |k:A0->A1->A2->A3->A4->A5->A6->Oh A0 A1 A2 A3 A4 A5 A6
inductive z7 (A0 A1 A2 A3 A4 A5 A6 A7:Prop):Prop
 |k:A0->A1->A2->A3->A4->A5->A6->A7->z7 A0 A1 A2 A3 A4 A5 A6 A7
set_option genSizeOf false
set_option genInjectivity false
theorem lX{Y:Cx}(h:let X:=Y.nox;∃t,PSs X b t/\t D σ H):∃t,PSs Y.nox b t/\t D σ H:=h
theorem lq(h:let u':=u;let D':=D;let σ':=σ;Ng t u' D' σ' H):Ng t u D σ H:=h
theorem lqn(h:let u':=u;let D':=D;let σ':=σ;Ng t u' D' σ' H):Ends.nx #[Ng t u D,r,b,c] σ H:=h
theorem lqg{σ:St}(h:let u':=u;let D':=D;let σ':=σ.set i (some x);Ng t u' D' σ' H):mF i x σ H (Ends.nx #[Ng t u D,r,b,c]):=h
theorem ld{t:TS}{D:Ends}{σ:St}{H:Hp}(h:let D':=D;let σ':=σ;t D' σ' H):t D σ H:=h
theorem lqw(h:let t':=t;Ng (Rg c t') v D σ H):Ng (Rg c t) v D σ H:=h
theorem lqf{w:TI}(h:let t':=t;Ng (tFor w g t') v D σ H):Ng (tFor w g t) v D σ H:=h
local macro_rules|`(tactic|k_dat $l "c")=>`(tactic|(refine $l ?_;intros))
structure Fd(K:aH)(C:Addr)(f:Str)(fs:List (Str × V))(v:V):Prop where
 c:Cls K C
 n:cj K C f
 l:fs.lookup f=some v
theorem rdG{K:aH}{f:Str}{v:V}(h:H a=some (.ins C dx fs))(d:Fd K C f fs v)(q:Q v H):rFld K f (.ref a) H Q:=rdF h d.c d.n d.l q
theorem nwA{P:Hp->Prop}(n:G c=none)(h:∀G',Same G G'->G' c=some o->P G'):∀G',upd G c o=G'->P G':=fun _ e=>e ▸ h _ (Same.new n) aj
theorem nbA{P:Hp->Prop}(h:∀G',But c G G'->G' c=some o->P G'):∀G',upd G c o=G'->P G':=fun _ e=>e ▸ h _ But.upd aj
theorem nsA{P:Hp->Prop}(s:Same H G)(n:H c=none)(h:∀G',Same H G'->G' c=some o->P G'):∀G',upd G c o=G'->P G':=fun _ e=>e ▸ h _ (fun b o e=>by rw[ao (ak e n)];exact s b o e) aj
set_option hygiene false in
local macro_rules|`(tactic|k_dat ($a,$b,$c) "f")=>`(tactic|(refine ⟨$a,$b $c (fun vs H Q E h=>?_) (fun cdv B outer s H vs Q E hr h=>lX ?_)⟩;(repeat (cases h;rename_i h));subst_vars;rfl;intro X))
local macro_rules|`(tactic|k_dat ($l,$g:ident,$s:ident,$f:ident) "n")=>`(tactic|(generalize e:upd _ _ _=$g:ident;revert $g:ident e;refine $l ?_;intro $g:ident $s:ident $f:ident))
noncomputable def aoy(K:aH):Sp:=fun vs H Q _=>Ex2 fun(a:Addr) (ns:List Int)=>oJ (vs=[.ref a]) (SqL K H a (ns.map V.int)) (ns.length<=63) (∀H',Q (.bl true) H')
theorem sq(h:∀R:St->Hp->Prop,(∀σ H,u D σ H->R σ H)->t { D with nx:=R } σ H):Ng t u D σ H:=h (u D) fun _ _ z=>z
local macro_rules | `(tactic| walk_at "rec") => `(tactic| repeat first | rw [an4] | rw [aqn] | (rw [aqo ?h]; (case h => decide +kernel)))
noncomputable def rg(au aZ bT bh bw bA bU bB:V):List (Str × V):=[("room",au),("total",aZ),("over",bT),("under",bh),("turns",bw),("least",bA),("most",bU),("rungs",bB)]
theorem Pk{K:aH}{A:Ad}(T:Tx K mg A):Fd K A.C'0 ("room" : Str) (rg au aZ bT bh bw bA bU bB) au:=#[T.gH,T.na'6,rfl]
theorem uG{K:aH}{A:Ad}(T:Tx K mg A):Fd K A.C'0 ("total" : Str) (rg au aZ bT bh bw bA bU bB) aZ:=#[T.gH,T.aiI,rfl]
theorem Ia{K:aH}{A:Ad}(T:Tx K mg A):Fd K A.C'0 ("over" : Str) (rg au aZ bT bh bw bA bU bB) bT:=#[T.gH,T.aiJ,rfl]
theorem z8{K:aH}{A:Ad}(T:Tx K mg A):Fd K A.C'0 ("under" : Str) (rg au aZ bT bh bw bA bU bB) bh:=#[T.gH,T.aiK,rfl]
theorem qN{K:aH}{A:Ad}(T:Tx K mg A):Fd K A.C'0 ("turns" : Str) (rg au aZ bT bh bw bA bU bB) bw:=#[T.gH,T.TX,rfl]
theorem Um{K:aH}{A:Ad}(T:Tx K mg A):Fd K A.C'0 ("least" : Str) (rg au aZ bT bh bw bA bU bB) bA:=#[T.gH,T.Xb,rfl]
theorem aaJ{K:aH}{A:Ad}(T:Tx K mg A):Fd K A.C'0 ("most" : Str) (rg au aZ bT bh bw bA bU bB) bU:=#[T.gH,T.Xc,rfl]
theorem qO{K:aH}{A:Ad}(T:Tx K mg A):Fd K A.C'0 ("rungs" : Str) (rg au aZ bT bh bw bA bU bB) bB:=#[T.gH,T.acd,rfl]
theorem auy(au aZ bT bh bw bA bU bB:V):bW "rungs" bB (bW "most" bU (bW "least" bA (bW "turns" bw (bW "under" bh (bW "over" bT (bW "total" aZ (bW "room" au [])))))))=rg au aZ bT bh bw bA bU bB:=by
 unfold rg
 walk_at "rec"
theorem Ib(au aZ bT bh bw bA bU bB y:V):bW "total" y (rg au aZ bT bh bw bA bU bB)=rg au y bT bh bw bA bU bB:=by
 unfold rg
 walk_at "rec"
theorem M6(au aZ bT bh bw bA bU bB y:V):bW "over" y (rg au aZ bT bh bw bA bU bB)=rg au aZ y bh bw bA bU bB:=by
 unfold rg
 walk_at "rec"
theorem Ie(au aZ bT bh bw bA bU bB y:V):bW "under" y (rg au aZ bT bh bw bA bU bB)=rg au aZ bT y bw bA bU bB:=by
 unfold rg
 walk_at "rec"
theorem wG(au aZ bT bh bw bA bU bB y:V):bW "turns" y (rg au aZ bT bh bw bA bU bB)=rg au aZ bT bh y bA bU bB:=by
 unfold rg
 walk_at "rec"
theorem Ig(au aZ bT bh bw bA bU bB y:V):bW "least" y (rg au aZ bT bh bw bA bU bB)=rg au aZ bT bh bw y bU bB:=by
 unfold rg
 walk_at "rec"
theorem M7(au aZ bT bh bw bA bU bB y:V):bW "most" y (rg au aZ bT bh bw bA bU bB)=rg au aZ bT bh bw bA y bB:=by
 unfold rg
 walk_at "rec"
theorem aaK(au aZ bT bh bw bA bU bB y:V):bW "rungs" y (rg au aZ bT bh bw bA bU bB)=rg au aZ bT bh bw bA bU y:=by
 unfold rg
 walk_at "rec"
theorem rgN(h:m∉[("room" : Str),("total" : Str),("over" : Str),("under" : Str),("turns" : Str),("least" : Str),("most" : Str),("rungs" : Str)]):(rg au aZ bT bh bw bA bU bB).lookup m=none:=by
 simp only[aX,fH,or_false,not_or]at h;obtain⟨qP,aqx,auz,aqy,aqz,aqA,auA,aqB⟩:=h;unfold rg;rw[bH qP,bH aqx,bH auz,bH aqy,bH aqz,bH aqA,bH auA,bH aqB];rfl
noncomputable def oV:Option Int->V
 |none=>.non
 |some i=>.int i
structure LL(H:Hp)(a:Addr)(bs:List Addr)(ls:RG.Ls):Prop where
 o:H a=some (.lst (bs.map V.ref))
 n:bs.length=ls.length
 e:∀(i:Nat)(b:Addr)(l:List Int),bs[i]? = some b->ls[i]? = some l->H b=some (.lst (l.map V.int))
 x:a∉bs
section
variable{bs:List Addr}{m:List Int}{i:Nat}
theorem LL.same(h:LL H a bs ls)(s:Same H H'):LL H' a bs ls:=#[s _ _ h.o,h.n,fun i b l e1 e2=>s _ _ (h.e i b l e1 e2),h.x]
theorem LL.at(h:LL H a bs ls)(hi:i<ls.length):∃b l,bs[i]? = some b/\ls[i]? = some l/\H b=some (.lst (l.map V.int)):=by
 have hb:i<bs.length:=by rwa[h.n]
 show#[bs[i],ls[i],eU hb,eU hi,h.e i _ _ (eU hb) (eU hi)]
theorem LL.ix{b:Addr}(h:bs[i]? = some b):atI (bs.map V.ref) (i:Int)=some (.ref b):=Gp (by rw[dG,h];rfl)
theorem rH(h:j<n):ixN n (j:Int)=some j:=by
 unfold ixN;rw[mB tb_g%,mB tb_g%];simp
theorem LL.set(h:LL H a bs ls)(hc:H c=some (.lst (m.map V.int)))(nc:c≠a):LL (upd H a (.lst ((bs.map V.ref).set i (.ref c)))) a (bs.set i c) (ls.set i m):=by
 show#[by rw[aj,List.map_set],by rw[kO,kO,h.n],fun j b l e1 e2=>?_,fun z=>?_]
 ·by_cases ij:i=j
  ·subst ij;rw[List.getElem?_set]at e1 e2;rw[mB rfl]at e1 e2;split at e1
   ·split at e2
    ·obtain rfl:=cA e1;obtain rfl:=cA e2;rwa[ao nc]
    ·cases e2
   ·cases e1
  ·rw[Jm ij]at e1 e2;have nb:b≠a:=fun z=>h.x (by rw[<-z];exact mv e1);rw[ao nb];exact h.e j b l e1 e2
 ·rcases Bw z with y|y
  ·exact h.x y
  ·exact nc y.symm
theorem LL.app(h:LL H a bs ls)(hc:H c=some (.lst (m.map V.int)))(nc:c≠a):LL (upd H a (.lst (bs.map V.ref++[.ref c]))) a (bs++[c]) (ls++[m]):=by
 show#[by rw[aj,bM];rfl,by rw[dw,dw,h.n];rfl,fun j b l e1 e2=>?_,fun z=>?_]
 ·rcases lZ j bs.length with lt|ge
  ·rw[PK lt]at e1;rw[PK (by rw[<-h.n];exact lt)]at e2;have nb:b≠a:=fun z=>h.x (by rw[<-z];exact mv e1);rw[ao nb];exact h.e j b l e1 e2
  ·rw[xZ ge]at e1;rw[xZ (by rwa[<-h.n]),<-h.n]at e2;obtain e:j-bs.length=0:=by
    have:=(dh.mp e1).1;have:j-bs.length<1:=this;lia
   rw[e]at e1 e2;obtain rfl:=cA e1;obtain rfl:=cA e2;rwa[ao nc]
 ·rcases bO.mp z with y|y
  ·exact h.x y
  ·exact nc (cC.mp y).symm
theorem LL.copy(h:LL H a bs ls)(hg:H g=none):LL (upd H g (.lst (bs.map V.ref))) g bs ls:=by
 have s:Same H (upd H g (.lst (bs.map V.ref))):=Same.new hg;show#[aj,h.n,(h.same s).e,fun z=>?_];obtain⟨i,hi,e⟩:=Cw.mp z;obtain⟨b,l,e1,_,e3⟩:=h.at (i:=i) (by rwa[<-h.n]);rw[eU hi,e]at e1;obtain rfl:=cA e1;rw[hg]at e3;cases e3
end
noncomputable def auB(σ:St)(_:Hp):Nat:=match σ with
 |[_,_,_,_,_,some (.int n)]=>n.toNat
 |_=>0
noncomputable def aqC:Sp:=fun vs H Q _=>Ex5 fun a bs ls t w=>Oh (vs=[.ref a,.int t,.int w]) (LL H a bs ls) (0<=w) (w<2 ^ 64) (ls.length<=800) ((∀l∈ls,l.length<=62)) (∀g bs' H',H g=none->LL H' g bs' (RG.fB t ls w.toNat)->Same H H'->(∀c∈bs',c∈bs\/H c=none)->Q (.ref g) H')
theorem VR(T:Tx K mg A):FnK P w base T.vZ CX0 1 aqC:=by
 k_dat (T.vZ,T.vZ.ok,Ce) "f"
 ·obtain⟨a,bs0,ls,t,w,rfl,hL,w0,w64,hn,h9,q⟩:=h;have w64':w.toNat<2 ^ 64:=by lia
  show#[_,by (k_dat ([hdA],[Ce.nd,tY (Rv rfl) (by rfl) T.aaG ad9 ?_,bZ (jX rfl) (by rfl) T.fM Gh ?_],[]) "p"; k_dat sV "h"; k_dat dX "h"),?_];show#[_,rfl,.inl #[a,_,rfl,.inl (.inl (.inl hL.o)),fun g hg=>?_]];have L0:=hL.copy hg;have s0:Same H (upd H g (.lst (bs0.map V.ref))):=Same.new hg;generalize upd H g (.lst (bs0.map V.ref))=H1 at L0 s0 ⊢
  k_dat lqg "c"
  show#[_,rfl,?_]
  k_dat lqg "c"
  refine tW (fun σ G=>Ex4 fun(bs:List Addr) (ms:RG.Ls) (p k:Nat)=>z7 (σ=[some (.ref a),some (.int t),some (.int w),some (.ref g),some (.int (p:Int)),some (.int (k:Int))]) (LL G g bs ms) (Same H G) (p<=ms.length) (ms.length<=800) (k*2 ^ p<=w.toNat) (ms.take p++RG.fB t (ms.drop p) k=RG.fB t ls w.toNat) ((∀l∈ms.drop p,l.length<=62)/\∀c∈bs,c∈bs0\/H c=none)) auB
   #[bs0,ls,0,w.toNat,by rw[ak0 w0];rfl,L0,s0,bF _,hn,by rw[ad4];lia,rfl,h9,fun c hc=>.inl hc] ?_ ?_
  ·rintro σ G ⟨bs,ms,p,k,rfl,L,sG,hp,h8,kp,eq,b9,fr⟩;show#[_,rfl,_,_,rfl,rfl,_,rfl,cW (fun hc=>?_) (fun hc=>?_)]
   ·k_dat lq "c"
    have k0:0<k:=by have:=mP hc;lia
    have p64:p<=63:=by
     rcases lZ p (63+1)with z|z
     ·lia
     ·have h1:=JD (show 0<2 by decide) z;have h2:=Qw (2 ^ p) k0;lia
    show#[_,rfl,_,rfl,eX (.inl (.inl L.o)) #[rfl,_,rfl,cW (fun he=>?_) (fun he=>?_)]]
    ·have he:p=ms.length:=by
      have:=V.int.inj (mP he);rw[aC,L.n]at this;lia
     show#[_,rfl,.inl #[rfl,_,.inl (.inl L.o)],tb_g%,fun c hc=>?_]
     k_dat (nwA hc,G1,s1,f1) "n"
     have f1:G1 c=some (.lst (([]:List Int).map V.int)):=f1;have nc:c≠g:=aG (ak L.o hc);show#[g,_,_,rfl,rfl,s1 _ _ L.o,aM (by rw[aC,L.n];lia),?_];have L2:=(L.same s1).app f1 nc;have s2:Same H (upd G1 g (.lst (bs.map V.ref++[.ref c]))):=fun b o e=>by rw[ao (ak e hg)];exact s1 _ _ (sG b o e)
     generalize upd G1 g (.lst (bs.map V.ref++[.ref c]))=GX at L2 s2 ⊢
     k_dat lqn "c"
     have lp:p<(ms++[[]]).length:=by rw[dw];show p<ms.length+1;lia
     have lp8:(ms++[[]]).length<=800:=by rw[dw];show ms.length+1<=800;lia
     have b92:∀l∈(ms++[[]]).drop p,l.length<=62:=fun l hl=>by
      rw[he,ajI]at hl;rw[cC.mp hl];exact bF _
     have fr2:∀x∈bs++[c],x∈bs0\/H x=none:=fun x hx=>by
      rcases bO.mp hx with z|z
      ·exact fr x z
      ·rw[cC.mp z];exact .inr (sG.free hc)
     have eq2:=(RG.afz (t:=t) he (show k≠0 by lia)).trans eq;obtain⟨b,l,eb,el,hb⟩:=L2.at lp;have hl9:l.length<=62:=b92 l (by rw[RG.d9 el];exact cJ);have e9:∀m,∀l∈((ms++[[]]).set p m).drop (p+1),l.length<=62:=fun m l hl=>b92 l (by rw[RG.set_drop]at hl;rw[RG.d9 el];exact cV _ hl);have st:=RG.R9 (t:=t) el (show k≠0 by lia);have kh:k / 2*2 ^ (p+1)<=w.toNat:=by
      rw[pA,Dz (2 ^ p) 2,<-Dv];exact cH (Qw _ tb_g%) kp
     have ek:((k:Int) / 2)=((k / 2:Nat):Int):=by lia
     have ep:((p:Int)+1)=((p+1:Nat):Int):=by lia
     show#[_,rfl,_,_,rfl,rfl,(by show(0:Int)<2;decide),rfl,_,rfl,cW (fun hb2=>?_) (fun hb2=>?_)]
     ·have o2:k % 2=1:=by have:=V.int.inj (mP hb2);lia
      rw[mB o2]at st;show#[_,rfl,_,rfl,dj (.inl (.inl L2.o)) (v:=.ref b) (LL.ix eb) #[_,rfl,tb_g%,fun c1 hc1=>?_]]
      k_dat (nwA hc1,J1,y1,z1) "n"
      show#[b,c1,_,_,rfl,rfl,y1 _ _ hb,z1,eF (aM (by rw[aC];show l.length+1<=1000;lia)),fun c2 hc2=>?_];rw[show l.map V.int++[V.int t]=(l++[t]).map V.int by rw[bM];rfl]
      k_dat (nwA hc2,J2,y2,z2) "n"
      refine .inr #[c2,l++[t],rfl,.inl (.inl z2),by rw[dw];show l.length+1<64;lia,fun c3 ns hc3 pm so=>?_];obtain rfl:=RG.vR pm so
      k_dat (nwA hc3,J3,y3,z3) "n"
      have y03:=y1.trans (y2.trans y3);have M3:=L2.same y03;have nc3:c3≠g:=aG (ak ((y1.trans y2) _ _ L2.o) hc3);show#[_,rfl,_,rfl,.inl #[g,_,_,p,rfl,rfl,M3.o,rH (by rwa[aC,L2.n]),?_]];have M4:=M3.set (i:=p) z3 nc3;have y4:Same H (upd J3 g (.lst (((bs++[c]).map V.ref).set p (.ref c3)))):=fun b o e=>by rw[ao (ak e hg)];exact y03 _ _ (s2 b o e)
      generalize upd J3 g (.lst (((bs++[c]).map V.ref).set p (.ref c3)))=J4 at M4 y4 ⊢;show#[_,rfl,_,_,rfl,rfl,_,rfl,_,_,rfl,rfl,#[tb_g%,tb_g%],?_,?_]
      ·show#[_,_,p+1,k / 2,by rw [<- ek,<- ep];rfl,M4,y4,by rw [kO];lia,by rw [kO];lia,kh,st.trans eq2,e9 _,fun c hc=>by
        rcases Bw hc with z|z
        ·exact fr2 c z
        ·rw [z];exact .inr ((s2.trans (y1.trans y2)).free hc3)]
      ·show((k:Int) / 2).toNat<(k:Int).toNat;lia
     ·have o2:¬ k % 2=1:=fun z=>hb2 (mN (mM V.int tb_g%));rw[mw o2,RG.G9 el]at st;have e9':=e9 l;rw[RG.G9 el]at e9';show#[_,rfl,_,_,rfl,rfl,_,rfl,_,_,rfl,rfl,#[tb_g%,tb_g%],?_,?_]
      ·show#[(bs++[c]),(ms++[[]]),p+1,k / 2,by rw[<-ek,<-ep];rfl,L2,s2,by lia,by lia,kh,st.trans eq2,e9',fr2]
      ·show((k:Int) / 2).toNat<(k:Int).toNat;lia
    ·have he:¬ p=ms.length:=fun z=>he (mN (mM V.int (by rw[aC,L.n];lia)));have lp:p<ms.length:=by lia
     obtain⟨b,l,eb,el,hb⟩:=L.at lp;have hl9:l.length<=62:=b9 l (by rw[RG.d9 el];exact cJ);have e9:∀m,∀l∈(ms.set p m).drop (p+1),l.length<=62:=fun m l hl=>b9 l (by rw[RG.set_drop]at hl;rw[RG.d9 el];exact cV _ hl);have st:=RG.R9 (t:=t) el (show k≠0 by lia);have kh:k / 2*2 ^ (p+1)<=w.toNat:=by
      rw[pA,Dz (2 ^ p) 2,<-Dv];exact cH (Qw _ tb_g%) kp
     have ek:((k:Int) / 2)=((k / 2:Nat):Int):=by lia
     have ep:((p:Int)+1)=((p+1:Nat):Int):=by lia
     show#[_,rfl,_,_,rfl,rfl,(by show(0:Int)<2;decide),rfl,_,rfl,cW (fun hb2=>?_) (fun hb2=>?_)]
     ·have o2:k % 2=1:=by have:=V.int.inj (mP hb2);lia
      rw[mB o2]at st;show#[_,rfl,_,rfl,dj (.inl (.inl L.o)) (v:=.ref b) (LL.ix eb) #[_,rfl,tb_g%,fun c1 hc1=>?_]]
      k_dat (nwA hc1,J1,y1,z1) "n"
      show#[b,c1,_,_,rfl,rfl,y1 _ _ hb,z1,eF (aM (by rw[aC];show l.length+1<=1000;lia)),fun c2 hc2=>?_];rw[show l.map V.int++[V.int t]=(l++[t]).map V.int by rw[bM];rfl]
      k_dat (nwA hc2,J2,y2,z2) "n"
      refine .inr #[c2,l++[t],rfl,.inl (.inl z2),by rw[dw];show l.length+1<64;lia,fun c3 ns hc3 pm so=>?_];obtain rfl:=RG.vR pm so
      k_dat (nwA hc3,J3,y3,z3) "n"
      have y03:=y1.trans (y2.trans y3);have M3:=L.same y03;have nc3:c3≠g:=aG (ak ((y1.trans y2) _ _ L.o) hc3);show#[_,rfl,_,rfl,.inl #[g,_,_,p,rfl,rfl,M3.o,rH (by rwa[aC,L.n]),?_]];have M4:=M3.set (i:=p) z3 nc3;have y4:Same H (upd J3 g (.lst ((bs.map V.ref).set p (.ref c3)))):=fun b o e=>by rw[ao (ak e hg)];exact y03 _ _ (sG b o e)
      generalize upd J3 g (.lst ((bs.map V.ref).set p (.ref c3)))=J4 at M4 y4 ⊢;show#[_,rfl,_,_,rfl,rfl,_,rfl,_,_,rfl,rfl,#[tb_g%,tb_g%],?_,?_]
      ·show#[_,_,p+1,k / 2,by rw [<- ek,<- ep];rfl,M4,y4,by rw [kO];lia,by rw [kO];lia,kh,st.trans eq,e9 _,fun c hc=>by
        rcases Bw hc with z|z
        ·exact fr c z
        ·rw [z];exact .inr ((sG.trans (y1.trans y2)).free hc3)]
      ·show((k:Int) / 2).toNat<(k:Int).toNat;lia
     ·have o2:¬ k % 2=1:=fun z=>hb2 (mN (mM V.int tb_g%));rw[mw o2,RG.G9 el]at st;have e9':=e9 l;rw[RG.G9 el]at e9';show#[_,rfl,_,_,rfl,rfl,_,rfl,_,_,rfl,rfl,#[tb_g%,tb_g%],?_,?_]
      ·show#[bs,ms,p+1,k / 2,by rw[<-ek,<-ep];rfl,L,sG,by lia,by lia,kh,st.trans eq,e9',fr]
      ·show((k:Int) / 2).toNat<(k:Int).toNat;lia
   ·have k0:k=0:=by have:¬ (0:Int)<k:=fun z=>hc (mN z);lia
    subst k0;rw[RG.fQ,Cv]at eq;rw[eq]at L;show#[_,rfl,q g bs G hg L sG fr]
  ·exact fun σ H Q Q' hq h=>dJ (gY (aP 5) (lM _)) σ H Q Q' hq h
noncomputable def auC:Sp:=fun vs H Q _=>Ex2 fun b l=>ou (vs=[.ref b]) (H b=some (.lst (l.map V.int))) (∀c H',H c=none->H' c=some (.lst ((RG.lft l).map V.int))->Same H H'->Q (.ref c) H')
theorem Uo(T:Tx K mg A):FnK P w base T.tD CX0 1 auC:=by
 k_dat (T.tD,T.tD.ok,Ue) "f"
 ·obtain⟨b,l,rfl,hb,q⟩:=h;have h2:(l.length:Int)-(l.length:Int) % 2=((l.length-l.length % 2:Nat):Int):=by lia
  show#[_,by k_dat ([],[],[]) "p",?_];show#[_,rfl,_,rfl,eX (.inl (.inl hb)) #[_,rfl,eX (.inl (.inl hb)) #[_,_,rfl,rfl,(by show(0:Int)<2;decide),_,_,rfl,rfl,_,rfl,b,_,rfl,.inl (.inl hb),fun c hc=>?_]]];rw[aC,h2];have e:abn (l.map V.int) (some ((l.length-l.length % 2:Nat):Int)) none=(RG.lft l).map V.int:=by
   rw[RG.abL,XJ];unfold abn HT.sIx;simp only[aC];rw[mw tb_g%];rw[jD]
   ·congr 1;simp
   ·rw[CN,aC];simp
  rw[e];exact q c _ hc aj (Same.new hc)
noncomputable def aqD:Sp:=fun vs H Q _=>Ex3 fun b l tn=>ou (vs=[.ref b,.int tn]) (H b=some (.lst (l.map V.int))) (∀c H',H c=none->H' c=some (.lst ((RG.pick (decide (tn % 2=1)) l).map V.int))->Same H H'->Q (.ref c) H')
theorem aoz(T:Tx K mg A):FnK P w base T.aaD CX0 1 aqD:=by
 k_dat (T.aaD,T.aaD.ok,aov) "f"
 ·obtain⟨b,l,tn,rfl,hb,q⟩:=h;show#[_,by k_dat ([ais],[],[]) "p",?_];show#[_,rfl,_,rfl,_,_,rfl,rfl,(by show(0:Int)<2;decide),_,rfl,?_];show#[_,rfl,eX (.inl (.inl hb)) #[_,rfl,eX (.inl (.inl hb)) #[_,_,rfl,rfl,(by show(0:Int)<2;decide),_,_,rfl,rfl,_,rfl,?_]]];show#[_,rfl,_,rfl,tb_g%,b,_,rfl,.inl (.inl hb),fun c hc=>?_];rw[aC,ait tb_g%];exact q c _ hc aj (Same.new hc)
noncomputable def auD(A:Ad):Sp:=fun vs H Q _=>Ex8 fun p dx r T ov un tn st=>Ex3 fun mi ma rf=>ou (vs=[.ref p,.int st]) (H p=some (.ins A.C'0 dx (rg (.int r) (.int T) (.int ov) (.int un) (.int tn) mi ma rf))) (Q .non (upd H p (.ins A.C'0 dx (rg (.int r) (.int T) (.int (if tn % 2=0 then ov+st else ov)) (.int (if tn % 2=0 then un else un+st)) (.int (tn+1)) mi ma rf))))
theorem V0(T:Tx K mg A):FnM P w mg base T.v8 CX0 1 (auD A):=by
 k_dat (T.v8,T.v8.ok,VJ) "f"
 ·obtain⟨p,dx,r,T',ov,un,tn,st,mi,ma,rf,rfl,hp,q⟩:=h;show#[_,by k_dat ([],[],[]) "p",?_]
  k_dat lq "c"
  show#[_,rfl,rdG hp (qN T) #[_,_,rfl,rfl,(by show(0:Int)<2;decide),rfl,_,rfl,cW (fun h=>?_) (fun h=>?_)]]
  ·have h0:tn % 2=0:=V.int.inj (mP h);rw[mB h0,mB h0]at q;show#[_,rfl,rdG hp (Ia T) #[_,rfl,_,_,rfl,rfl,_,rfl,p,_,dx,_,rfl,hp,T.gH,T.aiJ,tb_g%,?_]];rw[M6];show#[_,rfl,rdG aj (qN T) #[_,_,rfl,rfl,_,rfl,p,_,dx,_,rfl,aj,T.gH,T.TX,tb_g%,?_]];rwa[wG,cB]
  ·have h0:¬ tn % 2=0:=fun z=>h (mN (mM V.int z));rw[mw h0,mw h0]at q;show#[_,rfl,rdG hp (z8 T) #[_,rfl,_,_,rfl,rfl,_,rfl,p,_,dx,_,rfl,hp,T.gH,T.aiK,tb_g%,?_]];rw[Ie];show#[_,rfl,rdG aj (qN T) #[_,_,rfl,rfl,_,rfl,p,_,dx,_,rfl,aj,T.gH,T.TX,tb_g%,?_]];rwa[wG,cB]
theorem LL.but{H H':Hp}{a p C e:Addr}{bs:List Addr}{ls:RG.Ls}{fs:List (Str × V)}(h:LL H a bs ls)(b:But p H H')(hp:H p=some (.ins C e fs)):LL H' a bs ls:=
 #[b _ _ h.o (fU h.o hp (by intro z;cases z)),h.n,fun i c l e1 e2=>b _ _ (h.e i c l e1 e2) (fU (h.e i c l e1 e2) hp (by intro z;cases z)),h.x]
noncomputable def placeOf(σ:St)(_:Hp):Nat:=match σ with
 |[_,_,_,some (.int n),_,_]=>(1000-n).toNat
 |_=>0
noncomputable def aoA(A:Ad):Sp:=fun vs H Q _=>Ex8 fun p dx a bs ls r tt ov=>Ex5 fun un tn mi ma rf=>z7 (vs=[.ref p,.ref a]) (H p=some (.ins A.C'0 dx (rg (.int r) (.int tt) (.int ov) (.int un) (.int tn) (oV mi) (oV ma) rf))) (LL H a bs ls) (2<=r) (r<=64) (((∀l∈ls,l.length<=31)\/∀l∈ls,(l.length:Int)<=r)) (ls.length<=400) (RG.val ls<2 ^ 500/\∀g bs' out tn' ov' un' H',RG.Stl r 0 tn ov un ls out tn' ov' un'->H g=none->LL H' g bs' out->H' p=some (.ins A.C'0 dx (rg (.int r) (.int tt) (.int ov') (.int un') (.int tn') (oV mi) (oV ma) (.ref g)))->But p H H'->out.length<=501->(∀c∈bs',c∈bs\/H c=none)->Q .non H')
theorem xJ(T:Tx K mg A):FnM P w mg base T.ql CX0 2 (aoA A):=by
 k_dat (T.ql,T.ql.ok,wZ) "f"
 ·obtain⟨p,dx,a,bs0,ls,r,tt,ov,un,tn,mi,ma,rf,rfl,hp,hL,r2,r64,h2,h4,h5,q⟩:=h;show#[_,by (k_dat ([hdA],[wZ.nd,tY (Rv rfl) (by rfl) T.aaG ad9 ?_,aD (Uo T) ?_,aD (aoz T) ?_,bZ (jX rfl) (by rfl) T.fM Gh ?_,aU ?_ T.gH (V0 T) ?_],[]) "p"; k_dat dX "h"; k_dat sV "h"; k_dat dX "h"; k_dat dX "h"; k_dat dX "h"),?_];show#[_,rfl,.inl #[a,_,rfl,.inl (.inl (.inl hL.o)),fun g hg=>?_]];have L0:=hL.copy hg;have s0:Same H (upd H g (.lst (bs0.map V.ref))):=Same.new hg;generalize upd H g (.lst (bs0.map V.ref))=H1 at L0 s0 ⊢
  k_dat lqg "c"
  refine tW (fun σ G=>Ex7 fun(bs:List Addr) (ms:RG.Ls) (j:Nat) (tn2 ov2 un2:Int) (x:Option V)=>Oh (σ=[some (.ref p),some (.ref a),some (.ref g),some (.int (j:Int)),some (.int (2 ^ j)),x]) (LL G g bs ms) (G p=some (.ins A.C'0 dx (rg (.int r) (.int tt) (.int ov2) (.int un2) (.int tn2) (oV mi) (oV ma) rf))) (But p H G) (RG.Run r tn ov un ls j tn2 ov2 un2 ms) (ms.length<=501) (∀c∈bs,c∈bs0\/H c=none)) placeOf
   #[bs0,ls,0,tn,ov,un,none,rfl,L0,s0 _ _ hp,s0.but p,RG.Run.start,by lia,fun c hc=>.inl hc] ?_ ?_
  ·rintro σ G ⟨bs,ms,j,tn2,ov2,un2,x,rfl,L,gp,bt,R,ln,fr⟩;have jl:=R.le;have ep:((j:Int)+1)=((j+1:Nat):Int):=by lia
   show#[_,rfl,_,rfl,eX (.inl (.inl L.o)) #[_,_,rfl,rfl,_,rfl,cW (fun hc=>?_) (fun hc=>?_)]]
   ·k_dat lq "c"
    have hj:j<ms.length:=by
     have:=mP hc;rw[aC,L.n]at this;lia
    obtain⟨b,l,eb,el,hb⟩:=L.at hj;have nbg:b≠g:=fun z=>L.x (by rw[<-z];exact mv eb);show#[_,rfl,_,rfl,dj (.inl (.inl L.o)) (v:=.ref b) (LL.ix eb) ?_]
    k_dat lqg "c"
    show#[_,rfl,eX (.inl (.inl hb)) #[_,rfl,rdG gp (Pk T) #[_,_,rfl,rfl,_,rfl,cW (fun hg2=>?_) (fun hg2=>?_)]]]
    ·k_dat lq "c"
     have hgt:r<(l.length:Int):=by have:=mP hg2;rwa[aC]at this
     have hs:∀l∈ls,l.length<=31:=h2.resolve_right fun z=>by
      have e:=R.b0 z;have:=z l (by rw[<-e];exact mv el);lia
     have ll4:=R.b1 hs l (mv el);have hl2:2<=l.length:=by lia
     have hbig:=R.big el (fun z=>by rw[z]at hl2;exact mI hl2 tb_g%);have j5:j<500:=by
      rcases lZ j 500 with z|z
      ·exact z
      ·have:=JD (show 0<2 by decide) z;lia
     show#[_,rfl,_,_,rfl,rfl,_,rfl,eX (.inl (.inl L.o)) #[rfl,_,rfl,cW (fun he=>?_) (fun he=>?_)]]
     ·have he:j+1=ms.length:=by
       have:=V.int.inj (mP he);rw[aC,L.n]at this;lia
      show#[_,rfl,.inl #[rfl,_,.inl (.inl L.o)],tb_g%,fun c hc0=>?_]
      k_dat (nwA hc0,G1,s1,f1) "n"
      have f1:G1 c=some (.lst (([]:List Int).map V.int)):=f1;have nc:c≠g:=aG (ak L.o hc0);show#[g,_,_,rfl,rfl,s1 _ _ L.o,aM (by rw[aC,L.n];lia),?_]
      k_dat lqn "c"
      have LX:=(L.same s1).app f1 nc;have gx:∀x o,G x=some o->x≠g->(upd G1 g (.lst (bs.map V.ref++[.ref c]))) x=some o:=fun x o e n=>by rw[ao n];exact s1 _ _ e
      have pX:=gx _ _ gp (fU gp L.o (by intro z;cases z));have bX:=gx _ _ hb nbg;have btX:But p H (upd G1 g (.lst (bs.map V.ref++[.ref c]))):=fun b o e n=>gx _ _ (bt b o e n) (ak e hg);generalize upd G1 g (.lst (bs.map V.ref++[.ref c]))=GX at LX pX bX btX ⊢;obtain⟨nx,MR⟩:∃nx:List Int,RG.More j ms (ms++[[]]) nx:=#[[],.inr #[he,rfl,rfl]];have hb:=bX;have SG:Same GX GX:=Same.refl _;have fr2:∀x∈bs++[c],x∈bs0\/H x=none:=fun x hx=>by
       rcases bO.mp hx with z|z
       ·exact fr x z
       ·rw[cC.mp z];exact .inr (gb bt hc0 fun y=>by rw[y,gp]at hc0;cases hc0)
      have LN:(ms++[[]]).length<=501:=by rw[dw];show ms.length+1<=501;lia
      obtain⟨h1,h2,_,_,_⟩:=MR.at el;obtain⟨hp1,_⟩:=dh.mp h1;obtain⟨hp2,_⟩:=dh.mp h2;have hb':GX b=some (.lst (l.map V.int)):=SG _ _ hb;show#[_,rfl,b,l,rfl,hb',fun c1 G1 nc1 f1 s1=>?_];have L1:=LX.same s1;have n1:c1≠g:=aG (ak LX.o nc1);show#[_,rfl,_,rfl,.inl #[g,_,_,j,rfl,rfl,L1.o,rH (by rwa[aC,LX.n]),?_]];have L2:=L1.set (i:=j) f1 n1;have pg:p≠g:=fU (s1 _ _ pX) L1.o (by intro z;cases z);have u2:∀x o,G1 x=some o->x≠g->(upd G1 g (.lst (((bs++[c]).map V.ref).set j (.ref c1)))) x=some o:=fun x o e n=>by rwa[ao n]
      have po2:=u2 _ _ (s1 _ _ pX) pg;have hb2:=u2 _ _ (s1 _ _ hb') nbg;have s02:But p H (upd G1 g (.lst (((bs++[c]).map V.ref).set j (.ref c1)))):=fun x o e n=>u2 _ _ (s1 _ _ (btX x o e n)) (ak e hg);generalize upd G1 g (.lst (((bs++[c]).map V.ref).set j (.ref c1)))=G2 at L2 po2 hb2 s02 ⊢;have e2:((ms++[[]]).set j (RG.lft l))[j+1]? = some nx:=by rwa[Jm tb_g%]
      obtain⟨b3,l3,eb3,el3,hb3⟩:=L2.at (i:=j+1) (by rwa[kO]);obtain rfl:l3=nx:=by rw[e2]at el3;exact(cA el3).symm
      have nx2:l3.length<=31:=by
       rcases MR with⟨_,e⟩|⟨_,_,e⟩
       ·exact R.b2 hs l3 (by rw[RG.d9 e];exact cJ)
       ·rw[e];exact bF _
      show#[_,rfl,_,rfl,_,_,rfl,rfl,dj (.inl (.inl L2.o)) (v:=.ref b3) (by rw[ep];exact LL.ix eb3) ?_];show#[_,rfl,_,rfl,rdG po2 (qN T) #[b,l,tn2,rfl,hb2,fun c4 G4 nc4 f4 s4=>?_]];have lp:=RG.mK (decide (tn2 % 2=1)) l;show#[b3,c4,_,_,rfl,rfl,s4 _ _ hb3,f4,eF (aM (by rw[aC,aC];lia)),fun c5 nc5=>?_];rw[<-bM]
      k_dat (nwA nc5,G5,s5,f5) "n"
      refine .inr #[c5,_,rfl,.inl (.inl f5),by rw[dw];lia,fun c6 ns nc6 pm so=>?_];obtain rfl:=RG.vR pm so
      k_dat (nwA nc6,G6,s6,f6) "n"
      have s26:=s4.trans (s5.trans s6);have L6:=L2.same s26;have n6:c6≠g:=aG (ak ((s4.trans s5) _ _ L2.o) nc6);show#[_,rfl,_,rfl,_,_,rfl,rfl,.inl #[g,_,_,j+1,rfl,rfl,L6.o,by rw[ep];exact rH (by rwa[aC,kO,LX.n]),?_]];have L7:=L6.set (i:=j+1) f6 n6;have po7:(upd G6 g (.lst ((((bs++[c]).set j c1).map V.ref).set (j+1) (.ref c6)))) p=_:=(ao pg).trans (s26 _ _ po2);have s07:But p H (upd G6 g (.lst ((((bs++[c]).set j c1).map V.ref).set (j+1) (.ref c6)))):=fun x o e n=>by rw[ao (ak e hg)];exact s26 _ _ (s02 x o e n)
      generalize upd G6 g (.lst ((((bs++[c]).set j c1).map V.ref).set (j+1) (.ref c6)))=G7 at L7 po7 s07 ⊢;show#[_,rfl,p,dx,_,rfl,po7,rgN tb_g%,_,rfl,p,dx,r,tt,ov2,un2,tn2,2 ^ j,oV mi,oV ma,rf,rfl,po7,?_];have R8:=R.turn MR el hgt
      k_dat (nbA,G8,zG8,po8) "n"
      have L8:LL G8 g _ _:=L7.but zG8 po7;have s08:But p H G8:=s07.trans zG8;show#[_,rfl,_,_,rfl,rfl,_,rfl,_,_,rfl,rfl,dB tb_g% tb_g%,?_,?_]
      ·show#[_,_,j+1,_,_,_,_,by rw [<- ep,mj];rfl,L8,po8,s08,R8,by rw [kO,kO];exact LN,fun c hc=>by
        rcases Bw hc with z|z
        ·rcases Bw z with z|z
         ·exact fr2 c z
         ·rw[z];exact .inr (gb btX nc1 fun y=>by rw[y,pX]at nc1;cases nc1)
        ·rw [z];exact .inr (gb (s02.trans ((s4.trans s5).but p)) nc6 fun y=>by rw [y,(s4.trans s5) _ _ po2] at nc6;cases nc6)]
      ·show(1000-((j:Int)+1)).toNat<(1000-(j:Int)).toNat;lia
     ·have he:¬ j+1=ms.length:=fun z=>he (mN (mM V.int (by rw[aC,L.n];lia)));obtain⟨b',nx,eb',el',_⟩:=L.at (i:=j+1) tb_g%;have MR:RG.More j ms ms nx:=.inl #[rfl,el'];have SG:Same G G:=Same.refl _;have LN:=ln;obtain⟨h1,h2,_,_,_⟩:=MR.at el;obtain⟨hp1,_⟩:=dh.mp h1;obtain⟨hp2,_⟩:=dh.mp h2;have hb':G b=some (.lst (l.map V.int)):=SG _ _ hb;show#[_,rfl,b,l,rfl,hb',fun c1 G1 nc1 f1 s1=>?_];have L1:=L.same s1;have n1:c1≠g:=aG (ak L.o nc1);show#[_,rfl,_,rfl,.inl #[g,_,_,j,rfl,rfl,L1.o,rH (by rwa[aC,L.n]),?_]];have L2:=L1.set (i:=j) f1 n1;have pg:p≠g:=fU (s1 _ _ gp) L1.o (by intro z;cases z);have u2:∀x o,G1 x=some o->x≠g->(upd G1 g (.lst ((bs.map V.ref).set j (.ref c1)))) x=some o:=fun x o e n=>by rwa[ao n]
      have po2:=u2 _ _ (s1 _ _ gp) pg;have hb2:=u2 _ _ (s1 _ _ hb') nbg;have s02:But p H (upd G1 g (.lst ((bs.map V.ref).set j (.ref c1)))):=fun x o e n=>u2 _ _ (s1 _ _ (bt x o e n)) (ak e hg);generalize upd G1 g (.lst ((bs.map V.ref).set j (.ref c1)))=G2 at L2 po2 hb2 s02 ⊢;have e2:(ms.set j (RG.lft l))[j+1]? = some nx:=by rwa[Jm tb_g%]
      obtain⟨b3,l3,eb3,el3,hb3⟩:=L2.at (i:=j+1) (by rwa[kO]);obtain rfl:l3=nx:=by rw[e2]at el3;exact(cA el3).symm
      have nx2:l3.length<=31:=by
       rcases MR with⟨_,e⟩|⟨_,_,e⟩
       ·exact R.b2 hs l3 (by rw[RG.d9 e];exact cJ)
       ·rw[e];exact bF _
      show#[_,rfl,_,rfl,_,_,rfl,rfl,dj (.inl (.inl L2.o)) (v:=.ref b3) (by rw[ep];exact LL.ix eb3) ?_];show#[_,rfl,_,rfl,rdG po2 (qN T) #[b,l,tn2,rfl,hb2,fun c4 G4 nc4 f4 s4=>?_]];have lp:=RG.mK (decide (tn2 % 2=1)) l;show#[b3,c4,_,_,rfl,rfl,s4 _ _ hb3,f4,eF (aM (by rw[aC,aC];lia)),fun c5 nc5=>?_];rw[<-bM]
      k_dat (nwA nc5,G5,s5,f5) "n"
      refine .inr #[c5,_,rfl,.inl (.inl f5),by rw[dw];lia,fun c6 ns nc6 pm so=>?_];obtain rfl:=RG.vR pm so
      k_dat (nwA nc6,G6,s6,f6) "n"
      have s26:=s4.trans (s5.trans s6);have L6:=L2.same s26;have n6:c6≠g:=aG (ak ((s4.trans s5) _ _ L2.o) nc6);show#[_,rfl,_,rfl,_,_,rfl,rfl,.inl #[g,_,_,j+1,rfl,rfl,L6.o,by rw[ep];exact rH (by rwa[aC,kO,L.n]),?_]];have L7:=L6.set (i:=j+1) f6 n6;have po7:(upd G6 g (.lst (((bs.set j c1).map V.ref).set (j+1) (.ref c6)))) p=_:=(ao pg).trans (s26 _ _ po2);have s07:But p H (upd G6 g (.lst (((bs.set j c1).map V.ref).set (j+1) (.ref c6)))):=fun x o e n=>by rw[ao (ak e hg)];exact s26 _ _ (s02 x o e n)
      generalize upd G6 g (.lst (((bs.set j c1).map V.ref).set (j+1) (.ref c6)))=G7 at L7 po7 s07 ⊢;show#[_,rfl,p,dx,_,rfl,po7,rgN tb_g%,_,rfl,p,dx,r,tt,ov2,un2,tn2,2 ^ j,oV mi,oV ma,rf,rfl,po7,?_];have R8:=R.turn MR el hgt
      k_dat (nbA,G8,zG8,po8) "n"
      have L8:LL G8 g _ _:=L7.but zG8 po7;have s08:But p H G8:=s07.trans zG8;show#[_,rfl,_,_,rfl,rfl,_,rfl,_,_,rfl,rfl,dB tb_g% tb_g%,?_,?_]
      ·show#[_,_,j+1,_,_,_,_,by rw [<- ep,mj];rfl,L8,po8,s08,R8,by rw [kO,kO];exact LN,fun c hc=>by
        rcases Bw hc with z|z
        ·rcases Bw z with z|z
         ·exact fr c z
         ·rw[z];exact .inr (gb bt nc1 fun y=>by rw[y,gp]at nc1;cases nc1)
        ·rw [z];exact .inr (gb (s02.trans ((s4.trans s5).but p)) nc6 fun y=>by rw [y,(s4.trans s5) _ _ po2] at nc6;cases nc6)]
      ·show(1000-((j:Int)+1)).toNat<(1000-(j:Int)).toNat;lia
    ·have hle:(l.length:Int)<=r:=by
      have:¬ r<((l.map V.int).length:Int):=fun z=>hg2 (mN z);rw[aC]at this;lia
     show#[_,rfl,_,_,rfl,rfl,_,rfl,_,_,rfl,rfl,dB tb_g% tb_g%,?_,?_]
     ·show#[bs,ms,j+1,_,_,_,_,by rw[<-ep,mj];rfl,L,gp,bt,R.keep el hle,ln,fr]
     ·show(1000-((j:Int)+1)).toNat<(1000-(j:Int)).toNat;lia
   ·have hj:ms.length<=j:=by
     have:¬ (j:Int)<((bs.map V.ref).length:Int):=fun z=>hc (mN z);rw[aC,L.n]at this;lia
    show#[_,rfl,_,rfl,p,_,dx,_,rfl,gp,T.gH,T.acd,tb_g%,?_];rw[aaK];exact q g bs ms tn2 ov2 un2 _ (R.done hj) hg (L.but But.upd gp) aj (bt.trans But.upd) ln fr
  ·exact fun σ H Q Q' hq h=>dJ (gY (aP 3) (Sy (gK (aP 2) uz))) σ H Q Q' hq h
noncomputable def lo2:Option Int->Option Int->Option Int
 |none,b=>b
 |a,none=>a
 |some a,some b=>some (min a b)
noncomputable def hi2:Option Int->Option Int->Option Int
 |none,b=>b
 |a,none=>a
 |some a,some b=>some (max a b)
noncomputable def ahk(a b:Option Int):List Int:=a.toList++b.toList
theorem aqE(h:Best true .non (ahk a b) v):v=oV (lo2 a b):=by
 rcases h with⟨e,rfl⟩|⟨m,rfl,hm,hb⟩
 ·cases a <;> cases b <;> first|rfl|cases e
 ·cases a with
  |none=>cases b with
   |none=>cases hm
   |some b=>rw[cC.mp hm];rfl
  |some a=>cases b with
   |none=>rw[cC.mp hm];rfl
   |some b =>
    have h1:=hb a cJ;have h2:=hb b (cV _ cJ);rw[mB rfl]at h1 h2;have:m=min a b:=by
     rcases aX.mp hm with z|z
     ·lia
     ·have:=cC.mp z;lia
    rw[this];rfl
theorem aqF(h:Best false .non (ahk a b) v):v=oV (hi2 a b):=by
 rcases h with⟨e,rfl⟩|⟨m,rfl,hm,hb⟩
 ·cases a <;> cases b <;> first|rfl|cases e
 ·cases a with
  |none=>cases b with
   |none=>cases hm
   |some b=>rw[cC.mp hm];rfl
  |some a=>cases b with
   |none=>rw[cC.mp hm];rfl
   |some b =>
    have h1:=hb a cJ;have h2:=hb b (cV _ cJ);rw[mw tb_g%]at h1 h2;have:m=max a b:=by
     rcases aX.mp hm with z|z
     ·lia
     ·have:=cC.mp z;lia
    rw[this];rfl
noncomputable def known(a b:Option Int)(i:Nat):List V:=(([a,b].take i).flatMap Option.toList).map V.int
noncomputable def Ih(f:Option Int->Option Int->Option Int):Sp:=fun vs H Q _=>Ex2 fun a b=>vs=[oV a,oV b]/\∀H',Same H H'->Q (oV (f a b)) H'
theorem arN(T:Tx K mg A):FnK P w base T.HF CX0 1 (Ih lo2)/\FnK P w base T.Bh CX0 1 (Ih hi2):=by
 show#[#[T.HF,T.HF.ok K6 (fun vs H Q E h=>?_) (fun cdv B outer s H vs Q E hr h=>?_)],#[T.Bh,T.Bh.ok Fy (fun vs H Q E h=>?_) (fun cdv B outer s H vs Q E hr h=>?_)]]
 ·obtain⟨a,b,rfl,_⟩:=h;rfl
 rotate_left
 ·obtain⟨a,b,rfl,_⟩:=h;rfl
 obtain⟨a,b,rfl,q⟩:=h;show#[_,by k_dat ([amq],[Fy.nd,abV false T.Mz ?_ ?_ rfl],[mG 2 Fy.nd [] Q16 [] ?_ (fun _ _ _ _=>(lU (gw Zx (pv 0) Zt (jU _)))) (fun _ _ _ _=>(pv 0))]) "p",?_];rotate_left
 obtain⟨a,b,rfl,q⟩:=h;show#[_,by k_dat ([amq],[K6.nd,abV true T.acs ?_ ?_ rfl],[mG 2 K6.nd [] Q16 [] ?_ (fun _ _ _ _=>(lU (gw Zx (pv 0) Zt (jU _)))) (fun _ _ _ _=>(pv 0))]) "p",?_];all_goals
  show#[_,rfl,_,rfl,tb_g%,fun t ht=>?_]
  k_dat (nwA ht,H1,s1,f1) "n"
  show#[t,rfl,#[_,.inl (.inl f1)],fun D hD=>?_];refine afB (K:=K) (a:=t) (xs:=[oV a,oV b]) (fun i ys G=>ys=known a b i/\G=upd H1 D (.lst ys)) #[rfl,rfl] ?_ ?_ ?_ ?_ ?_
  ·rintro i ys G hi ⟨rfl,rfl⟩;refine⟨.inl (.inl ((Same.new hD) _ _ f1)),aj,aM ?_⟩;unfold known;cases a <;> cases b <;> match i,hi with
    |0,_=>simp
    |1,_=>simp
    |2,_=>simp
  ·rintro i ys G x hx ⟨rfl,rfl⟩
   match i,hx with
   |0,hx =>
    obtain rfl:oV a=x:=cA hx;cases a with
    |none=>show#[_,rfl,rfl,_,rfl,cW (fun h=>mI h tb_g%) (fun _=>#[aj,rfl,rfl])]
    |some z=>show#[_,rfl,rfl,_,rfl,cW (fun _=>#[_,rfl,aj,rfl,by rw[cB]]) (fun h=>mI (show(!decide (V.int z=V.non))=true by rw[mS (by intro y;cases y)];rfl) h)]
   |1,hx =>
    obtain rfl:oV b=x:=cA hx;cases b with
    |none=>show#[_,rfl,rfl,_,rfl,cW (fun h=>mI h tb_g%) (fun _=>#[aj,by cases a <;> rfl,by cases a <;> rfl])]
    |some z=>show#[_,rfl,rfl,_,rfl,cW (fun _=>#[_,rfl,aj,by cases a <;> rfl,by rw[cB]]) (fun h=>mI (show(!decide (V.int z=V.non))=true by rw[mS (by intro y;cases y)];rfl) h)]
  ·rintro ys G ⟨rfl,rfl⟩;have ek:known a b [oV a,oV b].length=(ahk a b).map V.int:=by cases a <;> cases b <;> rfl
   rw[ek];show#[_,rfl,D,ahk a b,rfl,.inl (.inl aj),fun v hv=>?_]
   first|rw[aqE hv]|rw[aqF hv]
   exact q _ (s1.trans (Same.new hD))
  ·exact fun σ H R R' hr h=>dJ (Hh (r:=fun x y H Q=>y=.non/\Q (.bl (!decide (x=.non))) H) (fun x y H Q Q' hq h=>#[h.1,hq _ _ h.2]) (aP 0) (lM _)) σ H R R' hr h
  ·exact aP 0
theorem Xl(T:Tx K mg A):FnK P w base T.HF CX0 1 (Ih lo2):=(arN T).1
theorem Uq(T:Tx K mg A):FnK P w base T.Bh CX0 1 (Ih hi2):=(arN T).2
noncomputable def aqG(A:Ad):Sp:=fun vs H Q _=>Ex3 fun p dx r=>ou (vs=[.ref p,.int r]) (H p=some (.ins A.C'0 dx [])) (∀d H',H d=none->H' p=some (.ins A.C'0 dx (rg (.int r) (.int 0) (.int 0) (.int 0) (.int 0) .non .non (.ref d)))->H' d=some (.lst [])->But p H H'->Q .non H')
theorem Cq(T:Tx K mg A):FnM P w mg base T.v9 CX0 1 (aqG A):=by
 k_dat (T.v9,T.v9.ok,VL) "f"
 ·obtain⟨p,dx,r,rfl,hp,q⟩:=h;show#[_,by k_dat ([],[],[]) "p",?_]
  k_dat lq "c"
  show#[_,rfl,_,rfl,p,_,dx,[],rfl,hp,T.gH,T.na'6,tb_g%,?_];show#[_,rfl,p,_,dx,_,rfl,aj,T.gH,T.aiI,tb_g%,?_];show#[_,rfl,p,_,dx,_,rfl,aj,T.gH,T.aiJ,tb_g%,?_];show#[_,rfl,p,_,dx,_,rfl,aj,T.gH,T.aiK,tb_g%,?_];show#[_,rfl,p,_,dx,_,rfl,aj,T.gH,T.TX,tb_g%,?_];show#[_,rfl,p,_,dx,_,rfl,aj,T.gH,T.Xb,tb_g%,?_];show#[_,rfl,p,_,dx,_,rfl,aj,T.gH,T.Xc,tb_g%,?_];rw[cB,cB,cB,cB,cB,cB];show#[tb_g%,fun d hd=>?_];have npd:p≠d:=fun z=>by rw[<-z,aj]at hd;cases hd
  rw[ao (aG npd)]at hd;show#[_,rfl,p,_,dx,_,rfl,(by rw[ao npd];exact aj),T.gH,T.acd,tb_g%,?_];refine q d _ hd (QS aj (by rw[auy])) (by rw[ao (aG npd),aj]) fun b o e hb=>?_;rwa[ao hb,ao (ak e hd),ao hb]
structure Rn(A:Ad)(H:Hp)(p dx a:Addr)(bs:List Addr)(r tt ov un tn:Int)(mi ma:Option Int)(ls:RG.Ls):Prop where
 o:H p=some (.ins A.C'0 dx (rg (.int r) (.int tt) (.int ov) (.int un) (.int tn) (oV mi) (oV ma) (.ref a)))
 l:LL H a bs ls
section
variable{A:Ad}{r tt ov un tn:Int}
theorem Rn.same(h:Rn A H p dx a bs r tt ov un tn mi ma ls)(s:Same H H'):Rn A H' p dx a bs r tt ov un tn mi ma ls:=#[s _ _ h.o,h.l.same s]
theorem Rn.but(h:Rn A H p dx a bs r tt ov un tn mi ma ls)(b:But q H H')(hq:H q=some (.ins C e fs))(n:p≠q):Rn A H' p dx a bs r tt ov un tn mi ma ls:=#[b _ _ h.o n,h.l.but b hq]
theorem Rn.new(h1:H p=some (.ins A.C'0 dx (rg (.int r) (.int 0) (.int 0) (.int 0) (.int 0) .non .non (.ref d))))(h2:H d=some (.lst [])):Rn A H p dx d [] r 0 0 0 0 none none []:=
 #[h1,#[h2,rfl,fun i b l e=>by (cases i <;> cases e),fun z=>nomatch z]]
end
noncomputable def auE(A:Ad):Sp:=fun vs H Q _=>Ex8 fun p dx a bs r tt ov un=>Ex6 fun tn t w mi ma ls=>z7 (vs=[.ref p,.int t,.int w]) (Rn A H p dx a bs r tt ov un tn mi ma ls) (2<=r) (r<=64) (0<=w) (w<2 ^ 64) (ls.length<=400) (oJ ((∀l∈ls,l.length<=62)) (((∀l∈ls,l.length<=30)\/∀l∈ls,(l.length:Int)+1<=r)) (RG.val ls<2 ^ 400) (∀a' bs' out tn' ov' un' H',RG.Stl r 0 tn ov un (RG.fB t ls w.toNat) out tn' ov' un'->Rn A H' p dx a' bs' r (tt+w) ov' un' tn' (lo2 mi (some t)) (hi2 ma (some t)) out->But p H H'->H a'=none->(∀c∈bs',c∈bs\/H c=none)->Q .non H'))
theorem Ii(T:Tx K mg A):FnM P w mg base T.zR CX0 5 (auE A):=by
 k_dat (T.zR,T.zR.ok,aaH) "f"
 ·obtain⟨p,dx,a,bs,r,tt,ov,un,tn,t,w,mi,ma,ls,rfl,hR,r2,r64,w0,w64,h3,h1,h6,hv,q⟩:=h;show#[_,by k_dat ([],[aD (Xl T) ?_,aD (Uq T) ?_,aD (VR T) ?_,aU ?_ T.gH (xJ T) ?_],[]) "p",?_];show#[_,rfl,rdG hR.o (uG T) #[_,rfl,_,_,rfl,rfl,_,rfl,p,_,dx,_,rfl,hR.o,T.gH,T.aiI,tb_g%,?_]];rw[Ib]
  k_dat (nbA,H1,b1,o1) "n"
  have L1:=hR.l.but b1 hR.o;show#[_,rfl,rdG o1 (Um T) #[_,rfl,mi,some t,rfl,fun H2 s2=>#[_,rfl,p,_,dx,_,rfl,s2 _ _ o1,T.gH,T.Xb,tb_g%,?_]]];rw[Ig]
  k_dat (nbA,H3,b3,o3) "n"
  have L3:=(L1.same s2).but b3 (s2 _ _ o1);have b03:But p H H3:=(b1.trans (s2.but p)).trans b3;show#[_,rfl,rdG o3 (aaJ T) #[_,rfl,ma,some t,rfl,fun H4 s4=>#[_,rfl,p,_,dx,_,rfl,s4 _ _ o3,T.gH,T.Xc,tb_g%,?_]]];rw[M7]
  k_dat (nbA,H5,b5,o5) "n"
  have L5:=(L3.same s4).but b5 (s4 _ _ o3);have b05:But p H H5:=(b03.trans (s4.but p)).trans b5;show#[_,rfl,p,dx,_,rfl,o5,rgN tb_g%,?_];show#[_,rfl,rdG o5 (qO T) #[_,rfl,_,rfl,a,bs,ls,t,w,rfl,L5,w0,w64,by lia,fun l hl=>by have:=h1 l hl;lia,fun g bs' H6 ng L6 s6 fr6=>?_]];show#[p,dx,g,bs',_,r,tt+w,ov,un,tn,lo2 mi (some t),hi2 ma (some t),.ref a,rfl,s6 _ _ o5,L6,r2,r64,(h6.imp (fun z=>RG.Sg t _ _ z) fun z l m=>by have:=RG.Sg t (b:=(r-1).toNat) w.toNat ls (fun k hk=>by have:=z k hk;lia) l m;lia),?_,?_,fun g2 bs2 out tn' ov' un' H7 st ng2 L7 o7 b7 _ fr7=>?_]
  ·have:=RG.W0 t 64 w.toNat ls tb_g%;lia
  ·rw[RG.WX];have:(2:Nat) ^ 400+2 ^ 64<2 ^ 500:=by decide
   lia
  ·have b07:But p H H7:=(b05.trans (s6.but p)).trans b7;have n5:H5 g2=none:=s6.free ng2;refine q g2 bs2 out tn' ov' un' H7 st #[o7,L7] b07 (gb b05 n5 fun z=>by rw[z,o5]at n5;cases n5) fun c hc=>?_;have h5:H5 c=none->c∈bs\/H c=none:=fun n=>.inr (gb b05 n fun z=>by rw[z,o5]at n;cases n);rcases fr7 c hc with z|z
   ·rcases fr6 c z with z|z
    ·exact .inl z
    ·exact h5 z
   ·exact h5 (s6.free z)
noncomputable def wf(au aF dD dF:V):List (Str × V):=[("room",au),("reach",aF),("clock",dD),("boxes",dF)]
theorem Pn{K:aH}{A:Ad}(T:Tx K mg A):Fd K A.C'1 ("room" : Str) (wf au aF dD dF) au:=#[T.vY,T.aha,rfl]
theorem z9{K:aH}{A:Ad}(T:Tx K mg A):Fd K A.C'1 ("reach" : Str) (wf au aF dD dF) aF:=#[T.vY,T.ahb,rfl]
theorem ji{K:aH}{A:Ad}(T:Tx K mg A):Fd K A.C'1 ("clock" : Str) (wf au aF dD dF) dD:=#[T.vY,T.TY,rfl]
theorem uH{K:aH}{A:Ad}(T:Tx K mg A):Fd K A.C'1 ("boxes" : Str) (wf au aF dD dF) dF:=#[T.vY,T.acf,rfl]
theorem auF(au aF dD dF:V):bW "boxes" dF (bW "clock" dD (bW "reach" aF (bW "room" au [])))=wf au aF dD dF:=by
 unfold wf
 walk_at "rec"
theorem wH(au aF dD dF y:V):bW "clock" y (wf au aF dD dF)=wf au aF y dF:=by
 unfold wf
 walk_at "rec"
theorem aaL(au aF dD dF y:V):bW "boxes" y (wf au aF dD dF)=wf au aF dD y:=by
 unfold wf
 walk_at "rec"
theorem wfN(h:m∉[("room" : Str),("reach" : Str),("clock" : Str),("boxes" : Str)]):(wf au aF dD dF).lookup m=none:=by
 simp only[aX,fH,or_false,not_or]at h;obtain⟨qP,Ij,aaM,aaN⟩:=h;unfold wf;rw[bH qP,bH Ij,bH aaM,bH aaN];rfl
theorem Xm(au aF dD dF:V){m:Str}(qP:¬ m = "room")(Ij:¬ m = "reach")(aaM:¬ m = "clock")(aaN:¬ m = "boxes"):(wf au aF dD dF).lookup m=none:=by
 unfold wf;rw[bH qP,bH Ij,bH aaM,bH aaN];rfl
noncomputable abbrev Bp:=Addr × WN.Box
noncomputable def bt(b:WN.Box):HO:=.tup [.int b.f,.int b.l,.int b.s]
structure Bxs(H:Hp)(l:Addr)(ps:List Bp):Prop where
 l:H l=some (.lst (ps.map fun p=>V.ref p.1))
 t:∀p∈ps,H p.1=some (bt p.2)
noncomputable def bx(ps:List Bp):List WN.Box:=ps.map (·.2)
theorem kE(ps:List Bp):(bx ps).length=ps.length:=aC _
theorem Bxs.same{H H':Hp}{l:Addr}{ps:List Bp}(h:Bxs H l ps)(s:Same H H'):Bxs H' l ps:=#[s _ _ h.l,fun p m=>s _ _ (h.t p m)]
theorem Bxs.but{H H':Hp}{l q C e:Addr}{fs:List (Str × V)}{ps:List Bp}(h:Bxs H l ps)(s:But q H H')(hq:H q=some (.ins C e fs)):Bxs H' l ps:=
 #[s _ _ h.l (fU h.l hq (by intro z;cases z)),fun p m=>s _ _ (h.t p m) (fU (h.t p m) hq (by intro z;cases z))]
theorem Ik{ps:List Bp}{i:Nat}{y:V}(h:(ps.map fun p=>V.ref p.1)[i]? = some y):∃p,ps[i]? = some p/\y=V.ref p.1:=by
 rw[dG]at h;cases e:ps[i]? with
 |none=>rw[e]at h;cases h
 |some z=>rw[e]at h;show#[z,rfl,(cA h).symm]
noncomputable def kJ(room edge:Int)(bs:List WN.Box):List WN.Box:=(WN.settled room (bs.filter fun b=>decide (edge<b.l)).reverse).reverse
noncomputable def aoB:Sp:=fun vs H Q _=>Ex3 fun l room ps=>acy (vs=[.ref l,.int room]) (Bxs H l ps) (ps.length<=500) (0<=room) (room<=64) (∀l' ps' H',H l'=none->bx ps'=(WN.settled room (bx ps).reverse).reverse->Bxs H' l' ps'->Same H H'->Q (.ref l') H')
noncomputable def acz:Option Bp->V
 |none=>.non
 |some h=>.ref h.1
theorem auG{ps:List Bp}(h:ps.reverse[i]? = some p):(bx ps).reverse.drop i=p.2::(bx ps).reverse.drop (i+1):=by
 unfold bx;rw[<-yp,<-XJ,<-XJ];have hi:i<ps.reverse.length:=(dh.mp h).1;rw[Ji hi,cX];rw[(dh.mp h).2]
theorem aiO(T:Tx K mg A):FnK P w base T.T7 CX0 1 aoB:=by
 k_dat (T.T7,T.T7.ok,Xi) "f"
 ·obtain⟨l,room,ps,rfl,hb,h500,r0,r64,q⟩:=h;show#[_,by k_dat ([aeY,Zx],[Xi.nd,aun rfl T.Ud ?_,afD T.aaG T.Ud ?_ rfl],[]) "p",?_]
  k_dat lq "c"
  show#[tb_g%,fun D hD=>?_]
  k_dat lqg "c"
  have sD:Same H (upd H D (.lst [])):=Same.new hD;show#[_,rfl,l,_,rfl,.inl (.inl (sD _ _ hb.l)),aqh (K:=K) (a:=l) (xs:=ps.map fun p=>V.ref p.1) (fun i σ H2=>∃ (xb:Option V) (S:Int) (ds:List Bp) (hand:Option Bp),σ=[some (.ref l),some (.int room),some (.ref D),some (.int S),some (acz hand),xb]/\Same H H2/\Bxs H2 D ds/\ds.length<=i /\
    (hand=none->i=0/\ds=[]/\S=0)/\(∀ h,hand=some h->1<=i/\H2 h.1=some (bt h.2)/\bx ds++WN.settle room S h.2 ((bx ps).reverse.drop i)=WN.settled room (bx ps).reverse))
   ⟨none,0,[],none,rfl,sD,⟨aj,(fun p m=>nomatch m)⟩,bC _,fun _=>⟨rfl,rfl,rfl⟩,(fun h e=>nomatch e)⟩ (fun i σ H2 _ ⟨_,_,_,_,_,s,_⟩=>.inl (.inl (s _ _ hb.l))) ?_ ?_]
  ·rintro i y σ H2 hi ⟨xb,S,ds,hand,rfl,s2,hD2,hlen,hn,hs⟩;rw[<-yp]at hi;obtain⟨p,hp,rfl⟩:=Ik hi;have hip:i<ps.length:=by
    have:=(dh.mp hp).1
    rwa [yg]at this
   have pm:p∈ps:=yj.mp (mv hp);have ht:=s2 _ _ (hb.t p pm);have hdrop:=auG hp;cases hand with
   |none =>
    obtain⟨rfl,rfl,rfl⟩:=hn rfl;refine⟨_,rfl,rfl,_,rfl,?_⟩;rw[show decide (acz none=V.non)=true from abZ];refine Rr ⟨_,rfl,_,0,[],some p,rfl,s2,hD2,bF _,(fun e=>nomatch e),fun h e=>?_⟩;obtain rfl:=cA e;refine⟨bC _,ht,?_⟩;rw[ajJ]at hdrop;rw[hdrop];rfl
   |some h =>
    obtain⟨i1,hht,heq⟩:=hs h rfl;rw[hdrop,WN.mO]at heq;show#[_,rfl,rfl,_,rfl,?_];rw[show decide (acz (some h)=V.non)=false from abY];refine fW ?_
    k_dat ld "c"
    show#[_,rfl,bY (.inl (.inl hht)) (v:=.int h.2.s) rfl #[_,rfl,bY (.inl (.inl ht)) (v:=.int p.2.s) rfl #[_,_,rfl,rfl,_,rfl,_,_,rfl,rfl,dB tb_g% tb_g%,_,rfl,_,_,rfl,rfl,_,rfl,cW (fun hc=>?_) (fun hc=>?_)]]]
    ·have hc:(h.2.s+p.2.s)*room<=S:=mP hc;rw[mB hc]at heq;refine⟨_,rfl,bY (.inl (.inl ht)) (v:=.int p.2.f) rfl ⟨_,rfl,bY (.inl (.inl hht)) (v:=.int h.2.l) rfl ⟨_,rfl,bY (.inl (.inl ht)) (v:=.int p.2.s) rfl ⟨_,rfl,bY (.inl (.inl hht)) (v:=.int h.2.s) rfl ⟨_,_,rfl,rfl,tb_g%,fun t1 ht1=>?_⟩⟩⟩⟩⟩;have s3:Same H2 (upd H2 t1 (bt ⟨p.2.f,h.2.l,p.2.s+h.2.s⟩)):=Same.new ht1;refine⟨_,S,ds,some (t1,⟨p.2.f,h.2.l,p.2.s+h.2.s⟩),rfl,s2.trans s3,hD2.same s3,by lia,(fun e=>nomatch e),fun h' e=>?_⟩;obtain rfl:=cA e;refine⟨by lia,aj,?_⟩;rwa[show p.2.s+h.2.s=h.2.s+p.2.s by lia]
    ·have hc:¬ (h.2.s+p.2.s)*room<=S:=fun z=>hc (mN z);rw[mw hc]at heq;show#[_,rfl,.inl #[rfl,_,.inl (.inl hD2.l)],_,rfl,D,_,_,rfl,rfl,hD2.l,aM (by rw[aC];lia),?_];have nD:∀a b,H2 a=some (bt b)->a≠D:=fun a b e=>fU e hD2.l (by intro z;cases z);have ht3:∀L,(upd H2 D L) h.1=some (bt h.2):=fun L=>by rwa[ao (nD _ _ hht)]
     show#[_,rfl,_,rfl,bY (.inl (.inl (ht3 _))) (v:=.int h.2.s) rfl #[_,_,rfl,rfl,?_]];show#[_,rfl,_,S+h.2.s,ds++[h],some p,rfl,fun b o e=>?_,#[?_,fun z m=>?_],by rw[dw];show ds.length+1<=i+1;lia,(fun e=>nomatch e),fun h' e=>?_]
     ·rw[ao (ak e hD)];exact s2 _ _ e
     ·rw[aj,bM];rfl
     ·rcases bO.mp m with m|m
      ·have:=hD2.t z m;rwa[ao (nD _ _ this)]
      ·rw[cC.mp m];exact ht3 _
     ·obtain rfl:=cA e;show#[by lia,by rwa[ao (nD _ _ ht)],?_];unfold bx at heq ⊢;rwa[bM,gD]
  ·rintro σ H2 ⟨xb,S,ds,hand,rfl,s2,hD2,hlen,hn,hs⟩;rw[aC]at hlen hn hs;cases hand with
   |none =>
    obtain⟨h0,rfl,rfl⟩:=hn rfl;have e0:ps=[]:=Mi.mp h0;subst e0;show#[_,rfl,rfl,_,rfl,?_];rw[show decide (acz none=V.non)=true from abZ];refine fW #[_,rfl,D,_,rfl,.inl (.inl hD2.l),fun l' hl'=>?_];exact q l' [] _ (s2.free hl') rfl #[aj,(fun p m=>nomatch m)] (s2.trans (Same.new hl'))
   |some h =>
    obtain⟨i1,hht,heq⟩:=hs h rfl;show#[_,rfl,rfl,_,rfl,?_];rw[show decide (acz (some h)=V.non)=false from abY];refine Rr #[_,rfl,.inl #[rfl,_,.inl (.inl hD2.l)],_,rfl,D,_,_,rfl,rfl,hD2.l,aM (by rw[aC];lia),?_];have nD:∀a b,H2 a=some (bt b)->a≠D:=fun a b e=>fU e hD2.l (by intro z;cases z);have eL:((ds.map fun p=>V.ref p.1)++[V.ref h.1])=(ds++[h]).map fun p=>V.ref p.1:=by rw[bM];rfl
    have s3:Same H (upd H2 D (.lst ((ds.map fun p=>V.ref p.1)++[V.ref h.1]))):=fun b o e=>by rw[ao (ak e hD)];exact s2 _ _ e
    have t3:∀p∈ds++[h],(upd H2 D (.lst ((ds.map fun p=>V.ref p.1)++[V.ref h.1]))) p.1=some (bt p.2):=fun z m=>by
     rcases bO.mp m with m|m
     ·have:=hD2.t z m;rwa[ao (nD _ _ this)]
     ·rwa[cC.mp m,ao (nD _ _ hht)]
    show#[_,rfl,D,_,rfl,.inl (.inl aj),fun l' hl'=>?_];refine q l' (ds++[h]).reverse _ (s3.free hl') ?_ #[?_,fun z m=>?_] (s3.trans (Same.new hl'))
    ·rw[ac4 (by rw[yg,kE];exact bC _),WN.Ss]at heq;rw[<-heq];unfold bx;rw[yp,bM];rfl
    ·rw[aj,yp,<-eL];rfl
    ·rw[ao (ak (t3 z (yj.mp m)) hl')];exact t3 z (yj.mp m)
noncomputable def aqH(A:Ad):Sp:=fun vs H Q _=>Ex4 fun p dx r k=>ou (vs=[.ref p,.int r,.int k]) (H p=some (.ins A.C'1 dx [])) (∀d H',H d=none->H' p=some (.ins A.C'1 dx (wf (.int r) (.int k) (.int 0) (.ref d)))->H' d=some (.lst [])->But p H H'->Q .non H')
theorem Aa(T:Tx K mg A):FnM P w mg base T.tE CX0 1 (aqH A):=by
 k_dat (T.tE,T.tE.ok,Ug) "f"
 ·obtain⟨p,dx,r,k,rfl,hp,q⟩:=h;show#[_,by k_dat ([],[],[]) "p",?_];show#[_,rfl,_,rfl,p,_,dx,[],rfl,hp,T.vY,T.aha,tb_g%,?_];show#[_,rfl,_,rfl,p,_,dx,_,rfl,aj,T.vY,T.ahb,tb_g%,?_];show#[_,rfl,p,_,dx,_,rfl,aj,T.vY,T.TY,tb_g%,?_];rw[cB,cB];show#[tb_g%,fun d hd=>?_];have npd:p≠d:=fun z=>by rw[<-z,aj]at hd;cases hd
  rw[ao (aG npd)]at hd;show#[_,rfl,p,_,dx,_,rfl,(by rw[ao npd];exact aj),T.vY,T.acf,tb_g%,?_];refine q d _ hd (QS aj (by rw[auF])) (by rw[ao (aG npd),aj]) fun b o e hb=>?_;rwa[ao hb,ao (ak e hd),ao hb]
structure Wn(A:Ad)(H:Hp)(p dx l:Addr)(r k c:Int)(ps:List Bp):Prop where
 o:H p=some (.ins A.C'1 dx (wf (.int r) (.int k) (.int c) (.ref l)))
 b:Bxs H l ps
theorem Wn.same{A:Ad}(h:Wn A H p dx l r k c ps)(s:Same H H'):Wn A H' p dx l r k c ps:=#[s _ _ h.o,h.b.same s]
theorem Wn.but{A:Ad}{r k c:Int}{ps:List Bp}(h:Wn A H p dx l r k c ps)(s:But q H H')(hq:H q=some (.ins C e fs))(n:p≠q):Wn A H' p dx l r k c ps:=#[s _ _ h.o n,h.b.but s hq]
noncomputable def aiP(A:Ad):Sp:=fun vs H Q _=>Ex8 fun p dx l l0 r k c ps=>Oh (vs=[.ref p,.ref l]) (H p=some (.ins A.C'1 dx (wf (.int r) (.int k) (.int c) (.ref l0)))) (Bxs H l ps) (ps.length<=500) (0<=r) (r<=64) (∀l' ps' H',bx ps'=kJ r (c-k) (bx ps)->Wn A H' p dx l' r k c ps'->But p H H'->H l'=none->Q .non H')
theorem lR(T:Tx K mg A):FnM P w mg base T.nJ CX0 2 (aiP A):=by
 k_dat (T.nJ,T.nJ.ok,iI) "f"
 ·obtain⟨p,dx,l,l0,r,k,c,ps,rfl,hp,hb,h500,r0,r64,q⟩:=h;show#[_,by k_dat ([fK],[iI.nd,Zw (i:=2) iI.nd rfl (Or.inr rfl) ?_,aD (aiO T) ?_],[mG 3 iI.nd [("edge",~~~s+1)] ["box","edge"] [2] (tt:=(Ml (tOp _ (tOp (zA K) _ _) _))) ?_ (fun _ _ _ _=>(lU (gw agC (gW (ixG tb_g%) (pv 0) cI (fun _ _=>rfl)) (pv 1) (jU _)))) (fun _ _ _ _=>(pv 0))]) "p",?_]
  k_dat lq "c"
  show#[_,rfl,rdG hp (ji T) #[_,rfl,rdG hp (z9 T) #[_,_,rfl,rfl,?_]]];show#[_,rfl,l,rfl,#[_,.inl (.inl hb.l)],fun D hD=>?_];refine iw (K:=K) (a:=l) (xs:=ps.map fun p=>V.ref p.1) (fun i ys H2=>ys=((ps.take i).filter fun p=>decide (c-k<p.2.l)).map (fun p=>V.ref p.1)/\H2=upd H D (.lst ys)) #[by simp,rfl] ?_ ?_ ?_ ?_ ?_
  ·rintro i ys H2 hi ⟨rfl,rfl⟩;show#[.inl (.inl ((Same.new hD) _ _ hb.l)),aj,aM ?_];rw[aC];have:=iV (fun p:Bp=>decide (c-k<p.2.l)) (ps.take i);rw[dN]at this;lia
  ·rintro i ys H2 x hx ⟨rfl,rfl⟩;obtain⟨z,hz,rfl⟩:=Ik hx;have ht:=(Same.new (o:=.lst (((ps.take i).filter fun p=>decide (c-k<p.2.l)).map (fun p=>V.ref p.1))) hD) _ _ (hb.t z (mv hz));show#[_,rfl,bY (.inl (.inl ht)) (v:=.int z.2.l) rfl #[_,rfl,_,_,rfl,rfl,_,rfl,cW (fun hc=>?_) (fun hc=>?_)]]
   ·have hc:c-k<z.2.l:=mP hc;show#[_,rfl,aj,?_,by rw[cB]];rw[jE,hz,iM,bM];show _=_++(([z]:List Bp).filter fun p=>decide (c-k<p.2.l)).map (fun p=>V.ref p.1);rw[wJ (by simpa using hc)];rfl
   ·have hc:¬ c-k<z.2.l:=fun y=>hc (mN y);show#[aj,?_,rfl];rw[jE,hz,iM,bM];show _=_++(([z]:List Bp).filter fun p=>decide (c-k<p.2.l)).map (fun p=>V.ref p.1);rw[qX (by simpa using hc)];simp
  ·rintro ys H2 ⟨rfl,rfl⟩;rw[aC,gZ]
   k_dat (nwA hD,H3,sD,fH3) "n"
   have bD:Bxs H3 D (ps.filter fun p=>decide (c-k<p.2.l)):=#[fH3,fun z m=>sD _ _ (hb.t z (jA.mp m).1)];have hlen:=iV (fun p:Bp=>decide (c-k<p.2.l)) ps;show#[_,rfl,_,rfl,rdG (sD _ _ hp) (Pn T) ?_];show#[D,r,_,rfl,bD,by lia,r0,r64,fun l' ps' H4 hl' e' b' s4=>?_];have hp4:=s4 _ _ (sD _ _ hp);show#[_,rfl,p,_,dx,_,rfl,hp4,T.vY,T.acf,tb_g%,?_];rw[aaL];have npl:∀b o,H4 b=some o->(∀C d fs,o≠.ins C d fs)->b≠p:=fun b o e n z=>by rw[z,hp4]at e;exact n _ _ _ (cA e).symm
   refine q l' ps' _ ?_ #[aj,#[by rw[ao (npl _ _ b'.l (by intro _ _ _ z;cases z))];exact b'.l,fun z m=>by rw[ao (npl _ _ (b'.t z m) (by intro _ _ _ z;cases z))];exact b'.t z m]] (fun b o e n=>by rw[ao n];exact s4 _ _ (sD _ _ e)) (sD.free hl');rw[e'];unfold kJ bx;rw[adn];rfl
  ·exact fun σ H R R' hr h=>dJ (gY (jo (aP 0) (lM _)) (aP 1)) σ H R R' hr h
  ·exact aP 0
noncomputable def auH(A:Ad):Sp:=fun vs H Q _=>Ex8 fun p dx l r k c v ps=>acy (vs=[.ref p,.int v]) (Wn A H p dx l r k c ps) (ps.length<=400) (0<=r) (r<=64) (∀l' ps' H',bx ps'=kJ r (c+1-k) (bx ps++[#[c+1,c+1,v]])->Wn A H' p dx l' r k (c+1) ps'->But p H H'->H l'=none->Q .non H')
theorem V1(T:Tx K mg A):FnM P w mg base T.wg CX0 5 (auH A):=by
 k_dat (T.wg,T.wg.ok,VN) "f"
 ·obtain⟨p,dx,l,r,k,c,v,ps,rfl,hw,h400,r0,r64,q⟩:=h;show#[_,by (k_dat ([hdA],[aU ?_ T.vY (lR T) ?_],[]) "p"; k_dat dX "h"; k_dat sV "h"),?_];show#[_,rfl,rdG hw.o (ji T) #[_,_,rfl,rfl,_,rfl,p,_,dx,_,rfl,hw.o,T.vY,T.TY,tb_g%,?_]];rw[wH]
  k_dat (nbA,H1,b1,w1) "n"
  have x1:=hw.b.but b1 hw.o;show#[_,rfl,p,dx,_,rfl,w1,Xm _ _ _ _ tb_g% tb_g% tb_g% tb_g%,?_];show#[_,rfl,rdG w1 (uH T) ?_];show#[_,rfl,rdG w1 (ji T) #[_,rfl,rdG w1 (ji T) #[_,rfl,tb_g%,fun t ht=>#[tb_g%,fun l1 hl1=>?_]]]];have s2:Same H1 (upd H1 t (bt #[c+1,c+1,v])):=Same.new ht;have t2:(upd H1 t (bt #[c+1,c+1,v])) t=some (bt #[c+1,c+1,v]):=aj;show rCat _ _ (upd (upd H1 t (bt #[c+1,c+1,v])) l1 (.lst [.ref t])) _;have hl1':(upd H1 t (bt #[c+1,c+1,v])) l1=none:=hl1;generalize upd H1 t (bt #[c+1,c+1,v])=H2 at s2 t2 hl1' ⊢
  k_dat (nwA hl1',H3,s3,t3) "n"
  show#[l,l1,_,_,rfl,rfl,s3 _ _ (s2 _ _ x1.l),t3,eF (aM (by rw[aC];show ps.length+1<=1000;lia)),fun l2 hl2=>?_]
  k_dat (nwA hl2,H4,s4,fH4) "n"
  have s14:Same H1 H4:=s2.trans (s3.trans s4);have x4:Bxs H4 l2 (ps++[(t,#[c+1,c+1,v])]):=by
   show#[by rw[fH4,bM];rfl,fun z m=>?_];rcases bO.mp m with m|m
   ·exact s14 _ _ (x1.t z m)
   ·rw[cC.mp m];exact s4 _ _ (s3 _ _ t2)
  show#[p,dx,l2,l,r,k,c+1,_,rfl,s14 _ _ w1,x4,by rw[dw];show ps.length+1<=500;lia,r0,r64,fun l' ps' H5 e' w5 b5 n5=>?_];have bb:But p H H5:=fun b o e n=>b5 b o (s14 _ _ (b1 b o e n)) n;refine q l' ps' H5 (by rw[e'];unfold bx;rw[bM];rfl) w5 bb ?_;exact gb b1 (s14.free n5) (fun z=>by rw[z,s14 _ _ w1]at n5;cases n5)
noncomputable def aqI(A:Ad):Sp:=fun vs H Q _=>Ex8 fun p dx l r k c v ps=>acy (vs=[.ref p,.int v]) (Wn A H p dx l r k c ps) (ps.length<=400) (0<=r) (r<=64) (∀l' ps' H',bx ps'=kJ r (c+v-k) (bx ps)->Wn A H' p dx l' r k (c+v) ps'->But p H H'->H l'=none->Q .non H')
theorem Ab(T:Tx K mg A):FnM P w mg base T.tG CX0 5 (aqI A):=by
 k_dat (T.tG,T.tG.ok,Uh) "f"
 ·obtain⟨p,dx,l,r,k,c,v,ps,rfl,hw,h400,r0,r64,q⟩:=h;show#[_,by k_dat ([],[aU ?_ T.vY (lR T) ?_],[]) "p",?_];show#[_,rfl,rdG hw.o (ji T) #[_,rfl,_,_,rfl,rfl,_,rfl,p,_,dx,_,rfl,hw.o,T.vY,T.TY,tb_g%,?_]];rw[wH]
  k_dat (nbA,H1,b1,w1) "n"
  have x1:=hw.b.but b1 hw.o;show#[_,rfl,p,dx,_,rfl,w1,Xm _ _ _ _ tb_g% tb_g% tb_g% tb_g%,?_];show#[_,rfl,rdG w1 (uH T) ?_];show#[p,dx,l,l,r,k,c+v,ps,rfl,w1,x1,by lia,r0,r64,fun l' ps' H5 e' w5 b5 n5=>?_];exact q l' ps' H5 e' w5 (fun b o e n=>b5 b o (b1 b o e n) n) (gb b1 n5 (fun z=>by rw[z,w1]at n5;cases n5))
open MK
noncomputable def aoC:Sp:=fun vs H Q _=>∃n:Int,vs=[.int n]/\Q (.int (n*770093176312745717 % 1152921504606846976)) H
theorem aiQ(T:Tx K mg A):FnK P w base T.T8 CX0 1 aoC:=by
 k_dat (T.T8,T.T8.ok,aiM) "f"
 ·obtain⟨n,rfl,q⟩:=h;obtain⟨_,af3,af4⟩:=T.aot;obtain⟨_,aoD,aoE⟩:=T.aou;show#[_,by k_dat ([],[],[O6 (v:=.int 770093176312745717) rfl aoD aoE,O6 (v:=.int 1152921504606846976) rfl af3 af4]) "p",?_];show#[_,rfl,_,_,rfl,rfl,dB tb_g% tb_g%,_,_,rfl,rfl,(by show(0:Int)<1152921504606846976;decide),q]
noncomputable def Fz(r:Int)(h:Nat):Prop:=(r=0/\h=60)\/Vl r h
theorem Fz.uniq(a:Fz r h)(b:Fz r k):h=k:=by
 rcases a with⟨a,rfl⟩|a
 ·rcases b with⟨_,rfl⟩|b
  ·rfl
  ·exact mI a b.ne
 ·rcases b with⟨b,rfl⟩|b
  ·exact mI b a.ne
  ·exact a.uniq b
noncomputable def auI:Sp:=fun vs H Q _=>∃n:Int,vs=[.int n]/\∀h:Nat,Fz (n*770093176312745717 % 1152921504606846976) h->Q (.int h) H
noncomputable def restOf(σ:St)(_:Hp):Nat:=match σ with
 |[_,some (.int x),_]=>x.toNat
 |_=>0
theorem ahl(T:Tx K mg A):FnK P w base T.afV CX0 2 auI:=by
 k_dat (T.afV,T.afV.ok,ahi) "f"
 ·obtain⟨n,rfl,q⟩:=h;obtain⟨_,Oi,Oj⟩:=T.N8;show#[_,by k_dat ([],[ahi.nd,aD (aiQ T) ?_],[O6 (v:=.int 60) rfl Oi Oj]) "p",?_];show#[_,rfl,n,rfl,?_];have z0:=rW (n*770093176312745717) (show(1152921504606846976:Int)≠0 by decide);have z1:=BP (n*770093176312745717) (show(0:Int)<1152921504606846976 by decide);generalize n*770093176312745717 % 1152921504606846976=r at q z0 z1
  k_dat lqg "c"
  show#[_,rfl,rfl,_,rfl,cW (fun h=>?_) (fun h=>?_)]
  ·have e:V.int r=V.int 0:=mP h;exact q 60 (.inl #[V.int.inj e,rfl])
  ·have ne:r≠0:=fun z=>h (mN (mM V.int z));refine tW (fun σ H'=>Ex2 fun(x:Int) (i:Nat)=>ou (σ=[some (.int n),some (.int x),some (.int (i:Int))]) (To r x i) (H'=H)) restOf #[r,0,rfl,#[by simp,ne],rfl] ?_
    (by rintro σ H Q Q' hq ⟨v,e,i,j,e1,e2,h,sc,k,e3,q⟩;show#[v,e,i,j,e1,e2,h,sc,k,e3,hq _ _ q])
   rintro σ H' ⟨x,i,rfl,ht,rfl⟩;show#[_,rfl,_,_,rfl,rfl,(by show(0:Int)<2;decide),rfl,_,rfl,cW (fun h=>?_) (fun h=>?_)]
   ·k_dat lq "c"
    have e:x % 2=0:=V.int.inj (mP h);have hx:=ht.lt tb_g% z1;show#[_,rfl,_,_,rfl,rfl,#[tb_g%,tb_g%],_,rfl,_,_,rfl,rfl,#[x / 2,i+1,?_,ht.step e,rfl],?_]
    ·rw[show((i+1:Nat):Int)=(i:Int)+1 by lia];rfl
    ·show(x / 2).toNat<x.toNat;lia
   ·have e:¬ x % 2=0:=fun z=>h (mN (mM V.int z));show#[_,rfl,q i (.inr (ht.stop e))]
noncomputable def df(au aW cG dM:V):List (Str × V):=[("room",au),("arrivals",aW),("level",cG),("kept",dM)]
theorem Il{K:aH}{A:Ad}(T:Tx K mg A):Fd K A.C'2 ("room" : Str) (df au aW cG dM) au:=#[T.xY,T.ahc,rfl]
theorem rJ{K:aH}{A:Ad}(T:Tx K mg A):Fd K A.C'2 ("arrivals" : Str) (df au aW cG dM) aW:=#[T.xY,T.Xd,rfl]
theorem aoF(au aW cG dM:V):(df au aW cG dM).lookup ("level" : Str)=some cG:=by rfl
theorem jC{K:aH}{A:Ad}(T:Tx K mg A):Fd K A.C'2 ("level" : Str) (df au aW cG dM) cG:=#[T.xY,T.Xe,rfl]
theorem Im{K:aH}{A:Ad}(T:Tx K mg A):Fd K A.C'2 ("kept" : Str) (df au aW cG dM) dM:=#[T.xY,T.acg,rfl]
theorem auJ(au aW cG dM:V):bW "kept" dM (bW "level" cG (bW "arrivals" aW (bW "room" au [])))=df au aW cG dM:=by
 unfold df
 walk_at "rec"
theorem xK(au aW cG dM y:V):bW "arrivals" y (df au aW cG dM)=df au y cG dM:=by
 unfold df
 walk_at "rec"
theorem Io(au aW cG dM y:V):bW "level" y (df au aW cG dM)=df au aW y dM:=by
 unfold df
 walk_at "rec"
theorem acA(au aW cG dM y:V):bW "kept" y (df au aW cG dM)=df au aW cG y:=by
 unfold df
 walk_at "rec"
theorem dfN(h:m∉[("room" : Str),("arrivals" : Str),("level" : Str),("kept" : Str)]):(df au aW cG dM).lookup m=none:=by
 simp only[aX,fH,or_false,not_or]at h;obtain⟨qP,FJ,aaO,af5⟩:=h;unfold df;rw[bH qP,bH FJ,bH aaO,bH af5];rfl
theorem ahm(au aW cG dM:V){m:Str}(qP:¬ m = "room")(FJ:¬ m = "arrivals")(aaO:¬ m = "level")(af5:¬ m = "kept"):(df au aW cG dM).lookup m=none:=by
 unfold df;rw[bH qP,bH FJ,bH aaO,bH af5];rfl
noncomputable def aqJ(A:Ad):Sp:=fun vs H Q _=>Ex3 fun p dx r=>ou (vs=[.ref p,.int r]) (H p=some (.ins A.C'2 dx [])) (∀d H',H d=none->H' p=some (.ins A.C'2 dx (df (.int r) (.int 0) (.int 0) (.ref d)))->H' d=some (.lst [])->But p H H'->Q .non H')
theorem uI(T:Tx K mg A):FnM P w mg base T.nM CX0 1 (aqJ A):=by
 k_dat (T.nM,T.nM.ok,K7) "f"
 ·obtain⟨p,dx,r,rfl,hp,q⟩:=h;show#[_,by k_dat ([],[],[]) "p",?_];show#[_,rfl,_,rfl,p,_,dx,[],rfl,hp,T.xY,T.ahc,tb_g%,?_];show#[_,rfl,p,_,dx,_,rfl,aj,T.xY,T.Xd,tb_g%,?_];show#[_,rfl,p,_,dx,_,rfl,aj,T.xY,T.Xe,tb_g%,?_];rw[cB,cB];show#[tb_g%,fun d hd=>?_];have npd:p≠d:=fun z=>by rw[<-z,aj]at hd;cases hd
  rw[ao (aG npd)]at hd;show#[_,rfl,p,_,dx,_,rfl,(by rw[ao npd];exact aj),T.xY,T.acg,tb_g%,?_];refine q d _ hd (QS aj (by rw[auJ])) (by rw[ao (aG npd),aj]) fun b o e hb=>?_;rwa[ao hb,ao (ak e hd),ao hb]
theorem aqK(m:Fz (n*770093176312745717 % 1152921504606846976) h):h<=60:=by
 rcases m with⟨_,rfl⟩|m
 ·exact bC _
 ·have:=m.lt (rW _ tb_g%) (BP _ tb_g%);lia
theorem ahn:∀n r,r.natAbs<=n->r≠0->∃h,Vl r h
 |0,r,h,h0=>mI (show r=0 by lia) h0
 |n+1,r,h,h0=>by
  by_cases e:r % 2=1
  ·show#[0,r,by simp,e]
  ·obtain⟨k,m,e1,e2⟩:=ahn n (r / 2) tb_g% tb_g%;show#[k+1,m,?_,e2];rw[mj,<-jK,<-e1];lia
theorem aaP(k:Int):∃h,Fz (k*770093176312745717 % 1152921504606846976) h:=by
 by_cases e:k*770093176312745717 % 1152921504606846976=0
 ·show#[60,.inl #[e,rfl]]
 ·obtain⟨h,hh⟩:=ahn _ _ (bC _) e;show#[h,.inr hh]
noncomputable def mkOf(k:Int):Int:=(alX (aaP k):Nat)
theorem mk_eq(m:Fz (k*770093176312745717 % 1152921504606846976) h):(h:Int)=mkOf k:=by
 rw[m.uniq (alW (aaP k))];rfl
theorem mk_le(k:Int):mkOf k<=60:=by
 obtain⟨h,m⟩:=aaP k;have:=aqK m;rw[<-mk_eq m];lia
theorem mk_0(k:Int):0<=mkOf k:=by unfold mkOf;lia
noncomputable def up(v:Int)(ks:List Int):List Int:=ks.filter fun z=>decide (v<=mkOf z)
theorem aho{v w:Int}(h:v<=w)(ks:List Int):up w (up v ks)=up w ks:=by
 unfold up;rw[List.filter_filter];apply List.filter_congr;intro x _;by_cases e:w<=mkOf x
 ·rw[mN e,mN (show v<=mkOf x by lia)];rfl
 ·rw[mS e];rfl
theorem aoG(h:∀z∈ks,v<=mkOf z):up v ks=ks:=by
 unfold up;rw[ac7];exact fun z hz=>mN (h z hz)
theorem ahp(h:60<v)(ks:List Int):up v ks=[]:=by
 unfold up;rw[Gg];intro z _ e;have:=mP e;have:=mk_le z;lia
theorem qQ:z∈up v ks↔z∈ks/\v<=mkOf z:=by
 unfold up;rw[jA,decide_eq_true_iff]
noncomputable def srt(ns:List Int):List Int:=ns.mergeSort fun a b=>decide (a<=b)
theorem lK:∀{xs ys:List Int},xs.Perm ys->xs.Pairwise (· <= ·)->ys.Pairwise (· <= ·)->xs=ys
 |[],ys,p,_,_=>by rw[ajL.mp p]
 |x::xs,[],p,_,_=>mI p (by simp)
 |x::xs,y::ys,p,h1,h2=>by
  have a1:=gC.mp h1;have a2:=gC.mp h2;have e:x=y:=by
   have m1:x∈y::ys:=p.mem_iff.mp cJ;have m2:y∈x::xs:=p.mem_iff.mpr cJ;rcases aX.mp m1 with z|z
   ·exact z
   ·rcases aX.mp m2 with z'|z'
    ·exact z'.symm
    ·exact ak5 (a1.1 y z') (a2.1 x z)
  subst e;rw[lK (alM p) a1.2 a2.2]
theorem fZ(ns:List Int):(srt ns).Perm ns:=ajw _ _
theorem sY(ns:List Int):(srt ns).Pairwise (· <= ·):=by
 have:=ajo (le:=fun a b:Int=>decide (a<=b)) (fun a b c h1 h2=>by simp only[decide_eq_true_eq]at *; lia) (fun a b=>by simp only[alr,decide_eq_true_eq];lia) ns;exact this.imp fun h=>mP h
theorem vR{ns ms:List Int}(p:ms.Perm ns)(h:ms.Pairwise (· <= ·)):ms=srt ns:=lK (p.trans (fZ ns).symm) h (sY ns)
theorem Xn{ns ms:List Int}(p:ms.Perm ns):srt ms=srt ns:=lK ((fZ ms).trans (p.trans (fZ ns).symm)) (sY _) (sY _)
theorem af6(v:Int)(ns:List Int):up v (srt ns)=srt (up v ns):=vR ((fZ ns).filter _) ((sY ns).filter _)
theorem fj(ns:List Int):(srt ns).length=ns.length:=(fZ ns).length_eq
theorem lV:z∈srt ns↔z∈ns:=(fZ ns).mem_iff
noncomputable def aiR:Sp:=fun vs H Q _=>Ex3 fun l v ks=>oJ (vs=[.ref l,.int v]) (H l=some (.lst (ks.map V.int))) (ks.length<=900) (∀l' H',H l'=none->H' l'=some (.lst ((up v ks).map V.int))->Same H H'->Q (.ref l') H')
theorem M8(T:Tx K mg A):FnK P w base T.Fj CX0 3 aiR:=by
 k_dat (T.Fj,T.Fj.ok,acv) "f"
 ·obtain⟨l,v,ks,rfl,hl,h500,q⟩:=h;show#[_,by k_dat ([fK],[],[uh [("level",~~~s+1)] ["thing","level"] [1] ?_ (fun _ _ _ _=>(lU (gw arp (aD (ahl T) (cg (pv 0) gA)) (pv 1) (jU _)))) (fun _ _ _ _=>(pv 0))]) "p",?_];show#[_,rfl,l,rfl,#[_,.inl (.inl hl)],fun D hD=>?_];refine iw (K:=K) (a:=l) (xs:=ks.map V.int) (fun i ys H2=>ys=(up v (ks.take i)).map V.int/\H2=upd H D (.lst ys)) #[rfl,rfl] ?_ ?_ ?_ ?_ ?_
  ·rintro i ys H2 hi ⟨rfl,rfl⟩;show#[.inl (.inl ((Same.new hD) _ _ hl)),aj,aM ?_];have:(up v (ks.take i)).length<=(ks.take i).length:=iV _ _;rw[dN]at this;rw[aC];lia
  ·rintro i ys H2 x hx ⟨rfl,rfl⟩;obtain⟨z,hz,rfl⟩:=int_at hx;show#[_,rfl,z,rfl,fun h hh=>#[_,rfl,_,_,rfl,rfl,_,rfl,cW (fun hc=>?_) (fun hc=>?_)]]
   ·have hc:v<=(h:Int):=mP hc;rw[mk_eq hh]at hc;show#[_,rfl,aj,?_,by rw[cB]];have e:up v (ks.take (i+1))=up v (ks.take i)++[z]:=by
     rw[jE,hz];unfold up;rw[iM];simp[hc]
    rw[e,bM];rfl
   ·have hc:¬ v<=(h:Int):=fun y=>hc (mN y);rw[mk_eq hh]at hc;show#[aj,?_,rfl];have e:up v (ks.take (i+1))=up v (ks.take i):=by
     rw[jE,hz];unfold up;rw[iM];simp[hc]
    rw[e]
  ·rintro ys H2 ⟨rfl,rfl⟩;rw[aC,gZ];exact q D _ hD aj (Same.new hD)
  ·exact fun σ H R R' hr ⟨v,e,n,en,q⟩=>#[v,e,n,en,fun h m=>by
    obtain ⟨u,eu,i,j,ei,ej,k,ek,r⟩:=q h m;show#[u,eu,i,j,ei,ej,k,ek,hr _ _ r]]
  ·exact aP 0
structure Dn(A:Ad)(H:Hp)(p dx l:Addr)(r n v:Int)(ks:List Int):Prop where
 o:H p=some (.ins A.C'2 dx (df (.int r) (.int n) (.int v) (.ref l)))
 l:H l=some (.lst (ks.map V.int))
theorem Dn.same{A:Ad}{H H':Hp}{p dx l:Addr}{r n v:Int}{ks:List Int}(h:Dn A H p dx l r n v ks)(s:Same H H'):Dn A H' p dx l r n v ks:=#[s _ _ h.o,s _ _ h.l]
theorem Dn.but{A:Ad}{H H':Hp}{p dx l q C e:Addr}{fs:List (Str × V)}{r n v:Int}{ks:List Int}(h:Dn A H p dx l r n v ks)(s:But q H H')(hq:H q=some (.ins C e fs))(m:p≠q):Dn A H' p dx l r n v ks:=#[s _ _ h.o m,s _ _ h.l (fU h.l hq (by intro z;cases z))]
noncomputable def Lvl(r v v':Int)(ks:List Int):Prop:=v<=v'/\((up v' ks).length:Int)<=r/\∀w,v<=w->w<v'->r<((up w ks).length:Int)
theorem Lvl.le(h:Lvl r v v' ks)(r0:0<=r)(hv:v<=61):v'<=61:=by
 rcases(show v'<=61\/61<v' by lia)with z|z
 ·exact z
 ·have:=h.2.2 61 hv z;rw[ahp tb_g%]at this;have e:(([]:List Int).length:Int)=0:=rfl;lia
noncomputable def aiS(A:Ad):Sp:=fun vs H Q _=>Ex8 fun p dx l l0 r n v ks=>z7 (vs=[.ref p,.ref l]) (H p=some (.ins A.C'2 dx (df (.int r) (.int n) (.int v) (.ref l0)))) (H l=some (.lst (ks.map V.int))) (ks.length<=63) (0<=r) (0<=v) (v<=61) ((∀z∈ks,v<=mkOf z)/\∀l' v' H',Lvl r v v' ks->Dn A H' p dx l' r n v' (up v' (srt ks))->But p H H'->H l'=none->Q .non H')
noncomputable def lvV:Option V->Nat
 |some (.int v)=>(100-v).toNat
 |_=>0
noncomputable def lvO:Option HO->Nat
 |some (.ins _ _ fs)=>lvV (fs.lookup ("level" : Str))
 |_=>0
noncomputable def lvOf(σ:St)(H:Hp):Nat:=match σ with
 |some (.ref p)::_=>lvO (H p)
 |_=>0
theorem ahq{p C dx:Addr}{a b c:V}{v:Int}{σ:St}{H:Hp}(h:H p=some (.ins C dx (df a b (.int v) c))):lvOf (some (.ref p)::σ) H=(100-v).toNat:=by
 show lvO (H p)=_;rw[h];show lvV ((df a b (.int v) c).lookup ("level" : Str))=_;rw[aoF];rfl
theorem qR(T:Tx K mg A):FnM P w mg base T.j7 CX0 4 (aiS A):=by
 k_dat (T.j7,T.j7.ok,qG) "f"
 ·obtain⟨p,dx,l,l0,r,n,v,ks,rfl,hp,hl,h900,r0,v0,v61,hv,q⟩:=h;show#[_,by k_dat ([],[qG.nd,bZ (jX rfl) (by rfl) T.fM Gh ?_,aD (M8 T) ?_],[]) "p",?_];show#[_,rfl,.inr #[l,ks,rfl,.inl (.inl hl),by lia,fun l1 ms hl1 pm so=>?_]];have s1:Same H (upd H l1 (.lst (ms.map V.int))):=Same.new hl1;have f1:(upd H l1 (.lst (ms.map V.int))) l1=some (.lst (ms.map V.int)):=aj;obtain rfl:ms=srt ks:=vR pm so;have lm:=pm.length_eq;show Rg _ _ _ [some (.ref p),some (.ref l),some (.ref l1)] (upd H l1 (.lst ((srt ks).map V.int)));generalize upd H l1 (.lst ((srt ks).map V.int))=H1 at s1 f1 ⊢;have e0:up v (srt ks)=srt ks:=aoG fun z hz=>hv z (lV.mp hz);have lu:∀w,(up w (srt ks)).length=(up w ks).length:=fun w=>by rw[af6,fj]
  refine tW (fun σ G=>Ex2 fun(l2:Addr) (w:Int)=>z7 (σ=[some (.ref p),some (.ref l),some (.ref l2)]) (H l2=none) (G p=some (.ins A.C'2 dx (df (.int r) (.int n) (.int w) (.ref l0)))) (G l2=some (.lst ((up w (srt ks)).map V.int))) (But p H G) (v<=w) ((w<=61)) (∀u,v<=u->u<w->r<((up u ks).length:Int))) lvOf
   #[l1,v,rfl,hl1,s1 _ _ hp,by rwa[e0],s1.but p,bR _,v61,fun u a b=>by lia] ?_ ?_
  ·rintro σ G ⟨l2,w,rfl,nl2,gp,gl,bt,hvw,hw,hd⟩;have lms:(up w (srt ks)).length<=ks.length:=by rw[lu];exact iV _ _
   show#[_,rfl,eX (.inl (.inl gl)) #[_,rfl,rdG gp (Il T) #[_,_,rfl,rfl,_,rfl,cW (fun hc=>?_) (fun hc=>?_)]]]
   ·k_dat lq "c"
    have hc:r<(((up w (srt ks)).map V.int).length:Int):=mP hc;rw[aC]at hc;have hw60:w<=60:=by
     rcases(show w<=60\/60<w by lia)with z|z
     ·exact z
     ·rw[ahp z]at hc;have e:(([]:List Int).length:Int)=0:=rfl;lia
    show#[_,rfl,rdG gp (jC T) #[_,_,rfl,rfl,_,rfl,p,_,dx,_,rfl,gp,T.xY,T.Xe,tb_g%,?_]];rw[Io];have npl:l2≠p:=fU gl gp (by intro z;cases z);have b2:But p G (upd G p (.ins A.C'2 dx (df (.int r) (.int n) (.int (w+1)) (.ref l0)))):=But.upd;have o2:(upd G p (.ins A.C'2 dx (df (.int r) (.int n) (.int (w+1)) (.ref l0)))) p=some (.ins A.C'2 dx (df (.int r) (.int n) (.int (w+1)) (.ref l0))):=aj;have lw:=ahq (σ:=[some (.ref l),some (.ref l2)]) gp;have gl2:=b2 _ _ gl npl;show#[_,rfl,_,rfl,rdG o2 (jC T) #[l2,w+1,_,rfl,gl2,by lia,fun l3 G3 nl3 gl3 s3=>?_]];have nl3':H l3=none:=by
     refine gb (fun b o e m=>b2 b o (bt b o e m) m) nl3 fun z=>?_;rw[z,o2]at nl3;cases nl3
    rw[aho (show w<=w+1 by lia)]at gl3;show#[#[l3,w+1,rfl,nl3',s3 _ _ o2,gl3,fun b o e m=>s3 _ _ (b2 b o (bt b o e m) m),by lia,by lia,fun u a b=>?_],?_]
    ·rcases(show u<w\/u=w by lia)with z|z
     ·exact hd u a z
     ·rwa[z,<-lu]
    ·rw[lw];refine BK (Dw (ahq (s3 _ _ o2))) ?_;lia
   ·have hc:¬ r<(((up w (srt ks)).map V.int).length:Int):=fun z=>hc (mN z);rw[aC]at hc;show#[_,rfl,_,rfl,p,_,dx,_,rfl,gp,T.xY,T.acg,tb_g%,?_];rw[acA];have npl:l2≠p:=fU gl gp (by intro z;cases z);refine q l2 w _ #[hvw,by rw[<-lu];lia,hd] #[aj,by rwa[ao npl]] (fun b o e m=>by rw[ao m];exact bt b o e m) nl2
  ·exact fun σ H Q Q' hq h=>dJ (gY (Sy (gK (aP 2) uz)) (SJ (aP 0))) σ H Q Q' hq h
theorem aoH(k:Int)(ks:List Int):inV (.int k) (ks.map V.int)=decide (k∈ks):=by
 induction ks with
 |nil=>rfl
 |cons x r ih =>
  show(eqV (.int x) (.int k) || inV (.int k) (r.map V.int))=_;rw[ih];show((x == k) || decide (k∈r))=decide (k∈x::r);by_cases e:k=x
  ·subst e;simp
  ·have:(x == k)=false:=by simp;exact fun z=>e z.symm
   rw[this];simp[e]
theorem aoI(ks:List Int):(ks.map V.int).all zx=true:=by
 rw[Xz];intro x m;obtain⟨z,_,rfl⟩:=dU.mp m;rfl
noncomputable def came(C:List Int)(k:Int):List Int:=if k∈C then C else C++[k]
theorem acB(C:List Int)(k:Int):C.length<=(came C k).length/\(came C k).length<=C.length+1:=by
 unfold came;split
 ·lia
 ·rw[dw];show C.length<=C.length+1/\_;show#[by lia,bC _]
theorem aqL{k w:Int}:(up w C).length<=(up w (came C k)).length:=by
 unfold came;split
 ·exact bC _
 ·unfold up;rw[iM,dw];lia
noncomputable def Ac(r v:Int)(C:List Int):Prop:=0<=v/\((up v C).length:Int)<=r/\∀w,0<=w->w<v->r<((up w C).length:Int)
theorem Ac.lvl(h:Ac r v C)(g:Lvl r v v' D)(hm:∀w,(up w C).length<=(up w D).length):Ac r v' D:=by
 have:=h.1;have:=g.1;show#[by lia,g.2.1,fun w a b=>?_];rcases(show w<v\/v<=w by lia)with z|z
 ·have:=h.2.2 w a z;have:=hm w;lia
 ·exact g.2.2 w z b
theorem Ac.le(h:Ac r v C)(r0:0<=r):v<=61:=Lvl.le (ks:=C) (v:=0) #[h.1,h.2.1,h.2.2] r0 tb_g%
noncomputable def auK(A:Ad):Sp:=fun vs H Q _=>Ex8 fun p dx l r n v k C=>Oh (vs=[.ref p,.int k]) (Dn A H p dx l r n v (srt (up v C))) (Ac r v C) (C.length<=62) (0<=r) (r<=800) (∀l' v' H',Lvl r v v' (came C k)->Dn A H' p dx l' r (n+1) v' (srt (up v' (came C k)))->But p H H'->(l'=l\/H l'=none)->Q .non H')
theorem Ol(T:Tx K mg A):FnM P w mg base T.qm CX0 5 (auK A):=by
 k_dat (T.qm,T.qm.ok,Oa) "f"
 ·obtain⟨p,dx,l,r,n,v,k,C,rfl,hd,hL,h8,r0,r8,q⟩:=h;have v0:=hL.1;have v61:=hL.le r0;have hlen:(srt (up v C)).length<=62:=by have:(up v C).length<=C.length:=iV _ _;rw[fj];lia
  show#[_,by (k_dat ([hdA,ZP],[aD (ahl T) ?_,aU ?_ T.xY (qR T) ?_],[]) "p"; k_dat dX "h"; k_dat sV "h"),?_];show#[_,rfl,rdG hd.o (rJ T) #[_,_,rfl,rfl,_,rfl,p,_,dx,_,rfl,hd.o,T.xY,T.Xd,tb_g%,?_]];rw[xK]
  k_dat (nbA,H1,b1,fH1) "n"
  have d1:Dn A H1 p dx l r (n+1) v (srt (up v C)):=#[fH1,b1 _ _ hd.l (fU hd.l hd.o (by intro z;cases z))];show#[_,rfl,k,rfl,fun h hh=>#[_,rfl,rdG d1.o (jC T) #[_,_,rfl,rfl,_,rfl,cW (fun hc=>?_) (fun hc=>?_)]]]
  ·have hc:v<=(h:Int):=mP hc;rw[mk_eq hh]at hc;show#[_,rfl,_,rfl,rdG d1.o (Im T) (.inl #[l,_,rfl,.inl (.inl (.inl d1.l)),rfl,aoI _,_,rfl,?_])];rw[mB rfl,aoH];by_cases m:k∈srt (up v C)
   ·rw[mN m];have ec:came C k=C:=by unfold came;rw[mB (qQ.mp (lV.mp m)).1]
    rw[ec]at q;exact fW (q l v _ #[bR _,hL.2.1,fun w a b=>by lia] d1 b1 (.inl rfl))
   ·rw[mS m];have hk:k∉C:=fun z=>m (lV.mpr (qQ.mpr #[z,hc]));have ec:came C k=C++[k]:=by unfold came;rw[mw hk]
    have eu:∀w,v<=w->up w (srt (up v C)++[k])=up w (srt (up v C))++up w [k]:=fun w _=>by unfold up;rw[iM]
    refine Rr #[_,rfl,p,dx,_,rfl,d1.o,ahm _ _ _ _ tb_g% tb_g% tb_g% tb_g%,?_];show#[_,rfl,rdG d1.o (Im T) #[_,rfl,tb_g%,fun l1 hl1=>?_]];have s2:Same H1 (upd H1 l1 (.lst [.int k])):=Same.new hl1;show#[l,l1,_,_,rfl,rfl,s2 _ _ d1.l,aj,eF (aM (by rw[aC];show(srt (up v C)).length+1<=1000;lia)),fun l2 hl2=>?_];have s3:Same H1 (upd (upd H1 l1 (.lst [.int k])) l2 (.lst ((srt (up v C)++[k]).map V.int))):=s2.trans (Same.new hl2);have f3:(upd (upd H1 l1 (.lst [.int k])) l2 (.lst ((srt (up v C)++[k]).map V.int))) l2=some (.lst ((srt (up v C)++[k]).map V.int)):=aj;rw[show(srt (up v C)).map V.int++[V.int k]=(srt (up v C)++[k]).map V.int by rw[bM];rfl];generalize upd (upd H1 l1 (.lst [.int k])) l2 (.lst ((srt (up v C)++[k]).map V.int))=H3 at s3 f3 ⊢;have d3:=d1.same s3;have pm:(srt (up v C)++[k]).Perm (up v (C++[k])):=by
     have:up v (C++[k])=up v C++[k]:=by unfold up;rw[iM];simp[hc]
     rw[this];exact(fZ _).append_right _
    show#[p,dx,l2,l,r,n+1,v,_,rfl,d3.o,f3,by rw[dw];show(srt (up v C)).length+1<=63;lia,r0,v0,v61,(fun z hz=>(qQ.mp (pm.mem_iff.mp hz)).2),fun l' v' H' lv dn bt nl=>?_];have el:∀w,v<=w->(up w (srt (up v C)++[k])).length=(up w (C++[k])).length:=fun w hw=>(pm.filter _).length_eq.trans (mM jF (aho hw _));have nl1:H1 l'=none:=s3.free nl;have nl0:H l'=none:=gb b1 nl1 fun z=>by rw[z,d1.o]at nl1;cases nl1
    refine q l' v' H' ?_ ?_ (fun b o e m'=>bt b o (s3 _ _ (b1 b o e m')) m') (.inr nl0)
    ·rw[ec];show#[lv.1,by rw[<-el _ lv.1];exact lv.2.1,fun w a b=>by rw[<-el _ a];exact lv.2.2 w a b]
    ·rw[ec];have:up v' (srt (srt (up v C)++[k]))=srt (up v' (C++[k])):=by
      rw[Xn pm,af6,aho lv.1]
     rwa[this]at dn
  ·have hc:¬ v<=(h:Int):=fun z=>hc (mN z);rw[mk_eq hh]at hc;have ew:∀w,v<=w->up w (came C k)=up w C:=fun w hw=>by
    unfold came;split
    ·rfl
    ·unfold up;rw[iM];simp[show ¬ w<=mkOf k by lia]
   refine fW (q l v _ #[bR _,by rw[ew v (bR _)];exact hL.2.1,fun w a b=>by lia] ?_ b1 (.inl rfl));rwa[ew v (bR _)]
noncomputable def fl(r t l:Int)(d:Addr):List (Str × V):=[("room",.int r),("total",.int t),("lost",.int l),("counts",.ref d)]
theorem Ip{K:aH}{A:Ad}(T:Tx K mg A):Fd K A.C'3 ("room" : Str) (fl r t l d) (.int r):=#[T.qj,T.ahd,rfl]
theorem Ir{K:aH}{A:Ad}(T:Tx K mg A):Fd K A.C'3 ("total" : Str) (fl r t l d) (.int t):=#[T.qj,T.Xf,rfl]
theorem Pq{K:aH}{A:Ad}(T:Tx K mg A):Fd K A.C'3 ("lost" : Str) (fl r t l d) (.int l):=#[T.qj,T.Xg,rfl]
theorem uJ{K:aH}{A:Ad}(T:Tx K mg A):Fd K A.C'3 ("counts" : Str) (fl r t l d) (.ref d):=#[T.qj,T.ach,rfl]
theorem ne1:¬ (("room" : Str) = "total"):=by decide +kernel
theorem ne2:¬ (("room" : Str) = "lost"):=by decide +kernel
theorem ne3:¬ (("room" : Str) = "counts"):=by decide +kernel
theorem ne4:¬ (("total" : Str) = "lost"):=by decide +kernel
theorem ne5:¬ (("total" : Str) = "counts"):=by decide +kernel
theorem ne6:¬ (("lost" : Str) = "counts"):=by decide +kernel
theorem aaQ(f:Str)(v:V)(r:List (Str × V))(u:V):bW f v ((f,u)::r)=(f,v)::r:=by unfold bW;rw[mB rfl]
theorem jq(h:¬ g=f)(v:V)(r:List (Str × V))(u:V):bW f v ((g,u)::r)=(g,u)::bW f v r:=by rw[bW,mw h]
theorem auL(r t l:Int)(d:Addr):bW "counts" (.ref d) (bW "lost" (.int l) (bW "total" (.int t) (bW "room" (.int r) [])))=fl r t l d:=by
 unfold fl;rw [show bW "room" (.int r) []=[(("room" : Str),V.int r)] from rfl,jq ne1,show bW "total" (.int t) []=[(("total" : Str),V.int t)] from rfl,jq ne2,jq ne4,
  show bW "lost" (.int l) []=[(("lost" : Str),V.int l)] from rfl,jq ne3,jq ne5,jq ne6]
 rfl
theorem ahr(r t l y:Int)(d:Addr):bW "total" (.int y) (fl r t l d)=fl r y l d:=by
 unfold fl;rw[jq ne1,aaQ]
theorem ahs(r t l y:Int)(d:Addr):bW "lost" (.int y) (fl r t l d)=fl r t y d:=by
 unfold fl;rw[jq ne2,jq ne4,aaQ]
theorem aqM(r t l:Int)(d e:Addr):bW "counts" (.ref e) (fl r t l d)=fl r t l e:=by
 unfold fl;rw[jq ne3,jq ne5,jq ne6,aaQ]
theorem Pr{f m:Str}{v:V}{r:List (Str × V)}(h:¬ m=f):((f,v)::r).lookup m=r.lookup m:=by
 rw[adf];rw[xj.mpr h]
theorem xM(r t l:Int)(d:Addr){m:Str}(h1:¬ m = "room")(h2:¬ m = "total")(h3:¬ m = "lost")(h4:¬ m = "counts"):(fl r t l d).lookup m=none:=by
 unfold fl;rw[Pr h1,Pr h2,Pr h3,Pr h4];rfl
noncomputable def auM(A:Ad):Sp:=fun vs H Q _=>Ex3 fun p dx r=>ou (vs=[.ref p,.int r]) (H p=some (.ins A.C'3 dx [])) (∀d H',H d=none->H' p=some (.ins A.C'3 dx (fl r 0 0 d))->H' d=some (.dK (emb []))->But p H H'->Q .non H')
theorem uK(T:Tx K mg A):FnM P w mg base T.nO CX0 1 (auM A):=by
 k_dat (T.nO,T.nO.ok,K8) "f"
 ·obtain⟨p,dx,r,rfl,hp,k⟩:=h;show#[_,by k_dat ([zy],[],[]) "p",?_];show#[_,rfl,_,rfl,p,_,dx,[],rfl,hp,T.qj,T.ahd,tb_g%,?_];show#[_,rfl,p,_,dx,_,rfl,aj,T.qj,T.Xf,tb_g%,?_];show#[_,rfl,p,_,dx,_,rfl,aj,T.qj,T.Xg,tb_g%,?_];rw[cB,cB];intro d hd;have npd:p≠d:=fun z=>by rw[<-z,aj]at hd;cases hd
  rw[ao (aG npd)]at hd;show#[_,rfl,p,_,dx,_,rfl,(by rw[ao npd];exact aj),T.qj,T.ach,tb_g%,?_];refine k d _ hd (QS aj (by rw[auL])) (by rw[ao (aG npd),aj];rfl) fun b o e hb=>?_;rwa[ao hb,ao (ak e hd),ao hb]
noncomputable def Xo(room:Nat)(c:Tab)(cut:Int):Prop:=if c.length<=room then cut=0 else IsCut room c cut
theorem Xo.auN{cut:Int}(h:Xo room c cut)(hp:∀p∈c,1<=p.2):jV room c (cM c cut) cut:=by
 unfold Xo at h;unfold jV;by_cases e:c.length<=room
 ·rw[mB e]at h ⊢; show#[h,by rw[h,amY hp]]
 ·rw[mw e]at h ⊢; show#[h,rfl]
noncomputable def spCut:Sp:=fun vs H Q _=>Ex3 fun(g:Addr) (c:Tab) (room:Nat)=>oJ (vs=[.ref g,.int room]) (H g=some (.dK (emb c))) (c.length<64) (∀(cut:Int)(H':Hp),Xo room c cut->Same H H'->Q (.int cut) H')
theorem aiT(T:Tx K mg A):FnK P w base T.T9 CX0 1 spCut:=by
 k_dat (T.T9,T.T9.ok,Xj) "f"
 ·obtain⟨g,c,room,rfl,hg,h64,q⟩:=h;show#[_,by k_dat ([],[Xj.nd,ah0 T.fM ?_ ⟨rfl,rfl⟩ rfl],[]) "p",?_];show#[_,rfl,ZX (.inl hg) #[_,rfl,_,_,rfl,rfl,_,rfl,cW (fun h=>?_) (fun h=>?_)]]
  ·have h':((emb c).length:Int)<=room:=mP h;rw[jW]at h';exact q 0 H (by unfold Xo;rw[mB tb_g%]) (Same.refl H)
  ·have h':¬ ((emb c).length:Int)<=room:=fun z=>h (mN z);rw[jW]at h';show#[_,rfl,g,emb c,vals c,rfl,.inl hg,RJ c,(by unfold vals;rwa[aC]),fun l d hl hp hs=>?_];have hlen:d.length=c.length:=by rw[hp.length_eq];unfold vals;rw[aC]
   have e:d[room]? = some d[room]:=eU tb_g%;show#[_,rfl,_,rfl,dj (.inl (.inl aj)) (v:=.int d[room]) (Gp (by rw[dG,e];rfl)) (q _ _ ?_ (Same.new hl))];unfold Xo;rw[mw tb_g%];show#[d,hp,hs,e]
noncomputable def aiU:Sp:=fun vs H Q _=>Ex3 fun g c cut=>uF (vs=[.ref g,.int cut]) (H g=some (.dK (emb c))) ((keys c).Nodup) (c.length<=1000) (∀d H',H d=none->H' d=some (.dK (emb (cM c cut)))->Same H H'->Q (.ref d) H')
theorem acC(c:Tab)(p:Int × Int)(cut:Int):cM (c++[p]) cut=if cut<p.2 then cM c cut++[(p.1,p.2-cut)]else cM c cut:=by
 unfold cM;rw[iM,bM];by_cases h:cut<p.2
 ·rw[mB h];simp[h]
 ·rw[mw h];simp[h]
theorem take_snoc{c:Tab}{i:Nat}{p:Int × Int}(h:c[i]? = some p):c.take (i+1)=c.take i++[p]:=by
 rw[jE,h];rfl
theorem aqN{cut:Int}(hn:(keys c).Nodup)(h:c[i]? = some p)(hc:cut<p.2):put (cM (c.take i) cut) p.1 (p.2-cut)=cM (c.take (i+1)) cut:=by
 rw[take_snoc h,acC,mB hc];refine Av fun z=>?_;have z1:=ZW z;have e:keys (c.take (i+1))=keys (c.take i)++[p.1]:=by rw[take_snoc h];unfold keys;rw[bM];rfl
 have hn':(keys (c.take (i+1))).Nodup:=al0 (al3 _ (Xx _ _)) hn;rw[e,CG]at hn';exact hn'.2.2 p.1 z1 p.1 (by simp) rfl
theorem af7(T:Tx K mg A):FnK P w base T.KZ CX0 1 aiU:=by
 k_dat (T.KZ,T.KZ.ok,Ui) "f"
 ·obtain⟨g,c,cut,rfl,hg,hn,hl,q⟩:=h;show#[_,by k_dat ([zy],[Ui.nd,agI JR rfl ?_ ⟨rfl,rfl⟩ ?_ ?_],[]) "p",?_]
  k_dat lq "c"
  intro d hd;have ngd:g≠d:=ak hg hd;have hg1:(upd H d (.dK [])) g=some (.dK (emb c)):=by rwa[ao ngd]
  show#[_,rfl,g,emb c,rfl,hg1,fun o wm=>WD (fun i σ H2=>Ex2 fun (x y:Option V)=>oJ (σ=[some (.ref g),some (.int cut),some (.ref d),x,y]) (H2 g=some (.frz o (.dK (emb c)))) (H2 d=some (.dK (emb (cM (c.take i) cut)))) ((∀ b u,H b=some u->b≠g->H2 b=some u)))
   #[none,none,rfl,aj,by rw [ao (aG ngd),aj];rfl,fun b u e hb=>by rw [ao hb,ao (ak e hd)];exact e] (fun i σ H2 ⟨_,_,_,h,_,_⟩=>h) ?_ ?_]
  ·rintro i p t σ H2 hi ⟨x,y,rfl,f1,f2,f3⟩ ht;obtain⟨pr,hpr,rfl⟩:=amZ hi;have ngt:g≠t:=ak f1 ht;have ndt:d≠t:=ak f2 ht;have f1':(upd H2 t (.tup [.int pr.1,.int pr.2])) g=some (.frz o (.dK (emb c))):=by rwa[ao ngt]
   have f2':(upd H2 t (.tup [.int pr.1,.int pr.2])) d=some (.dK (emb (cM (c.take i) cut))):=by rwa[ao ndt]
   have f3':∀b u,H b=some u->b≠g->(upd H2 t (.tup [.int pr.1,.int pr.2])) b=some u:=fun b u e hb=>by
    have:=f3 b u e hb;rwa[ao (ak this ht)]
   show#[t,_,rfl,.inl (.inl aj),rfl,_,_,rfl,_,_,rfl,rfl,?_]
   k_dat ld "c"
   show#[_,rfl,_,rfl,_,_,rfl,rfl,_,rfl,cW (fun h=>?_) (fun h=>?_)]
   ·have hc:cut<pr.2:=mP h;have hz:(emb (cM (c.take i) cut)).length<sizeLine:=by
     rw[jW];have:=apS (c.take i) cut;rw[dN]at this;exact aM tb_g%
    show#[_,rfl,_,rfl,_,_,rfl,rfl,_,rfl,_,rfl,Kl f2' hz ?_];rw[zF,aqN hn hpr hc];show#[_,_,rfl,by rwa[ao ngd],aj,fun b u e hb=>?_];have nb:b≠d:=ak e hd;rw[ao nb];exact f3' b u e hb
   ·have hc:¬ cut<pr.2:=fun z=>h (mN z);show#[_,_,rfl,f1',?_,f3'];rwa[take_snoc hpr,acC,mw hc]
  ·rintro σ H2 ⟨x,y,rfl,f1,f2,f3⟩;rw[jW,gZ]at f2;show#[g,emb c,o,wm,f1,_,rfl,q d _ hd ?_ fun b u e=>?_]
   ·rwa[ao (aG ngd)]
   ·by_cases hb:b=g
    ·subst hb;rw[aj,<-e,hg]
    ·rw[ao hb];exact f3 b u e hb
noncomputable def spFit(A:Ad):Sp:=fun vs H Q _=>Ex8 fun(p dx g d:Addr) (room:Nat) (t l:Int) (c:Tab)=>Oh (vs=[.ref p,.ref g]) (H p=some (.ins A.C'3 dx (fl room t l d))) (H g=some (.dK (emb c))) ((keys c).Nodup) ((∀p∈c,1<=p.2)) (c.length<64) (∀(d':Addr)(c':Tab)(cut:Int)(H':Hp),H d'=none->jV room c c' cut->H' p=some (.ins A.C'3 dx (fl room t (l+cut) d'))->H' d'=some (.dK (emb c'))->But p H H'->Q .non H')
theorem xO(T:Tx K mg A):FnM P w mg base T.qp CX0 2 (spFit A):=by
 k_dat (T.qp,T.qp.ok,xg) "f"
 ·obtain⟨p,dx,g,d,room,t,l,c,rfl,hp,hg,hn,pos,h64,q⟩:=h;show#[_,by k_dat ([],[xg.nd,aD (aiT T) ?_,aD (af7 T) ?_],[]) "p",?_]
  k_dat lq "c"
  show#[_,rfl,_,rfl,rdG hp (Ip T) #[g,c,room,rfl,hg,h64,fun cut H1 hc s1=>?_]];show#[_,rfl,_,rfl,g,c,cut,rfl,s1 _ _ hg,hn,by lia,fun d' H2 hd' e2 s2=>?_];have hp2:=s2 _ _ (s1 _ _ hp);have npd:p≠d':=ak (s1 _ _ hp) hd';show#[_,rfl,p,_,dx,_,rfl,hp2,T.qj,T.ach,tb_g%,?_];rw[aqM];show#[_,rfl,rdG aj (Pq T) #[_,rfl,_,_,rfl,rfl,_,rfl,p,_,dx,_,rfl,aj,T.qj,T.Xg,tb_g%,?_]];rw[ahs,cB];refine q d' (cM c cut) cut _ (s1.free hd') (hc.auN pos) aj (by rwa[ao (aG npd)]) fun b o e hb=>?_;rw[ao hb];exact s2 _ _ (s1 _ _ e)
noncomputable def spAdd(A:Ad):Sp:=fun vs H Q _=>Ex8 fun(p dx d:Addr) (room:Nat) (t l k v:Int)=>∃(c:Tab),z7 (vs=[.ref p,.int k,.int v]) (H p=some (.ins A.C'3 dx (fl room t l d))) (H d=some (.dK (emb c))) ((keys c).Nodup) ((∀p∈c,1<=p.2)) (1<=v) (c.length<63) (∀(d':Addr)(c':Tab)(cut:Int)(H':Hp),H d'=none->jV room (put c k (low c k+v)) c' cut->H' p=some (.ins A.C'3 dx (fl room (t+v) (l+cut) d'))->H' d'=some (.dK (emb c'))->But p H H'->Q .non H')
theorem xP(T:Tx K mg A):FnM P w mg base T.qt CX0 3 (spAdd A):=by
 k_dat (T.qt,T.qt.ok,xq) "f"
 ·obtain⟨p,dx,d,room,t,l,k,v,c,rfl,hp,hd,hn,pos,hv,h63,q⟩:=h;have npd:p≠d:=fU hp hd (by intro z;cases z);show#[_,by k_dat ([],[xq.nd,tY Rt (by rfl) T.aos akO ?_,p8 tb_g% ?_ ?_ ?_ ⟨rfl,rfl,rfl,rfl⟩,aU ?_ T.qj (xO T) ?_],[]) "p",?_];show#[_,rfl,rdG hp (Ir T) #[_,rfl,_,_,rfl,rfl,_,rfl,p,_,dx,_,rfl,hp,T.qj,T.Xf,tb_g%,?_]];rw[ahr]
  k_dat lqn "c"
  have hd1:(upd H p (.ins A.C'3 dx (fl room (t+v) l d))) d=some (.dK (emb c)):=by rwa[ao (aG npd)]
  show#[_,rfl,rdG aj (uJ T) #[d,emb c,rfl,.inl hd1,fun g hg=>?_]];have ngp:p≠g:=fun z=>by rw[<-z,aj]at hg;cases hg
  have hg0:H g=none:=by rwa[ao (aG ngp)]at hg
  show#[_,rfl,g,rfl,.inl #[emb c,.inl aj],_,rfl,_,zH (.inl aj),?_];rw[vN];show#[_,rfl,_,_,rfl,rfl,_,rfl,_,rfl,Kl aj (by rw[jW];exact aM tb_g%) ?_];rw[zF,cB];have hp2:∀o,(upd (upd H p (.ins A.C'3 dx (fl room (t+v) l d))) g o) p=some (.ins A.C'3 dx (fl room (t+v) l d)):=fun o=>by rw[ao ngp];exact aj
  show#[_,rfl,p,dx,_,rfl,hp2 _,xM _ _ _ _ tb_g% tb_g% tb_g% tb_g%,_,rfl,p,dx,g,d,room,t+v,l,_,rfl,hp2 _,aj,ZR hn _ _,ZV pos (by have:=vK pos k;lia),?_,fun d' c' cut H' e1 e2 e3 e4 e5=>?_]
  ·have:=ZS c k (low c k+v);lia
  ·have ngd:g≠d':=fun z=>by rw[<-z,aj]at e1;cases e1
   have npd':p≠d':=fun z=>by rw[<-z,hp2]at e1;cases e1
   rw[ao (aG ngd),ao (aG npd')]at e1;refine q d' c' cut H' e1 e2 e3 e4 fun b o e hb=>e5 b o ?_ hb;rwa[ao (ak e hg0),ao hb]
noncomputable def bf(aQ jz:V):List (Str × V):=[("span",aQ),("sums",jz)]
theorem Iu{K:aH}{A:Ad}(T:Tx K mg A):Fd K A.C'4 ("span" : Str) (bf aQ jz) aQ:=#[T.VH,T.ahe,rfl]
theorem Iv{K:aH}{A:Ad}(T:Tx K mg A):Fd K A.C'4 ("sums" : Str) (bf aQ jz) jz:=#[T.VH,T.T5,rfl]
theorem auO(aQ jz:V):bW "sums" jz (bW "span" aQ [])=bf aQ jz:=by
 unfold bf
 walk_at "rec"
theorem Ae(aQ jz y:V):bW "sums" y (bf aQ jz)=bf aQ y:=by
 unfold bf
 walk_at "rec"
theorem bfN(h:m∉[("span" : Str),("sums" : Str)]):(bf aQ jz).lookup m=none:=by
 simp only[aX,fH,or_false,not_or]at h;obtain⟨Ur,af8⟩:=h;unfold bf;rw[bH Ur,bH af8];rfl
theorem arO(aQ jz:V){m:Str}(Ur:¬ m = "span")(af8:¬ m = "sums"):(bf aQ jz).lookup m=none:=by
 unfold bf;rw[bH Ur,bH af8];rfl
structure Q4 where
 a:Int
 b:Int
 c:Int
 d:Int
noncomputable def L4(q:Q4):List Int:=[q.a,q.b,q.c,q.d]
noncomputable def addQ(q p:Q4):Q4:=#[q.a+p.a,q.b+p.b,q.c+p.c,q.d+p.d]
noncomputable def pwQ(t w:Int):Q4:=#[w,w*t,w*t*t,w*t*t*t]
noncomputable def dI:Q4:=#[0,0,0,0]
noncomputable def aoJ(t w:Int):Nat->Int
 |0=>w
 |n+1=>aoJ t w n*t
structure Bn(A:Ad)(H:Hp)(p dx l:Addr)(s:Int)(q:Q4):Prop where
 o:H p=some (.ins A.C'4 dx (bf (.int s) (.ref l)))
 l:H l=some (.lst ((L4 q).map V.int))
theorem Bn.same{A:Ad}{H H':Hp}{p dx l:Addr}{s:Int}{q:Q4}(h:Bn A H p dx l s q)(z:Same H H'):Bn A H' p dx l s q:=#[z _ _ h.o,z _ _ h.l]
theorem Bn.but{A:Ad}{H H':Hp}{p dx l x C e:Addr}{fs:List (Str × V)}{s:Int}{q:Q4}(h:Bn A H p dx l s q)(z:But x H H')(hq:H x=some (.ins C e fs))(m:p≠x):Bn A H' p dx l s q:=#[z _ _ h.o m,z _ _ h.l (fU h.l hq (by intro z;cases z))]
noncomputable def aiV:Sp:=fun vs H Q _=>Ex4 fun l t w q=>uF (vs=[.ref l,.int t,.int w]) (H l=some (.lst ((L4 q).map V.int))) (0<=t) (t<2 ^ 64) (∀l' H',H l'=none->H' l'=some (.lst ((L4 (addQ q (pwQ t w))).map V.int))->Same H H'->Q (.ref l') H')
theorem eY(h:((L4 q).map V.int)[i]? = some x):(i=0/\x=.int q.a)\/(i=1/\x=.int q.b)\/(i=2/\x=.int q.c)\/(i=3/\x=.int q.d):=by
 match i,h with
 |0,h=>exact .inl #[rfl,(cA h).symm]
 |1,h=>exact .inr (.inl #[rfl,(cA h).symm])
 |2,h=>exact .inr (.inr (.inl #[rfl,(cA h).symm]))
 |3,h=>exact .inr (.inr (.inr #[rfl,(cA h).symm]))
 |n+4,h=>simp[L4]at h
theorem Af(T:Tx K mg A):FnK P w base T.Fl CX0 1 aiV:=by
 k_dat (T.Fl,T.Fl.ok,MF) "f"
 ·obtain⟨l,t,w,q,rfl,hl,t0,t1,k⟩:=h;show#[_,by k_dat ([fK],[MF.nd],[]) "p",?_]
  k_dat lq "c"
  show#[tb_g%,fun D hD=>?_]
  k_dat lqg "c"
  show#[_,rfl,?_];have sD:Same H (upd H D (.lst [])):=Same.new hD;show#[_,rfl,l,rfl,#[_,.inl (.inl (sD _ _ hl))],dR (K:=K) (a:=l) (xs:=(L4 q).map V.int) (fun i σ H2=>∃x,ou (σ=[some (.ref l),some (.int t),some (.int w),some (.ref D),some (.int (aoJ t w i)),x]) (H2 D=some (.lst (((L4 (addQ q (pwQ t w))).take i).map V.int))) (Same H H2)) #[none,rfl,aj,sD] (fun i σ H2 _ ⟨_,_,_,s⟩=>.inl (.inl (s _ _ hl))) ?_ ?_]
  ·rintro i y σ H2 hi ⟨x,rfl,f,s2⟩;have hz:∀n:Nat,n<=4->(((L4 (addQ q (pwQ t w))).take n).map V.int).length<sizeLine:=fun n hn=>aM (by rw[aC,dN];lia);have keep:∀L b o,H b=some o->(upd H2 D L) b=some o:=fun L b o e=>by rw[ao (ak e hD)];exact s2 _ _ e
   rcases eY hi with⟨rfl,rfl⟩|⟨rfl,rfl⟩|⟨rfl,rfl⟩|⟨rfl,rfl⟩
   ·show#[_,rfl,.inl #[rfl,_,.inl (.inl f)],_,rfl,_,rfl,_,_,rfl,rfl,D,_,_,rfl,rfl,f,hz 0 tb_g%,?_];show#[_,rfl,_,rfl,_,_,rfl,rfl,dB tb_g% t1,_,rfl,aj,keep _]
   ·show#[_,rfl,.inl #[rfl,_,.inl (.inl f)],_,rfl,_,rfl,_,_,rfl,rfl,D,_,_,rfl,rfl,f,hz 1 tb_g%,?_];show#[_,rfl,_,rfl,_,_,rfl,rfl,dB tb_g% t1,_,rfl,aj,keep _]
   ·show#[_,rfl,.inl #[rfl,_,.inl (.inl f)],_,rfl,_,rfl,_,_,rfl,rfl,D,_,_,rfl,rfl,f,hz 2 tb_g%,?_];show#[_,rfl,_,rfl,_,_,rfl,rfl,dB tb_g% t1,_,rfl,aj,keep _]
   ·show#[_,rfl,.inl #[rfl,_,.inl (.inl f)],_,rfl,_,rfl,_,_,rfl,rfl,D,_,_,rfl,rfl,f,hz 3 tb_g%,?_];show#[_,rfl,_,rfl,_,_,rfl,rfl,dB tb_g% t1,_,rfl,aj,keep _]
  ·rintro σ H2 ⟨x,rfl,f,s2⟩;show#[_,rfl,k D H2 hD f s2]
noncomputable def aqO(A:Ad):Sp:=fun vs H Q _=>Ex3 fun p dx s=>ou (vs=[.ref p,.int s]) (H p=some (.ins A.C'4 dx [])) (∀d H',H d=none->Bn A H' p dx d s dI->But p H H'->Q .non H')
theorem xQ(T:Tx K mg A):FnM P w mg base T.qu CX0 1 (aqO A):=by
 k_dat (T.qu,T.qu.ok,Ob) "f"
 ·obtain⟨p,dx,sp,rfl,hp,q⟩:=h;show#[_,by k_dat ([],[],[]) "p",?_];show#[_,rfl,_,rfl,p,_,dx,[],rfl,hp,T.VH,T.ahe,tb_g%,?_];show#[tb_g%,fun d hd=>?_];have npd:p≠d:=fun z=>by rw[<-z,aj]at hd;cases hd
  rw[ao (aG npd)]at hd;show#[_,rfl,p,_,dx,_,rfl,(by rw[ao npd];exact aj),T.VH,T.T5,tb_g%,?_];refine q d _ hd #[QS aj (by rw[auO]),by rw[ao (aG npd),aj];rfl] fun b o e hb=>?_;rwa[ao hb,ao (ak e hd),ao hb]
noncomputable def aoK(A:Ad)(sg:Bool):Sp:=fun vs H Q _=>Ex7 fun p dx l s t w q=>uF (vs=[.ref p,.int t,.int w]) (Bn A H p dx l s q) (0<=t) (t<2 ^ 64) (∀l' H',Bn A H' p dx l' s (addQ q (pwQ t (if sg then -w else w)))->But p H H'->H l'=none->Q .non H')
theorem Us(T:Tx K mg A):FnM P w mg base T.tH CX0 2 (aoK A false):=by
 k_dat (T.tH,T.tH.ok,Uj) "f"
 ·obtain⟨p,dx,l,sp,t,w,q,rfl,hb,t0,t1,k⟩:=h;show#[_,by k_dat ([],[aD (Af T) ?_],[]) "p",?_];show#[_,rfl,rdG hb.o (Iv T) #[_,rfl,_,rfl,l,t,w,q,rfl,hb.l,t0,t1,fun l' H1 nl' f1 s1=>?_]];show#[_,rfl,p,_,dx,_,rfl,s1 _ _ hb.o,T.VH,T.T5,tb_g%,?_];rw[Ae];have npl:l'≠p:=aG (ak hb.o nl');exact k l' _ #[aj,by rwa[ao npl]] (fun b o e m=>by rw[ao m];exact s1 _ _ e) nl'
theorem Om(T:Tx K mg A):FnM P w mg base T.qw CX0 2 (aoK A true):=by
 k_dat (T.qw,T.qw.ok,Oc) "f"
 ·obtain⟨p,dx,l,sp,t,w,q,rfl,hb,t0,t1,k⟩:=h;show#[_,by k_dat ([],[aD (Af T) ?_],[]) "p",?_];show#[_,rfl,rdG hb.o (Iv T) #[_,rfl,_,rfl,_,rfl,l,t,-w,q,rfl,hb.l,t0,t1,fun l' H1 nl' f1 s1=>?_]];show#[_,rfl,p,_,dx,_,rfl,s1 _ _ hb.o,T.VH,T.T5,tb_g%,?_];rw[Ae];have npl:l'≠p:=aG (ak hb.o nl');exact k l' _ #[aj,by rwa[ao npl]] (fun b o e m=>by rw[ao m];exact s1 _ _ e) nl'
noncomputable def kf(au aF aQ bI bJ eZ bK aO bL aJ:V):List (Str × V):=[("room",au),("reach",aF),("span",aQ),("came",bI),("went",bJ),("up",eZ),("down",bK),("window",aO),("seen",bL),("balance",aJ)]
theorem Pu{K:aH}{A:Ad}(T:Tx K mg A):Fd K A.C'5 ("room" : Str) (kf au aF aQ bI bJ eZ bK aO bL aJ) au:=#[T.gQ,T.ahf,rfl]
theorem Ag{K:aH}{A:Ad}(T:Tx K mg A):Fd K A.C'5 ("reach" : Str) (kf au aF aQ bI bJ eZ bK aO bL aJ) aF:=#[T.gQ,T.ahg,rfl]
theorem Bk{K:aH}{A:Ad}(T:Tx K mg A):Fd K A.C'5 ("span" : Str) (kf au aF aQ bI bJ eZ bK aO bL aJ) aQ:=#[T.gQ,T.ahh,rfl]
theorem Bl{K:aH}{A:Ad}(T:Tx K mg A):Fd K A.C'5 ("came" : Str) (kf au aF aQ bI bJ eZ bK aO bL aJ) bI:=#[T.gQ,T.aci,rfl]
theorem Iw{K:aH}{A:Ad}(T:Tx K mg A):Fd K A.C'5 ("went" : Str) (kf au aF aQ bI bJ eZ bK aO bL aJ) bJ:=#[T.gQ,T.acj,rfl]
theorem acD{K:aH}{A:Ad}(T:Tx K mg A):Fd K A.C'5 ("up" : Str) (kf au aF aQ bI bJ eZ bK aO bL aJ) eZ:=#[T.gQ,T.acn,rfl]
theorem Px{K:aH}{A:Ad}(T:Tx K mg A):Fd K A.C'5 ("down" : Str) (kf au aF aQ bI bJ eZ bK aO bL aJ) bK:=#[T.gQ,T.aco,rfl]
theorem oM{K:aH}{A:Ad}(T:Tx K mg A):Fd K A.C'5 ("window" : Str) (kf au aF aQ bI bJ eZ bK aO bL aJ) aO:=#[T.gQ,T.acp,rfl]
theorem Py{K:aH}{A:Ad}(T:Tx K mg A):Fd K A.C'5 ("seen" : Str) (kf au aF aQ bI bJ eZ bK aO bL aJ) bL:=#[T.gQ,T.acq,rfl]
theorem qT{K:aH}{A:Ad}(T:Tx K mg A):Fd K A.C'5 ("balance" : Str) (kf au aF aQ bI bJ eZ bK aO bL aJ) aJ:=#[T.gQ,T.acr,rfl]
theorem auP(au aF aQ bI bJ eZ bK aO bL aJ:V):bW "balance" aJ (bW "seen" bL (bW "window" aO (bW "down" bK (bW "up" eZ (bW "went" bJ (bW "came" bI (bW "span" aQ (bW "reach" aF (bW "room" au [])))))))))=kf au aF aQ bI bJ eZ bK aO bL aJ:=by
 unfold kf
 walk_at "rec"
theorem acE(au aF aQ bI bJ eZ bK aO bL aJ y:V):bW "came" y (kf au aF aQ bI bJ eZ bK aO bL aJ)=kf au aF aQ y bJ eZ bK aO bL aJ:=by
 unfold kf
 walk_at "rec"
theorem acF(au aF aQ bI bJ eZ bK aO bL aJ y:V):bW "went" y (kf au aF aQ bI bJ eZ bK aO bL aJ)=kf au aF aQ bI y eZ bK aO bL aJ:=by
 unfold kf
 walk_at "rec"
theorem aiW(au aF aQ bI bJ eZ bK aO bL aJ y:V):bW "up" y (kf au aF aQ bI bJ eZ bK aO bL aJ)=kf au aF aQ bI bJ y bK aO bL aJ:=by
 unfold kf
 walk_at "rec"
theorem acG(au aF aQ bI bJ eZ bK aO bL aJ y:V):bW "down" y (kf au aF aQ bI bJ eZ bK aO bL aJ)=kf au aF aQ bI bJ eZ y aO bL aJ:=by
 unfold kf
 walk_at "rec"
theorem V2(au aF aQ bI bJ eZ bK aO bL aJ y:V):bW "window" y (kf au aF aQ bI bJ eZ bK aO bL aJ)=kf au aF aQ bI bJ eZ bK y bL aJ:=by
 unfold kf
 walk_at "rec"
theorem acH(au aF aQ bI bJ eZ bK aO bL aJ y:V):bW "seen" y (kf au aF aQ bI bJ eZ bK aO bL aJ)=kf au aF aQ bI bJ eZ bK aO y aJ:=by
 unfold kf
 walk_at "rec"
theorem Ut(au aF aQ bI bJ eZ bK aO bL aJ y:V):bW "balance" y (kf au aF aQ bI bJ eZ bK aO bL aJ)=kf au aF aQ bI bJ eZ bK aO bL y:=by
 unfold kf
 walk_at "rec"
theorem kfN(h:m∉[("room" : Str),("reach" : Str),("span" : Str),("came" : Str),("went" : Str),("up" : Str),("down" : Str),("window" : Str),("seen" : Str),("balance" : Str)]):(kf au aF aQ bI bJ eZ bK aO bL aJ).lookup m=none:=by
 simp only[aX,fH,or_false,not_or]at h;obtain⟨qP,Ij,Ur,auQ,auR,h_up,auS,aoL,auT,aiX⟩:=h;unfold kf;rw[bH qP,bH Ij,bH Ur,bH auQ,bH auR,bH h_up,bH auS,bH aoL,bH auT,bH aiX];rfl
structure Fq where
 (p dx d:Addr) (t l:Int) (c:Tab)
structure Rs where
 (dx a:Addr) (bs:List Addr) (r tt ov un tn:Int) (mi ma:Option Int) (ls:RG.Ls)
noncomputable abbrev RnX(A:Ad)(H:Hp)(p:Addr)(x:Rs):Prop:=Rn A H p x.dx x.a x.bs x.r x.tt x.ov x.un x.tn x.mi x.ma x.ls
structure Ru where
 (p:Addr) (x:Rs)
structure Wi where
 (p dx l:Addr) (c:Int) (ps:List Bp)
structure Di where
 (p dx l:Addr) (n v:Int) (C:List Int)
structure Ba where
 (p dx l:Addr) (q:Q4)
structure KS where
 (k dk:Addr) (room:Nat) (reach span:Int) (cm wn:Fq) (up dn:Ru) (wi:Wi) (di:Di) (ba:Ba)
structure uL(A:Ad)(H:Hp)(room:Nat)(f:Fq):Prop where
 o:H f.p=some (.ins A.C'3 f.dx (fl room f.t f.l f.d))
 d:H f.d=some (.dK (emb f.c))
theorem uL.same{A:Ad}(h:uL A H room f)(s:Same H H'):uL A H' room f:=#[s _ _ h.o,s _ _ h.d]
theorem uL.but{A:Ad}(h:uL A H room f)(s:L2.But q H H')(hq:H q=some (.ins C e fs))(n:f.p≠q):uL A H' room f:=
 #[s _ _ h.o n,s _ _ h.d (fU h.d hq (by intro z;cases z))]
noncomputable def KS.all(x:KS):List Addr:=[x.k,x.cm.p,x.wn.p,x.up.p,x.dn.p,x.wi.p,x.di.p,x.ba.p]
structure Kp(A:Ad)(H:Hp)(x:KS):Prop where
 o:H x.k=some (.ins A.C'5 x.dk (kf (.int x.room) (.int x.reach) (.int x.span) (.ref x.cm.p) (.ref x.wn.p) (.ref x.up.p) (.ref x.dn.p) (.ref x.wi.p) (.ref x.di.p) (.ref x.ba.p)))
 cm:uL A H x.room x.cm
 wn:uL A H x.room x.wn
 up:RnX A H x.up.p x.up.x
 dn:RnX A H x.dn.p x.dn.x
 wi:Wn A H x.wi.p x.wi.dx x.wi.l x.room x.reach x.wi.c x.wi.ps
 di:Dn A H x.di.p x.di.dx x.di.l x.room x.di.n x.di.v (srt (My.up x.di.v x.di.C))
 ba:Bn A H x.ba.p x.ba.dx x.ba.l x.span x.ba.q
 nd:x.all.Nodup
theorem Kp.same{A:Ad}(h:Kp A H x)(s:Same H H'):Kp A H' x:=#[s _ _ h.o,h.cm.same s,h.wn.same s,h.up.same s,h.dn.same s,h.wi.same s,h.di.same s,h.ba.same s,h.nd]
structure Ap(x:KS):Prop where
 k1:x.k≠x.cm.p
 k2:x.k≠x.wn.p
 k3:x.k≠x.up.p
 k4:x.k≠x.dn.p
 k5:x.k≠x.wi.p
 k6:x.k≠x.di.p
 k7:x.k≠x.ba.p
 c2:x.cm.p≠x.wn.p
 c3:x.cm.p≠x.up.p
 c4:x.cm.p≠x.dn.p
 c5:x.cm.p≠x.wi.p
 c6:x.cm.p≠x.di.p
 c7:x.cm.p≠x.ba.p
 w3:x.wn.p≠x.up.p
 w4:x.wn.p≠x.dn.p
 w5:x.wn.p≠x.wi.p
 w6:x.wn.p≠x.di.p
 w7:x.wn.p≠x.ba.p
 u4:x.up.p≠x.dn.p
 u5:x.up.p≠x.wi.p
 u6:x.up.p≠x.di.p
 u7:x.up.p≠x.ba.p
 d5:x.dn.p≠x.wi.p
 d6:x.dn.p≠x.di.p
 d7:x.dn.p≠x.ba.p
 i6:x.wi.p≠x.di.p
 i7:x.wi.p≠x.ba.p
 s7:x.di.p≠x.ba.p
theorem Kp.ap{A:Ad}(h:Kp A H x):Ap x:=by
 have n:=h.nd;unfold KS.all at n;simp only[iW,aX,fH,or_false,not_or,qY,and_true,not_false_eq_true]at n;obtain⟨⟨k1,k2,k3,k4,k5,k6,k7⟩,⟨c2,c3,c4,c5,c6,c7⟩,⟨w3,w4,w5,w6,w7⟩,⟨u4,u5,u6,u7⟩,⟨d5,d6,d7⟩,⟨i6,i7⟩,s7⟩:=n;show#[k1,k2,k3,k4,k5,k6,k7,c2,c3,c4,c5,c6,c7,w3,w4,w5,w6,w7,u4,u5,u6,u7,d5,d6,d7,i6,i7,s7]
theorem acI(r e:Int)(bs:List WN.Box):(kJ r e bs).length<=bs.length:=by
 unfold kJ;rw[yg];have h1:=WN.abR r (bs.filter fun b=>decide (e<b.l)).reverse;rw[yg]at h1;exact cH h1 (iV _ _)
theorem mQ{r T ov un:Int}{ls:RG.Ls}{n:Nat}(g:RG.Good r T ov un ls)(h:T<=1000000000000*n)(hn:n<=63):ls.length<=60/\RG.val ls<2 ^ 400:=by
 have e:(2:Int) ^ 60=1152921504606846976:=by decide
 show#[g.len (by rw[e];lia),?_];have:=g.vl;have e:(1152921504606846976:Nat)<2 ^ 400:=by decide
 lia
noncomputable def KS.pts(x:KS):List Addr:=[x.cm.p,x.wn.p,x.up.p,x.dn.p,x.wi.p,x.di.p,x.ba.p]
structure Pp(A:Ad)(H:Hp)(x:KS):Prop where
 cm:uL A H x.room x.cm
 wn:uL A H x.room x.wn
 up:RnX A H x.up.p x.up.x
 dn:RnX A H x.dn.p x.dn.x
 wi:Wn A H x.wi.p x.wi.dx x.wi.l x.room x.reach x.wi.c x.wi.ps
 di:Dn A H x.di.p x.di.dx x.di.l x.room x.di.n x.di.v (srt (My.up x.di.v x.di.C))
 ba:Bn A H x.ba.p x.ba.dx x.ba.l x.span x.ba.q
 nd:x.pts.Nodup
theorem Kp.pp{A:Ad}(h:Kp A H x):Pp A H x:=#[h.cm,h.wn,h.up,h.dn,h.wi,h.di,h.ba,(iW.mp h.nd).2]
theorem Kp.nk{A:Ad}(h:Kp A H x):x.k∉x.pts:=(iW.mp h.nd).1
section
variable{A:Ad}{H H':Hp}{x:KS}
theorem Pp.kp(h:Pp A H x)(o:H x.k=some (.ins A.C'5 x.dk (kf (.int x.room) (.int x.reach) (.int x.span) (.ref x.cm.p) (.ref x.wn.p) (.ref x.up.p) (.ref x.dn.p) (.ref x.wi.p) (.ref x.di.p) (.ref x.ba.p))))(n:x.k∉x.pts):Kp A H x:=
 #[o,h.cm,h.wn,h.up,h.dn,h.wi,h.di,h.ba,iW.mpr #[n,h.nd]]
theorem Pp.but(h:Pp A H x)(b:L2.But q H H')(hq:H q=some (.ins C e fs))(n:q∉x.pts):Pp A H' x:=by
 unfold KS.pts at n;simp only[aX,fH,or_false,not_or]at n;obtain⟨n1,n2,n3,n4,n5,n6,n7⟩:=n;show#[h.cm.but b hq (aG n1),h.wn.but b hq (aG n2),h.up.but b hq (aG n3),h.dn.but b hq (aG n4),h.wi.but b hq (aG n5),h.di.but b hq (aG n6),h.ba.but b hq (aG n7),h.nd]
structure Ap7(x:KS):Prop where
 c:x.cm.p≠x.wn.p/\x.cm.p≠x.up.p/\x.cm.p≠x.dn.p/\x.cm.p≠x.wi.p/\x.cm.p≠x.di.p/\x.cm.p≠x.ba.p
 w:x.wn.p≠x.up.p/\x.wn.p≠x.dn.p/\x.wn.p≠x.wi.p/\x.wn.p≠x.di.p/\x.wn.p≠x.ba.p
 u:x.up.p≠x.dn.p/\x.up.p≠x.wi.p/\x.up.p≠x.di.p/\x.up.p≠x.ba.p
 d:x.dn.p≠x.wi.p/\x.dn.p≠x.di.p/\x.dn.p≠x.ba.p
 i:x.wi.p≠x.di.p/\x.wi.p≠x.ba.p
 s:x.di.p≠x.ba.p
theorem Pp.ap(h:Pp A H x):Ap7 x:=by
 have n:=h.nd;unfold KS.pts at n;simp only[iW,aX,fH,or_false,not_or,qY,and_true,not_false_eq_true]at n;obtain⟨c,w,u,d,i,s⟩:=n;show#[c,w,u,d,i,s]
theorem Pp.setC(h:Pp A H x){f:Fq}(e:f.p=x.cm.p)(b:L2.But x.cm.p H H')(hf:uL A H' x.room f):Pp A H' { x with cm:=f }:=by
 have a:=h.ap;have q:=h.cm.o;obtain ⟨a1,a2,a3,a4,a5,a6⟩:=a.c;show#[hf,h.wn.but b q (aG a1),h.up.but b q (aG a2),h.dn.but b q (aG a3),h.wi.but b q (aG a4),h.di.but b q (aG a5),h.ba.but b q (aG a6),by
  show [f.p,x.wn.p,x.up.p,x.dn.p,x.wi.p,x.di.p,x.ba.p].Nodup;rw [e];exact h.nd]
theorem Pp.setW(h:Pp A H x){f:Fq}(e:f.p=x.wn.p)(b:L2.But x.wn.p H H')(hf:uL A H' x.room f):Pp A H' { x with wn:=f }:=by
 have a:=h.ap;have q:=h.wn.o;obtain ⟨a2,a3,a4,a5,a6⟩:=a.w;show#[h.cm.but b q a.c.1,hf,h.up.but b q (aG a2),h.dn.but b q (aG a3),h.wi.but b q (aG a4),h.di.but b q (aG a5),h.ba.but b q (aG a6),by
  show [x.cm.p,f.p,x.up.p,x.dn.p,x.wi.p,x.di.p,x.ba.p].Nodup;rw [e];exact h.nd]
theorem Pp.setU(h:Pp A H x){f:Ru}(e:f.p=x.up.p)(b:L2.But x.up.p H H')(hf:RnX A H' f.p f.x):Pp A H' { x with up:=f }:=by
 have a:=h.ap;have q:=h.up.o;obtain ⟨a3,a4,a5,a6⟩:=a.u;show#[h.cm.but b q a.c.2.1,h.wn.but b q a.w.1,hf,h.dn.but b q (aG a3),h.wi.but b q (aG a4),h.di.but b q (aG a5),h.ba.but b q (aG a6),by
  show [x.cm.p,x.wn.p,f.p,x.dn.p,x.wi.p,x.di.p,x.ba.p].Nodup;rw [e];exact h.nd]
theorem Pp.setD(h:Pp A H x){f:Ru}(e:f.p=x.dn.p)(b:L2.But x.dn.p H H')(hf:RnX A H' f.p f.x):Pp A H' { x with dn:=f }:=by
 have a:=h.ap;have q:=h.dn.o;obtain ⟨a4,a5,a6⟩:=a.d;show#[h.cm.but b q a.c.2.2.1,h.wn.but b q a.w.2.1,h.up.but b q a.u.1,hf,h.wi.but b q (aG a4),h.di.but b q (aG a5),h.ba.but b q (aG a6),by
  show [x.cm.p,x.wn.p,x.up.p,f.p,x.wi.p,x.di.p,x.ba.p].Nodup;rw [e];exact h.nd]
theorem Pp.setI(h:Pp A H x){f:Wi}(e:f.p=x.wi.p)(b:L2.But x.wi.p H H')(hf:Wn A H' f.p f.dx f.l x.room x.reach f.c f.ps):Pp A H' { x with wi:=f }:=by
 have a:=h.ap;have q:=h.wi.o;show#[h.cm.but b q a.c.2.2.2.1,h.wn.but b q a.w.2.2.1,h.up.but b q a.u.2.1,h.dn.but b q a.d.1,hf,h.di.but b q (aG a.i.1),h.ba.but b q (aG a.i.2),by
  show [x.cm.p,x.wn.p,x.up.p,x.dn.p,f.p,x.di.p,x.ba.p].Nodup;rw [e];exact h.nd]
theorem Pp.setS(h:Pp A H x){f:Di}(e:f.p=x.di.p)(b:L2.But x.di.p H H')(hf:Dn A H' f.p f.dx f.l x.room f.n f.v (srt (My.up f.v f.C))):Pp A H' { x with di:=f }:=by
 have a:=h.ap;have q:=h.di.o;show#[h.cm.but b q a.c.2.2.2.2.1,h.wn.but b q a.w.2.2.2.1,h.up.but b q a.u.2.2.1,h.dn.but b q a.d.2.1,h.wi.but b q a.i.1,hf,h.ba.but b q (aG a.s),by
  show [x.cm.p,x.wn.p,x.up.p,x.dn.p,x.wi.p,f.p,x.ba.p].Nodup;rw [e];exact h.nd]
theorem Pp.setB(h:Pp A H x){f:Ba}(e:f.p=x.ba.p)(b:L2.But x.ba.p H H')(hf:Bn A H' f.p f.dx f.l x.span f.q):Pp A H' { x with ba:=f }:=by
 have a:=h.ap;have q:=h.ba.o;show#[h.cm.but b q a.c.2.2.2.2.2,h.wn.but b q a.w.2.2.2.2,h.up.but b q a.u.2.2.2,h.dn.but b q a.d.2.2,h.wi.but b q a.i.2,h.di.but b q a.s,hf,by
  show [x.cm.p,x.wn.p,x.up.p,x.dn.p,x.wi.p,x.di.p,f.p].Nodup;rw [e];exact h.nd]
structure Far(A:Ad)(ps:List Addr)(H H':Hp):Prop where
 pb:∀b o,H b=some o->b∉ps->H' b=some o
 py:∀y:KS,Pp A H y->(∀b∈y.pts,b∉ps)->Pp A H' y
theorem Far.of(m:p∈ps)(hq:H p=some (.ins C e fs))(b:L2.But p H H'):Far A ps H H':=
 #[fun c o e n=>b c o e fun z=>n (by rwa[z]),fun y h d=>h.but b hq fun z=>d p z m]
theorem Far.trans(a:Far A ps H H1)(b:Far A ps H1 H'):Far A ps H H':=#[fun c o e n=>b.pb c o (a.pb c o e n) n,fun y h d=>b.py y (a.py y h d) d]
end
noncomputable def FS(room:Nat)(th w:Int)(f g:Fq):Prop:=∃cut,jV room (put f.c th (low f.c th+w)) g.c cut/\g.t=f.t+w/\g.l=f.l+cut
structure RS(th w:Int)(f g:Rs):Prop where
 r:g.r=f.r
 tt:g.tt=f.tt+w
 mi:g.mi=lo2 f.mi (some th)
 ma:g.ma=hi2 f.ma (some th)
 st:RG.Stl f.r 0 f.tn f.ov f.un (RG.fB th f.ls w.toNat) g.ls g.tn g.ov g.un
noncomputable def WS(room:Nat)(reach c:Int)(bs:List WN.Box)(g:Wi):Prop:=g.c=c/\bx g.ps=kJ room (c-reach) bs
noncomputable def DS(room:Nat)(th:Int)(f g:Di):Prop:=g.n=f.n+1/\g.C=came f.C th/\Lvl room f.v g.v (came f.C th)
structure SB(x x':KS):Prop where
 room:x'.room=x.room
 reach:x'.reach=x.reach
 span:x'.span=x.span
 pts:x'.pts=x.pts
 k:x'.k=x.k
 dk:x'.dk=x.dk
structure SP(th w:Int)(x x':KS):Prop where
 sb:SB x x'
 cm:FS x.room th w x.cm x'.cm
 wn:x'.wn=x.wn
 up:RS th w x.up.x x'.up.x
 dn:x'.dn=x.dn
 wi:WS x.room x.reach (x.wi.c+1) (bx x.wi.ps++[#[x.wi.c+1,x.wi.c+1,w]]) x'.wi
 di:DS x.room th x.di x'.di
 ba:x'.ba.q=if th<x.span then addQ x.ba.q (pwQ th w)else x.ba.q
structure ST(th w:Int)(x x':KS):Prop where
 sb:SB x x'
 cm:x'.cm=x.cm
 wn:FS x.room th w x.wn x'.wn
 up:x'.up=x.up
 dn:RS th w x.dn.x x'.dn.x
 wi:WS x.room x.reach (x.wi.c+1) (bx x.wi.ps) x'.wi
 di:x'.di=x.di
 ba:x'.ba.q=if th<x.span then addQ x.ba.q (pwQ th (-w))else x.ba.q
structure SI(w:Int)(x x':KS):Prop where
 sb:SB x x'
 cm:x'.cm=x.cm
 wn:x'.wn=x.wn
 up:x'.up=x.up
 dn:x'.dn=x.dn
 wi:WS x.room x.reach (x.wi.c+w) (bx x.wi.ps) x'.wi
 di:x'.di=x.di
 ba:x'.ba=x.ba
structure EF(f g:Fq):Prop where
 t:f.t=g.t
 l:f.l=g.l
 c:f.c=g.c
structure ER(f g:Rs):Prop where
 r:f.r=g.r
 tt:f.tt=g.tt
 ov:f.ov=g.ov
 un:f.un=g.un
 tn:f.tn=g.tn
 mi:f.mi=g.mi
 ma:f.ma=g.ma
 ls:f.ls=g.ls
structure EW(f g:Wi):Prop where
 c:f.c=g.c
 b:bx f.ps=bx g.ps
structure ED(f g:Di):Prop where
 n:f.n=g.n
 v:f.v=g.v
 C:f.C=g.C
structure Eqp(x y:KS):Prop where
 room:x.room=y.room
 reach:x.reach=y.reach
 span:x.span=y.span
 cm:EF x.cm y.cm
 wn:EF x.wn y.wn
 up:ER x.up.x y.up.x
 dn:ER x.dn.x y.dn.x
 wi:EW x.wi y.wi
 di:ED x.di y.di
 ba:x.ba.q=y.ba.q
theorem Eqp.idle{w:Int}(e:Eqp x y)(a:SI w x x')(b:SI w y y'):Eqp x' y':=
 #[by rw [a.sb.room,b.sb.room,e.room],by rw [a.sb.reach,b.sb.reach,e.reach],by rw [a.sb.span,b.sb.span,e.span],by rw [a.cm,b.cm];exact e.cm,by rw [a.wn,b.wn];exact e.wn,by rw [a.up,b.up];exact e.up,by rw [a.dn,b.dn];exact e.dn,
  #[by rw [a.wi.1,b.wi.1,e.wi.c],by rw [a.wi.2,b.wi.2,e.wi.c,e.wi.b,e.room,e.reach]],by rw [a.di,b.di];exact e.di,by rw [a.ba,b.ba,e.ba]]
theorem af9:∀{ls:RG.Ls}(h:Nat)(tn ov un:Int),(∀l∈ls,(l.length:Int)<=room)->RG.Stl room h tn ov un ls ls tn ov un
 |[],h,tn,ov,un,_=>.nil h tn ov un
 |l::ls,h,tn,ov,un,hs=>.keep (hs l cJ) (af9 (h+1) tn ov un fun k m=>hs k (cV _ m))
theorem aht{cut:Int}(h:jV room c b cut):b.length<=c.length:=by
 unfold jV at h;split at h
 ·rw[h.2];exact bC _
 ·rw[h.2];unfold cM;rw[aC];exact iV _ _
structure Gf(room:Nat)(f:Fq)(n:Nat):Prop where
 ok:∃W,Ok room f.c f.t f.l W
 t:f.t<=1000000000000*n
 k:f.c.length<=n
structure Gr(room:Nat)(f:Rs)(n:Nat):Prop where
 r:f.r=room
 g:RG.Good f.r f.tt f.ov f.un f.ls
 t:f.tt<=1000000000000*n
 sm:room<=15\/∀l∈f.ls,l.length<=n
structure Kh(x:KS)(n:Nat):Prop where
 r2:2<=x.room
 r64:x.room<=64
 rr:x.room<=15\/x.room=64
 cm:Gf x.room x.cm n
 wn:Gf x.room x.wn n
 up:Gr x.room x.up.x n
 dn:Gr x.room x.dn.x n
 wl:x.wi.ps.length<=n
 dl:Ac x.room x.di.v x.di.C
 dc:x.di.C.length<=n
 few:n<=63
theorem Gf.add{th w:Int}(h:Gf room f n)(s:FS room th w f g)(w1:1<=w)(w2:w<=1000000000000):Gf room g (n+1):=by
 obtain⟨cut,a,b,c⟩:=s;obtain⟨W,ok⟩:=h.ok;have:=h.t;show#[#[_,by rw[b,c];exact(ok.add (k:=th) w1).fit a],by rw[b];lia,by have:=aht a;have:=ZS f.c th (low f.c th+w);have:=h.k;lia]
theorem Gf.next(h:Gf room f n):Gf room f (n+1):=#[h.ok,by have:=h.t;lia,Yy h.k]
theorem Gr.add{room:Nat}{f g:Rs}{n:Nat}{th w:Int}(h:Gr room f n)(s:RS th w f g)(w1:1<=w)(w2:w<=1000000000000)(rr:room<=15\/room=64)(hn:n<63):Gr room g (n+1):=by
 have:=h.t;obtain⟨g',_⟩:=h.g.add w1 s.st;show#[by rw[s.r,h.r],by rwa[s.r,s.tt],by rw[s.tt];lia,rr.imp id fun z=>?_];have sl:=h.sm.resolve_left tb_g%;have wl:=RG.Sg th w.toNat f.ls sl;have hr:=h.r;obtain⟨e,_⟩:=(af9 0 f.tn f.ov f.un fun l m=>by have:=wl l m;lia).uniq s.st;rwa[e]
theorem Gr.next(h:Gr room f n):Gr room f (n+1):=#[h.r,h.g,by have:=h.t;lia,h.sm.imp id fun z l m=>Yy (z l m)]
theorem Gr.le62(h:Gr room f n)(rr:room<=15\/room=64)(hn:n<63):(∀l∈f.ls,l.length<=62)/\((∀l∈f.ls,l.length<=30)\/∀l∈f.ls,(l.length:Int)+1<=f.r):=by
 have e:=h.r;rcases rr with z|z
 ·show#[fun l m=>by have:=h.g.sm l m;lia,.inl fun l m=>by have:=h.g.sm l m;lia]
 ·have sl:=h.sm.resolve_left tb_g%;show#[fun l m=>by have:=sl l m;lia,.inr fun l m=>by have:=sl l m;lia]
theorem WS.len(h:WS room reach c bs g):g.ps.length<=bs.length:=by
 have h1:=acI room (c-reach) bs;rwa[<-h.2,kE]at h1
theorem Kh.put{th w:Int}(h:Kh x n)(hn:n<63)(s:SP th w x x')(w1:1<=w)(w2:w<=1000000000000):Kh x' (n+1):=by
 have r:=s.sb.room;show#[by rw[r];exact h.r2,by rw[r];exact h.r64,by rw[r];exact h.rr,by rw[r];exact h.cm.add s.cm w1 w2,by rw[r,s.wn];exact h.wn.next,by rw[r];exact h.up.add s.up w1 w2 h.rr hn,by rw[r,s.dn];exact h.dn.next,?_,?_,?_,hn]
 ·have:=s.wi.len;rw[dw,kE]at this;have l1:=h.wl;exact cH this (by show x.wi.ps.length+1<=n+1;lia)
 ·rw[r,s.di.2.1];exact h.dl.lvl s.di.2.2 fun w=>aqL
 ·rw[s.di.2.1];have:=(acB x.di.C th).2;have:=h.dc;lia
theorem Kh.take{th w:Int}(h:Kh x n)(hn:n<63)(s:ST th w x x')(w1:1<=w)(w2:w<=1000000000000):Kh x' (n+1):=by
 have r:=s.sb.room;show#[by rw[r];exact h.r2,by rw[r];exact h.r64,by rw[r];exact h.rr,by rw[r,s.cm];exact h.cm.next,by rw[r];exact h.wn.add s.wn w1 w2,by rw[r,s.up];exact h.up.next,by rw[r];exact h.dn.add s.dn w1 w2 h.rr hn,?_,by rw[r,s.di];exact h.dl,by rw[s.di];have:=h.dc;lia,hn];have:=s.wi.len;rw[kE]at this;have l1:=h.wl;lia
theorem Kh.idle{w:Int}(h:Kh x n)(hn:n<63)(s:SI w x x'):Kh x' (n+1):=by
 have r:=s.sb.room;show#[by rw[r];exact h.r2,by rw[r];exact h.r64,by rw[r];exact h.rr,by rw[r,s.cm];exact h.cm.next,by rw[r,s.wn];exact h.wn.next,by rw[r,s.up];exact h.up.next,by rw[r,s.dn];exact h.dn.next,?_,by rw[r,s.di];exact h.dl,by rw[s.di];have:=h.dc;lia,hn];have:=s.wi.len;rw[kE]at this;have l1:=h.wl;lia
noncomputable def R0(room:Nat):Rs:=#[0,0,[],room,0,0,0,0,none,none,[]]
noncomputable def K0(room:Nat)(reach span:Int):KS:=#[0,0,room,reach,span,#[0,0,0,0,0,[]],#[0,0,0,0,0,[]],#[0,R0 room],#[0,R0 room],#[0,0,0,0,[]],#[0,0,0,0,0,[]],#[0,0,0,dI]]
theorem Kh.eq(h:Kh y n)(e:Eqp x y):Kh x n:=by
 have gf:∀{f g:Fq},EF f g->Gf y.room g n->Gf x.room f n:=fun {f g} e1 g1=>#[by rw[e.room,e1.t,e1.l,e1.c];exact g1.ok,by rw[e1.t];exact g1.t,by rw[e1.c];exact g1.k];have gr:∀{f g:Rs},ER f g->Gr y.room g n->Gr x.room f n:=fun {f g} e1 g1=>#[by rw[e.room,e1.r];exact g1.r,by rw[e1.r,e1.tt,e1.ov,e1.un,e1.ls];exact g1.g,by rw[e1.tt];exact g1.t,by rw[e.room,e1.ls];exact g1.sm];show#[by rw[e.room];exact h.r2,by rw[e.room];exact h.r64,by rw[e.room];exact h.rr,gf e.cm h.cm,gf e.wn h.wn,gr e.up h.up,gr e.dn h.dn,?_,by rw[e.room,e.di.v,e.di.C];exact h.dl,by rw[e.di.C];exact h.dc,h.few];rw[<-kE,e.wi.b,kE];exact h.wl
theorem kh0(reach span:Int)(r2:2<=room)(r64:room<=64)(ev:room % 2=0)(rr:room<=15\/room=64):Kh (K0 room reach span) 0:=by
 have ok0:Gf room ⟨0,0,0,0,0,[]⟩ 0:=⟨⟨_,Ok.empty room⟩,bR _,bC _⟩;have g0:RG.Good (room:Int) 0 0 0 []:=RG.Good.new tb_g% tb_g% tb_g%;exact⟨r2,r64,rr,ok0,ok0,⟨rfl,g0,bR _,.inr fun l m=>(nomatch m)⟩,⟨rfl,g0,bR _,.inr fun l m=>(nomatch m)⟩,bC _,⟨bR _,by show((0:Nat):Int)<=room;lia,fun w a b=>mI a (by have b2:w<0:=b;lia)⟩,bC _,by decide⟩
noncomputable def KS.ems(x:KS):List Addr:=x.up.x.a::x.dn.x.a::x.wi.l::x.di.l::(x.up.x.bs++x.dn.x.bs)
noncomputable def Em(H:Hp)(x x':KS):Prop:=∀c∈x'.ems,c∈x.ems\/H c=none
theorem Pp.live{A:Ad}(h:Pp A H x):∀b∈x.pts,H b≠none:=fun b m=>by
 unfold KS.pts at m;simp only[aX,fH,or_false]at m;rcases m with rfl|rfl|rfl|rfl|rfl|rfl|rfl
 ·rw[h.cm.o];intro z;cases z
 ·rw[h.wn.o];intro z;cases z
 ·rw[h.up.o];intro z;cases z
 ·rw[h.dn.o];intro z;cases z
 ·rw[h.wi.o];intro z;cases z
 ·rw[h.di.o];intro z;cases z
 ·rw[h.ba.o];intro z;cases z
theorem Far.none{A:Ad}(f:Far A ps H H1)(lv:∀b∈ps,H1 b≠Option.none){c:Addr}(n:H1 c=Option.none):H c=Option.none:=by
 cases e:H c with
 |none=>rfl
 |some o =>
  exfalso;by_cases m:c∈ps
  ·exact lv c m n
  ·rw[f.pb c o e m]at n;cases n
noncomputable def auU(A:Ad):Sp:=fun vs H Q _=>Ex4 fun x n th w=>z7 (vs=[.ref x.k,.int th,.int w]) (Kp A H x) (Kh x n) (n<63) (0<=th) (th<1152921504606846976) (1<=w) (w<=1000000000000/\∀x' H',Kp A H' x'->SP th w x x'->Far A x.pts H H'->Em H x x'->Q .non H')
theorem Oo(T:Tx K mg A):FnM P w mg base T.qx CX0 6 (auU A):=by
 k_dat (T.qx,T.qx.ok,Od) "f"
 ·obtain⟨x,n,th,w,rfl,hK,hG,hn,th0,th1,w1,w2,q⟩:=h;have e64:(2:Int) ^ 64=18446744073709551616:=by decide
  have r2:=hG.r2;have r64:=hG.r64;have lu:=mQ hG.up.g hG.up.t hG.few;have su:=hG.up.g.small;have hrm:=hG.up.r;obtain⟨W,okf⟩:=hG.cm.ok;show#[_,by (k_dat ([hdM],[],[]) "p"; k_dat (aU (pf 0) T.qj (xP T) (cg (pv 1) (cg (pv 2) gA))) "h"; k_dat (aU (pf 0) T.gH (Ii T) (cg (pv 1) (cg (pv 2) gA))) "h"; k_dat (aU (pf 0) T.vY (V1 T) (cg (pv 2) gA)) "h"; k_dat (aU (pf 0) T.xY (Ol T) (cg (pv 1) gA)) "h"; k_dat (aU (pf 0) T.VH (Us T) (cg (pv 1) (cg (pv 2) gA))) "h"),?_]
  k_dat lq "c"
  show#[_,rfl,rdG hK.o (Bl T) #[x.cm.p,x.cm.dx,_,rfl,hK.cm.o,xM _ _ _ _ tb_g% tb_g% tb_g% tb_g%,_,rfl,_,rfl,x.cm.p,x.cm.dx,x.cm.d,x.room,x.cm.t,x.cm.l,th,w,x.cm.c,rfl,hK.cm.o,hK.cm.d,okf.nd,okf.pos,w1,by have:=hG.cm.k;lia,fun d1 c1 cut H1 hd1 ft o1 e1 b1=>?_]]
  k_dat lqn "c"
  have P1:=hK.pp.setC (f:=#[x.cm.p,x.cm.dx,d1,x.cm.t+w,x.cm.l+cut,c1]) rfl b1 #[o1,e1];have f1:Far A x.pts H H1:=Far.of (mv (i:=0) rfl) hK.cm.o b1;show#[_,rfl,rdG (f1.pb _ _ hK.o hK.nk) (acD T) #[x.up.p,x.up.x.dx,_,rfl,P1.up.o,rgN tb_g%,_,rfl,_,rfl,x.up.p,x.up.x.dx,x.up.x.a,x.up.x.bs,x.up.x.r,x.up.x.tt,x.up.x.ov,x.up.x.un,x.up.x.tn,th,w,x.up.x.mi,x.up.x.ma,x.up.x.ls,rfl,P1.up,hG.up.g.r2,hG.up.g.r64,by lia,by rw[e64];lia,by lia,(hG.up.le62 hG.rr hn).1,(hG.up.le62 hG.rr hn).2,lu.2,fun a' bs' out tn' ov' un' H2 st rn b2 na2 nb2=>?_]]
  k_dat lqn "c"
  have P2:=P1.setU (f:=#[x.up.p,#[x.up.x.dx,a',bs',x.up.x.r,x.up.x.tt+w,ov',un',tn',_,_,out]]) rfl b2 rn;have f2:=f1.trans (Far.of (A:=A) (ps:=x.pts) (mv (i:=2) rfl) P1.up.o b2);show#[_,rfl,rdG (f2.pb _ _ hK.o hK.nk) (oM T) #[x.wi.p,x.wi.dx,_,rfl,P2.wi.o,Xm _ _ _ _ tb_g% tb_g% tb_g% tb_g%,_,rfl,x.wi.p,x.wi.dx,x.wi.l,x.room,x.reach,x.wi.c,w,x.wi.ps,rfl,P2.wi,by have:=hG.wl;lia,by lia,by lia,fun l3 ps3 H3 eb3 wn3 b3 nl3=>?_]];have P3:=P2.setI (f:=#[x.wi.p,x.wi.dx,l3,x.wi.c+1,ps3]) rfl b3 wn3;have f3:=f2.trans (Far.of (A:=A) (ps:=x.pts) (mv (i:=4) rfl) P2.wi.o b3);show#[_,rfl,rdG (f3.pb _ _ hK.o hK.nk) (Py T) #[x.di.p,x.di.dx,_,rfl,P3.di.o,ahm _ _ _ _ tb_g% tb_g% tb_g% tb_g%,_,rfl,x.di.p,x.di.dx,x.di.l,x.room,x.di.n,x.di.v,th,x.di.C,rfl,P3.di,hG.dl,by have:=hG.dc;lia,by lia,by lia,fun l4 v4 H4 lv4 dn4 b4 nl4=>?_]];have P4:=P3.setS (f:=#[x.di.p,x.di.dx,l4,x.di.n+1,v4,came x.di.C th]) rfl b4 dn4;have f4:=f3.trans (Far.of (A:=A) (ps:=x.pts) (mv (i:=5) rfl) P3.di.o b4);have em:∀c∈a'::x.dn.x.a::l3::l4::(bs'++x.dn.x.bs),c∈x.ems\/H c=none:=fun c m=>by
   unfold KS.ems;simp only[aX,bO]at m ⊢;rcases m with rfl|rfl|rfl|rfl|m|m
   ·exact .inr (f1.none P1.live na2)
   ·exact .inl (.inr (.inl rfl))
   ·exact .inr (f2.none P2.live nl3)
   ·rcases nl4 with rfl|n
    ·exact .inl (.inr (.inr (.inr (.inl rfl))))
    ·exact .inr (f3.none P3.live n)
   ·rcases nb2 c m with m|n
    ·exact .inl (.inr (.inr (.inr (.inr (.inl m)))))
    ·exact .inr (f1.none P1.live n)
   ·exact .inl (.inr (.inr (.inr (.inr (.inr m)))))
  have o4:=f4.pb _ _ hK.o hK.nk;show#[_,rfl,_,rfl,rdG o4 (Bk T) #[_,_,rfl,rfl,_,rfl,cW (fun hs=>?_) (fun hs=>?_)]]
  ·have hs:th<x.span:=mP hs;show#[_,rfl,rdG o4 (qT T) #[x.ba.p,x.ba.dx,_,rfl,P4.ba.o,arO _ _ tb_g% tb_g%,_,rfl,_,rfl,x.ba.p,x.ba.dx,x.ba.l,x.span,th,w,x.ba.q,rfl,P4.ba,th0,by rw[e64];lia,fun l5 H5 bn5 b5 nl5=>?_]];have P5:=P4.setB (f:=#[x.ba.p,x.ba.dx,l5,_]) rfl b5 bn5;have f5:=f4.trans (Far.of (A:=A) (ps:=x.pts) (mv (i:=6) rfl) P4.ba.o b5);exact q _ H5 (P5.kp (f5.pb _ _ hK.o hK.nk) hK.nk) #[#[rfl,rfl,rfl,rfl,rfl,rfl],#[cut,ft,rfl,rfl],rfl,#[rfl,rfl,rfl,rfl,st],rfl,#[rfl,eb3],#[rfl,rfl,lv4],(mB hs).symm] f5 em
  ·have hs:¬ th<x.span:=fun z=>hs (mN z);exact q _ H4 (P4.kp o4 hK.nk) #[#[rfl,rfl,rfl,rfl,rfl,rfl],#[cut,ft,rfl,rfl],rfl,#[rfl,rfl,rfl,rfl,st],rfl,#[rfl,eb3],#[rfl,rfl,lv4],(mw hs).symm] f4 em
noncomputable def aqP(A:Ad):Sp:=fun vs H Q _=>Ex4 fun x n th w=>z7 (vs=[.ref x.k,.int th,.int w]) (Kp A H x) (Kh x n) (n<63) (0<=th) (th<1152921504606846976) (1<=w) (w<=1000000000000/\∀x' H',Kp A H' x'->ST th w x x'->Far A x.pts H H'->Em H x x'->Q .non H')
theorem Lh(T:Tx K mg A):FnM P w mg base T.nP CX0 7 (aqP A):=by
 k_dat (T.nP,T.nP.ok,K9) "f"
 ·obtain⟨x,n,th,w,rfl,hK,hG,hn,th0,th1,w1,w2,q⟩:=h;have e64:(2:Int) ^ 64=18446744073709551616:=by decide
  have r2:=hG.r2;have r64:=hG.r64;have lu:=mQ hG.dn.g hG.dn.t hG.few;have su:=hG.dn.g.small;have hrm:=hG.dn.r;obtain⟨W,okf⟩:=hG.wn.ok;show#[_,by (k_dat ([hdM],[],[]) "p"; k_dat (aU (pf 0) T.qj (xP T) (cg (pv 1) (cg (pv 2) gA))) "h"; k_dat (aU (pf 0) T.gH (Ii T) (cg (pv 1) (cg (pv 2) gA))) "h"; k_dat (aU (pf 0) T.vY (Ab T) (cg cI gA)) "h"; k_dat (aU (pf 0) T.VH (Om T) (cg (pv 1) (cg (pv 2) gA))) "h"),?_]
  k_dat lq "c"
  show#[_,rfl,rdG hK.o (Iw T) #[x.wn.p,x.wn.dx,_,rfl,hK.wn.o,xM _ _ _ _ tb_g% tb_g% tb_g% tb_g%,_,rfl,_,rfl,x.wn.p,x.wn.dx,x.wn.d,x.room,x.wn.t,x.wn.l,th,w,x.wn.c,rfl,hK.wn.o,hK.wn.d,okf.nd,okf.pos,w1,by have:=hG.wn.k;lia,fun d1 c1 cut H1 hd1 ft o1 e1 b1=>?_]]
  k_dat lqn "c"
  have P1:=hK.pp.setW (f:=#[x.wn.p,x.wn.dx,d1,x.wn.t+w,x.wn.l+cut,c1]) rfl b1 #[o1,e1];have f1:Far A x.pts H H1:=Far.of (mv (i:=1) rfl) hK.wn.o b1;show#[_,rfl,rdG (f1.pb _ _ hK.o hK.nk) (Px T) #[x.dn.p,x.dn.x.dx,_,rfl,P1.dn.o,rgN tb_g%,_,rfl,_,rfl,x.dn.p,x.dn.x.dx,x.dn.x.a,x.dn.x.bs,x.dn.x.r,x.dn.x.tt,x.dn.x.ov,x.dn.x.un,x.dn.x.tn,th,w,x.dn.x.mi,x.dn.x.ma,x.dn.x.ls,rfl,P1.dn,hG.dn.g.r2,hG.dn.g.r64,by lia,by rw[e64];lia,by lia,(hG.dn.le62 hG.rr hn).1,(hG.dn.le62 hG.rr hn).2,lu.2,fun a' bs' out tn' ov' un' H2 st rn b2 na2 nb2=>?_]];have P2:=P1.setD (f:=#[x.dn.p,#[x.dn.x.dx,a',bs',x.dn.x.r,x.dn.x.tt+w,ov',un',tn',_,_,out]]) rfl b2 rn;have f2:=f1.trans (Far.of (A:=A) (ps:=x.pts) (mv (i:=3) rfl) P1.dn.o b2);show#[_,rfl,rdG (f2.pb _ _ hK.o hK.nk) (oM T) #[x.wi.p,x.wi.dx,_,rfl,P2.wi.o,Xm _ _ _ _ tb_g% tb_g% tb_g% tb_g%,x.wi.p,x.wi.dx,x.wi.l,x.room,x.reach,x.wi.c,1,x.wi.ps,rfl,P2.wi,by have:=hG.wl;lia,by lia,by lia,fun l3 ps3 H3 eb3 wn3 b3 nl3=>?_]];have P3:=P2.setI (f:=#[x.wi.p,x.wi.dx,l3,x.wi.c+1,ps3]) rfl b3 wn3;have f3:=f2.trans (Far.of (A:=A) (ps:=x.pts) (mv (i:=4) rfl) P2.wi.o b3);have em:∀c∈x.up.x.a::a'::l3::x.di.l::(x.up.x.bs++bs'),c∈x.ems\/H c=none:=fun c m=>by
   unfold KS.ems;simp only[aX,bO]at m ⊢;rcases m with rfl|rfl|rfl|rfl|m|m
   ·exact .inl (.inl rfl)
   ·exact .inr (f1.none P1.live na2)
   ·exact .inr (f2.none P2.live nl3)
   ·exact .inl (.inr (.inr (.inr (.inl rfl))))
   ·exact .inl (.inr (.inr (.inr (.inr (.inl m)))))
   ·rcases nb2 c m with m|n
    ·exact .inl (.inr (.inr (.inr (.inr (.inr m)))))
    ·exact .inr (f1.none P1.live n)
  have o3:=f3.pb _ _ hK.o hK.nk;show#[_,rfl,_,rfl,rdG o3 (Bk T) #[_,_,rfl,rfl,_,rfl,cW (fun hs=>?_) (fun hs=>?_)]]
  ·have hs:th<x.span:=mP hs;show#[_,rfl,rdG o3 (qT T) #[x.ba.p,x.ba.dx,_,rfl,P3.ba.o,arO _ _ tb_g% tb_g%,_,rfl,_,rfl,x.ba.p,x.ba.dx,x.ba.l,x.span,th,w,x.ba.q,rfl,P3.ba,th0,by rw[e64];lia,fun l5 H5 bn5 b5 nl5=>?_]];have P5:=P3.setB (f:=#[x.ba.p,x.ba.dx,l5,_]) rfl b5 bn5;have f5:=f3.trans (Far.of (A:=A) (ps:=x.pts) (mv (i:=6) rfl) P3.ba.o b5);exact q _ H5 (P5.kp (f5.pb _ _ hK.o hK.nk) hK.nk) #[#[rfl,rfl,rfl,rfl,rfl,rfl],rfl,#[cut,ft,rfl,rfl],rfl,#[rfl,rfl,rfl,rfl,st],#[rfl,eb3],rfl,(mB hs).symm] f5 em
  ·have hs:¬ th<x.span:=fun z=>hs (mN z);exact q _ H3 (P3.kp o3 hK.nk) #[#[rfl,rfl,rfl,rfl,rfl,rfl],rfl,#[cut,ft,rfl,rfl],rfl,#[rfl,rfl,rfl,rfl,st],#[rfl,eb3],rfl,(mw hs).symm] f3 em
noncomputable def aqQ(A:Ad):Sp:=fun vs H Q _=>Ex3 fun x n w=>oJ (vs=[.ref x.k,.int w]) (Kp A H x) (Kh x n) (∀x' H',Kp A H' x'->SI w x x'->Far A x.pts H H'->Em H x x'->Q .non H')
theorem Li(T:Tx K mg A):FnM P w mg base T.nQ CX0 6 (aqQ A):=by
 k_dat (T.nQ,T.nQ.ok,La) "f"
 ·obtain⟨x,n,w,rfl,hK,hG,q⟩:=h;have r2:=hG.r2;have r64:=hG.r64;have few:=hG.few;show#[_,by k_dat ([],[aU ?_ T.vY (Ab T) ?_],[]) "p",?_];show#[_,rfl,rdG hK.o (oM T) #[x.wi.p,x.wi.dx,_,rfl,hK.wi.o,Xm _ _ _ _ tb_g% tb_g% tb_g% tb_g%,_,rfl,x.wi.p,x.wi.dx,x.wi.l,x.room,x.reach,x.wi.c,w,x.wi.ps,rfl,hK.wi,by have:=hG.wl;lia,by lia,by lia,fun l3 ps3 H3 eb3 wn3 b3 nl3=>?_]];have P3:=hK.pp.setI (f:=#[x.wi.p,x.wi.dx,l3,x.wi.c+w,ps3]) rfl b3 wn3;have f3:Far A x.pts H H3:=Far.of (mv (i:=4) rfl) hK.wi.o b3;exact q _ H3 (P3.kp (f3.pb _ _ hK.o hK.nk) hK.nk) #[#[rfl,rfl,rfl,rfl,rfl,rfl],rfl,rfl,rfl,rfl,#[rfl,eb3],rfl,rfl] f3 fun c m=>by
   have m:c∈x.up.x.a::x.dn.x.a::l3::x.di.l::(x.up.x.bs++x.dn.x.bs):=m;unfold KS.ems;simp only[aX,bO]at m ⊢;rcases m with rfl|rfl|rfl|rfl|m|m
   ·exact .inl (.inl rfl)
   ·exact .inl (.inr (.inl rfl))
   ·exact .inr nl3
   ·exact .inl (.inr (.inr (.inr (.inl rfl))))
   ·exact .inl (.inr (.inr (.inr (.inr (.inl m)))))
   ·exact .inl (.inr (.inr (.inr (.inr (.inr m)))))
structure Cs(H G:Hp)(k C dk:Addr)(fs:List (Str × V))(ps:List Addr):Prop where
 o:G k=some (.ins C dk fs)
 b:But k H G
 fr:∀p∈ps,H p=none
 lv:∀p∈ps,G p≠none
 nd:(k::ps).Nodup
structure Sta(k:Addr)(P:Hp->Prop):Prop where
 s:∀{G I:Hp},P G->Same G I->P I
 b:∀{G I:Hp}{C e:Addr} {fs:List (Str × V)},P G->But k G I->G k=some (.ins C e fs)->P I
theorem Sta.and{P R:Hp->Prop}(a:Sta k P)(b:Sta k R):Sta k fun G=>P G/\R G:=#[fun h s=>#[a.s h.1 s,b.s h.2 s],fun h s o=>#[a.b h.1 s o,b.b h.2 s o]]
section
variable{H G I:Hp}{k C dk p dx X:Addr}{fs fs':List (Str × V)}{ps:List Addr}
theorem Cs.s(n:G p=none)(m:G dx=none)(bt:But p (upd (upd G dx (.own p)) p (.ins X dx [])) I):Same G I:=fun b o e=>bt b o (by rwa[ao (ak e n),ao (ak e m)]) (ak e n)
theorem Cs.free(h:Cs H G k C dk fs ps){d:Addr}(y:(upd (upd G dx (.own p)) p (.ins X dx [])) d=none):H d=none:=by
 have np:d≠p:=fun z=>by rw[z,aj]at y;cases y
 rw[ao np]at y;have nq:d≠dx:=fun z=>by rw[z,aj]at y;cases y
 rw[ao nq]at y;exact gb h.b y (aG (ak h.o y))
theorem Cs.next{α:Type}{R:α->Hp->Prop}{σ:α}(h:Cs H G k C dk fs ps)(n:G p=none)(m:G dx=none)(bt:But p (upd (upd G dx (.own p)) p (.ins X dx [])) I)(lv:I p≠none)
  (q:∀J,Cs H J k C dk fs' (ps++[p])->p≠k->(∀{P:Hp->Prop},Sta k P->P I->P J)->(∀{P:Hp->Prop},Sta k P->P G->P J)->R σ J):R σ (upd I k (.ins C dk fs')):=by
 have s:=Cs.s n m bt;have o:=s _ _ h.o;have nk:p≠k:=aG (ak h.o n);have u:But k I (upd I k (.ins C dk fs')):=But.upd;have np:p∉ps:=fun z=>h.lv p z n;have nd:=iW.mp h.nd;refine q _ #[aj,(h.b.trans (s.but k)).trans u,fun b mb=>?_,fun b mb=>?_,iW.mpr #[fun z=>?_,CG.mpr #[nd.2,iW.mpr #[fH,qY],fun a ma b mb=>?_]]] nk (fun S z=>S.b z u o) (fun S z=>S.b (S.s z s) u o)
 ·rcases bO.mp mb with z|z
  ·exact h.fr b z
  ·rw[cC.mp z];exact gb h.b n nk
 ·rcases bO.mp mb with z|z
  ·rw[ao fun y=>nd.1 (by rwa[<-y])];intro y;exact h.lv b z (s.free y)
  ·rwa[cC.mp z,ao nk]
 ·rcases bO.mp z with z|z
  ·exact nd.1 z
  ·exact nk (cC.mp z).symm
 ·rw[cC.mp mb];exact fun z=>np (by rwa[<-z])
end
noncomputable def aqR(A:Ad):Sp:=fun vs H Q _=>Ex5 fun(k dk:Addr) (room:Nat) (reach span:Int)=>acy (vs=[.ref k,.int room,.int reach,.int span]) (H k=some (.ins A.C'5 dk [])) (2<=room) (room<=64) (room % 2=0) (∀(x:KS)(H':Hp),Kp A H' x->Eqp x (K0 room reach span)->x.k=k->(∀b∈x.pts,H b=none)->(∀b∈x.ems,H b=none)->But k H H'->Q .non H')
theorem uL.sta{A:Ad}{f:Fq}(n:f.p≠k):Sta k fun G=>uL A G room f:=#[fun h s=>h.same s,fun h b o=>h.but b o n]
theorem RnX.sta{A:Ad}(n:p≠k):Sta k fun G=>RnX A G p x:=#[fun h s=>h.same s,fun h b o=>h.but b o n]
theorem uM(T:Tx K mg A):FnM P w mg base T.nU CX0 3 (aqR A):=by
 k_dat (T.nU,T.nU.ok,Lb) "f"
 ·obtain⟨k,dk,room,reach,span,rfl,hk,r2,r64,ev,q⟩:=h;show#[_,by k_dat ([],[gF T.aeP T.T4 (uK T) ?_,gF T.aeM T.ag9 (Cq T) ?_,gF T.aeN T.ace (Aa T) ?_,gF T.aeO T.T3 (uI T) ?_,gF T.aeQ T.Xh (xQ T) ?_],[]) "p",?_];refine sq fun R hR=>#[_,rfl,_,rfl,k,_,dk,[],rfl,hk,T.gQ,T.ahf,tb_g%,hR _ _ ?_];refine sq fun R hR=>#[_,rfl,_,rfl,k,_,dk,_,rfl,aj,T.gQ,T.ahg,tb_g%,hR _ _ ?_];refine sq fun R hR=>#[_,rfl,_,rfl,k,_,dk,_,rfl,aj,T.gQ,T.ahh,tb_g%,?_];rw[cB,cB]
  k_dat (nbA,G,zG,fG) "n"
  have C0:Cs H G k A.C'5 dk _ []:=⟨fG,zG,(fun b m=>nomatch m),(fun b m=>nomatch m),iW.mpr ⟨fH,qY⟩⟩;refine hR _ _ (sq fun R hR=>⟨_,rfl,fun p1 dx1 n m _=>⟨p1,dx1,(room:Int),rfl,aj,fun d1 I _ e g bt=>⟨rfl,_,rfl,k,_,dk,_,rfl,(Cs.s n m bt) _ _ C0.o,T.gQ,T.aci,tb_g%,C0.next n m bt (fun z=>by rw[e]at z;cases z) fun G1 C1 nk kI kG=>hR _ _ ?_⟩⟩⟩)
  k_dat lq "c"
  have S:=uL.sta (A:=A) (room:=room) (f:=#[p1,dx1,d1,0,0,[]]) nk;have F:=kI S #[e,g];refine sq fun R hR=>#[_,rfl,fun p2 dx2 n m _=>#[p2,dx2,(room:Int),rfl,aj,fun d2 I _ e g bt=>#[rfl,_,rfl,k,_,dk,_,rfl,(Cs.s n m bt) _ _ C1.o,T.gQ,T.acj,tb_g%,C1.next n m bt (fun z=>by rw[e]at z;cases z) fun G2 C2 nk kI kG=>hR _ _ ?_]]]
  k_dat lq "c"
  have S':=uL.sta (A:=A) (room:=room) (f:=⟨p2,dx2,d2,0,0,[]⟩) nk;replace F:=And.intro (kG S F) (kI S' ⟨e,g⟩);replace S:=S.and S';refine sq fun R hR=>⟨_,rfl,fun p3 dx3 n m _=>⟨p3,dx3,(room:Int),rfl,aj,fun d3 I hd e g bt=>⟨rfl,_,rfl,k,_,dk,_,rfl,(Cs.s n m bt) _ _ C2.o,T.gQ,T.acn,tb_g%,C2.next n m bt (fun z=>by rw[e]at z;cases z) fun G3 C3 nk kI kG=>hR _ _ ?_⟩⟩⟩;have v3:=C2.free hd;have S':=RnX.sta (A:=A) (x:=⟨dx3,d3,[],room,0,0,0,0,none,none,[]⟩) nk;replace F:=And.intro (kG S F) (kI S' (Rn.new e g));replace S:=S.and S';refine sq fun R hR=>⟨_,rfl,fun p4 dx4 n m _=>⟨p4,dx4,(room:Int),rfl,aj,fun d4 I hd e g bt=>⟨rfl,_,rfl,k,_,dk,_,rfl,(Cs.s n m bt) _ _ C3.o,T.gQ,T.aco,tb_g%,C3.next n m bt (fun z=>by rw[e]at z;cases z) fun G4 C4 nk kI kG=>hR _ _ ?_⟩⟩⟩;have v4:=C3.free hd;have S':=RnX.sta (A:=A) (x:=⟨dx4,d4,[],room,0,0,0,0,none,none,[]⟩) nk;replace F:=And.intro (kG S F) (kI S' (Rn.new e g));replace S:=S.and S';refine sq fun R hR=>⟨_,rfl,_,rfl,fun p5 dx5 n m _=>⟨p5,dx5,(room:Int),reach,rfl,aj,fun d5 I hd e g bt=>⟨rfl,_,rfl,k,_,dk,_,rfl,(Cs.s n m bt) _ _ C4.o,T.gQ,T.acp,tb_g%,C4.next n m bt (fun z=>by rw[e]at z;cases z) fun G5 C5 nk kI kG=>hR _ _ ?_⟩⟩⟩;have v5:=C4.free hd;have S':=(⟨fun h s=>h.same s,fun h b o=>h.but b o nk⟩:Sta k fun G=>Wn A G p5 dx5 d5 room reach 0 []);replace F:=And.intro (kG S F) (kI S' ⟨e,⟨g,fun _ h=>(nomatch h)⟩⟩);replace S:=S.and S';refine sq fun R hR=>⟨_,rfl,fun p6 dx6 n m _=>⟨p6,dx6,(room:Int),rfl,aj,fun d6 I hd e g bt=>⟨rfl,_,rfl,k,_,dk,_,rfl,(Cs.s n m bt) _ _ C5.o,T.gQ,T.acq,tb_g%,C5.next n m bt (fun z=>by rw[e]at z;cases z) fun G6 C6 nk kI kG=>hR _ _ ?_⟩⟩⟩;have v6:=C5.free hd;have S':=(⟨fun h s=>h.same s,fun h b o=>h.but b o nk⟩:Sta k fun G=>Dn A G p6 dx6 d6 room 0 0 (srt (My.up 0 [])));replace F:=And.intro (kG S F) (kI S' ⟨e,by rwa[show srt (My.up 0 [])=[]from Mi.mp (fj _)]⟩);replace S:=S.and S';refine⟨_,rfl,fun p7 dx7 n m _=>⟨p7,dx7,span,rfl,aj,fun d7 I _ e bt=>⟨rfl,_,rfl,k,_,dk,_,rfl,(Cs.s n m bt) _ _ C6.o,T.gQ,T.acr,tb_g%,C6.next n m bt (fun z=>by rw[e.o]at z;cases z) fun G7 C7 nk kI kG=>?_⟩⟩⟩;have S':=(⟨fun h s=>h.same s,fun h b o=>h.but b o nk⟩:Sta k fun G=>Bn A G p7 dx7 d7 span dI);replace F:=And.intro (kG S F) (kI S' e);obtain⟨⟨⟨⟨⟨⟨F1,F2⟩,F3⟩,F4⟩,F5⟩,F6⟩,F7⟩:=F;have o7:=C7.o;rw[auP]at o7;refine q ⟨k,dk,room,reach,span,⟨p1,dx1,d1,0,0,[]⟩,⟨p2,dx2,d2,0,0,[]⟩,⟨p3,⟨dx3,d3,[],room,0,0,0,0,none,none,[]⟩⟩,⟨p4,⟨dx4,d4,[],room,0,0,0,0,none,none,[]⟩⟩,⟨p5,dx5,d5,0,[]⟩,⟨p6,dx6,d6,0,0,[]⟩,⟨p7,dx7,d7,dI⟩⟩ G7 ⟨o7,F1,F2,F3,F4,F5,F6,F7,C7.nd⟩
   #[rfl,rfl,rfl,#[rfl,rfl,rfl],#[rfl,rfl,rfl],#[rfl,rfl,rfl,rfl,rfl,rfl,rfl,rfl],#[rfl,rfl,rfl,rfl,rfl,rfl,rfl,rfl],#[rfl,rfl],#[rfl,rfl,rfl],rfl] rfl C7.fr (fun b m=>?_) C7.b
  unfold KS.ems at m;simp only[aX,bO,fH,or_false]at m;rcases m with rfl|rfl|rfl|rfl;all_goals assumption
noncomputable def spMix:Sp:=fun vs H Q _=>Ex3 fun c f p=>uF (vs=[.int c,.int f,.int p]) (0<f) (f<2 ^ 64) (0<p) (∀v:Int,0<=v->v<p->Q (.int v) H)
theorem acJ(T:Tx K mg A):FnK P w base T.aaE CX0 1 spMix:=by
 k_dat (T.aaE,T.aaE.ok,aow) "f"
 ·obtain⟨c,f,p,rfl,f0,f1,p0,q⟩:=h;show#[_,by k_dat ([],[],[]) "p",?_];show#[_,rfl,_,rfl,_,_,rfl,rfl,dB tb_g% f1,_,rfl,_,_,rfl,rfl,p0,q _ (rW _ tb_g%) (BP _ p0)]
noncomputable def spFar:Sp:=fun vs H Q _=>vs=[]/\∀v:Int,0<=v->v<1152921504606846976->Q (.int v) H
theorem V3(T:Tx K mg A):FnK P w base T.iH CX0 1 spFar:=by
 k_dat (T.iH,T.iH.ok,Cg) "f"
 ·obtain⟨rfl,q⟩:=h;show#[_,by k_dat ([],[Cg.nd,tV rfl T.HJ ?_],[]) "p",?_]
  k_dat lq "c"
  show#[5,rfl,tb_g%,tb_g%,?_];refine Am (fun i σ G=>Ex2 fun(v:Int) (y:Option V)=>oJ (σ=[some (.int v),y]) (0<=v) (v<1152921504606846976) (G=H)) #[770093176312745717,none,rfl,tb_g%,tb_g%,rfl] ?_ ?_
  ·rintro i σ G hi ⟨v,y,rfl,v0,v1,rfl⟩;show#[_,rfl,_,rfl,_,_,rfl,rfl,sX tb_g% tb_g%,_,_,rfl,rfl,_,_,rfl,rfl,sX tb_g% tb_g%,_,_,rfl,rfl,(by show(0:Int)<1152921504606846976;decide),?_];show#[_,_,rfl,rW _ tb_g%,BP _ tb_g%,rfl]
  ·rintro σ G ⟨v,y,rfl,v0,v1,rfl⟩;show#[_,rfl,q v v0 v1]
noncomputable def aoM:Sp:=fun vs H Q _=>∃c:Int,vs=[.int c]/\∀v H',0<=v->v<1152921504606846976->Same H H'->Q (.int v) H'
theorem Cr(T:Tx K mg A):FnK P w base T.wj CX0 2 aoM:=by
 k_dat (T.wj,T.wj.ok,Ci) "f"
 ·obtain⟨c,rfl,q⟩:=h;show#[_,by k_dat ([atJ],[Ci.nd,amD (V3 T).2 tb_g% rfl T.iH.g T.iH.kp T.iH.b .nil Gu],[]) "p",?_]
  k_dat lq "c"
  show#[_,rfl,_,_,rfl,rfl,(by show(0:Int)<4;decide),?_]
  k_dat lqg "c"
  show#[_,rfl,_,_,rfl,rfl,_,rfl,cW (fun h=>?_) (fun h=>?_)]
  ·have h:c % 4<2:=mP h;show#[_,rfl,_,_,rfl,rfl,#[tb_g%,tb_g%],tb_g%,fun p hp=>#[_,rfl,?_]];obtain⟨v,hv,e⟩:=Hl (ns:=[7,60]) (i:=c % 4) tb_g% (by show c % 4<2;lia);have hv:v=7\/v=60:=by simpa using hv
   refine dj (.inl (.inl aj)) (v:=.int v) e #[_,_,rfl,rfl,(by show(0:Int)<v;lia),?_];have a1:=rW (c / 4) (show v≠0 by lia);have a2:=BP (c / 4) (show 0<v by lia);exact q _ _ a1 (by show c / 4 % v<_;lia) (Same.new hp)
  show#[_,rfl,rfl,_,rfl,cW (fun h=>?_) (fun h=>?_)]
  ·show#[_,rfl,_,_,rfl,rfl,#[tb_g%,tb_g%],_,_,rfl,rfl,dB tb_g% tb_g%,_,_,rfl,rfl,(by show(0:Int)<1152921504606846976;decide),?_];exact q _ _ (rW _ tb_g%) (BP _ tb_g%) (Same.refl H)
  ·show#[_,rfl,_,_,rfl,rfl,#[tb_g%,tb_g%],_,_,rfl,rfl,(by show(0:Int)<40;decide),_,_,rfl,rfl,_,rfl,_,_,rfl,rfl,#[tb_g%,tb_g%],_,_,rfl,rfl,(by show(0:Int)<50;decide),_,_,rfl,rfl,#[by lia,by lia,?_],?_]
   ·lia
   show#[_,rfl,rfl,fun v v0 v1=>#[_,_,rfl,rfl,dB tb_g% tb_g%,_,_,rfl,rfl,(by show(0:Int)<1152921504606846976;decide),?_]];exact q _ _ (rW _ tb_g%) (BP _ tb_g%) (Same.refl H)
noncomputable def aiY:Sp:=fun vs H Q _=>∃c:Int,vs=[.int c]/\∀v:Int,1<=v->v<=1000000000000->Q (.int v) H
theorem Uu(T:Tx K mg A):FnK P w base T.tK CX0 1 aiY:=by
 k_dat (T.tK,T.tK.ok,Ul) "f"
 ·obtain⟨c,rfl,q⟩:=h;show#[_,by k_dat ([],[],[]) "p",?_];show#[_,rfl,_,_,rfl,rfl,(by show(0:Int)<5;decide),rfl,_,rfl,cW (fun h=>?_) (fun h=>?_)]
  ·show#[_,rfl,_,_,rfl,rfl,#[tb_g%,tb_g%],_,_,rfl,rfl,dB tb_g% tb_g%,_,_,rfl,rfl,(by show(0:Int)<1000000000000;decide),_,_,rfl,rfl,?_];exact q _ tb_g% tb_g%
  ·show#[_,rfl,_,_,rfl,rfl,#[tb_g%,tb_g%],_,_,rfl,rfl,(by show(0:Int)<12;decide),_,_,rfl,rfl,?_];exact q _ tb_g% tb_g%
structure R3 where
 (kd th w:Int)
structure R3.ok(r:R3):Prop where
 k0:0<=r.kd
 k2:r.kd<=2
 t0:0<=r.th
 t1:r.th<1152921504606846976
 w1:1<=r.w
 w2:r.w<=1000000000000
noncomputable def r3V(r:R3):HO:=.tup [.int r.kd,.int r.th,.int r.w]
noncomputable def aqS:Sp:=fun vs H Q _=>∃c:Int,vs=[.int c]/\∀t r H',r.ok->H t=none->H' t=some (r3V r)->Same H H'->Q (.ref t) H'
theorem acK(T:Tx K mg A):FnK P w base T.Fo CX0 3 aqS:=by
 k_dat (T.Fo,T.Fo.ok,MJ) "f"
 ·obtain⟨c,rfl,q⟩:=h;show#[_,by k_dat ([],[MJ.nd,aD (acJ T) ?_,aD (Cr T) ?_,aD (Uu T) ?_],[]) "p",?_]
  k_dat lq "c"
  show#[tb_g%,fun p hp=>#[_,rfl,_,_,rfl,rfl,(by show(0:Int)<7;decide),?_]];obtain⟨kd,hkd,e⟩:=Hl (ns:=[0,0,0,0,1,1,2]) (i:=c % 7) tb_g% (by show c % 7<7;lia);have hkd:0<=kd/\kd<=2:=by
   simp only[aX,fH,or_false]at hkd;lia
  refine dj (.inl (.inl aj)) (v:=.int kd) e ?_
  k_dat (nwA hp,H1,s1,fH1) "n"
  show#[_,rfl,c,6364136223846793005,18446744073709551557,rfl,tb_g%,tb_g%,tb_g%,fun m _ _=>#[m,rfl,fun th H2 t0 t1 s2=>?_]];show#[_,rfl,c,69621,2147483629,rfl,tb_g%,tb_g%,tb_g%,fun m2 _ _=>#[m2,rfl,fun w w1 w2=>?_]];show#[_,rfl,_,rfl,_,rfl,tb_g%,fun t ht=>q t #[kd,th,w] _ #[hkd.1,hkd.2,t0,t1,w1,w2] ((s1.trans s2).free ht) aj (s1.trans (s2.trans (Same.new ht)))]
noncomputable def aqT:Sp:=fun vs H Q _=>∃c:Int,vs=[.int c]/\∀(t:Addr)(room:Nat)(reach span:Int)(H':Hp),2<=room->room<=64->room % 2=0->(room<=15\/room=64)->(1<=reach/\reach<=1000000000)->(1<=span/\span<=1000000000)->H' t=some (.tup [.int room,.int reach,.int span])->Same H H'->Q (.ref t) H'
theorem rooms{v:Int}(h:v∈[2,4,2,6,8,64]):∃r:Nat,v=r/\2<=r/\r<=64/\r % 2=0/\(r<=15\/r=64):=by
 simp only[aX,fH,or_false]at h;show#[v.toNat,by lia,by lia,by lia,by lia,by lia]
theorem V4(T:Tx K mg A):FnK P w base T.wu CX0 1 aqT:=by
 k_dat (T.wu,T.wu.ok,Cj) "f"
 ·obtain⟨c,rfl,q⟩:=h;show#[_,by k_dat ([],[Cj.nd],[]) "p",?_]
  k_dat lq "c"
  show#[tb_g%,fun p hp=>#[_,rfl,_,_,rfl,rfl,(by show(0:Int)<6;decide),?_]];obtain⟨rv,hrv,e⟩:=Hl (ns:=[2,4,2,6,8,64]) (i:=c % 6) tb_g% (by show c % 6<6;lia);obtain⟨room,rfl,r2,r64,ev,rr⟩:=rooms hrv;refine dj (.inl (.inl aj)) (v:=.int room) e ?_
  k_dat (nwA hp,H1,s1,fH1) "n"
  k_dat lqg "c"
  show#[_,rfl,_,_,rfl,rfl,#[tb_g%,tb_g%],_,_,rfl,rfl,(by show(0:Int)<9;decide),_,_,rfl,rfl,_,rfl,_,_,rfl,rfl,#[tb_g%,tb_g%],_,_,rfl,rfl,(by show(0:Int)<1000000;decide),_,_,rfl,rfl,tb_g%,fun p2 hp2=>#[_,rfl,_,_,rfl,rfl,#[tb_g%,tb_g%],_,_,rfl,rfl,(by show(0:Int)<3;decide),?_]];obtain⟨reach,hre,e2⟩:=Hl (ns:=[1000000000,1+c / 6 % 9,1+c / 6 % 1000000]) (i:=c / 6 % 3) tb_g% (by show c / 6 % 3<3;lia);refine dj (.inl (.inl aj)) (v:=.int reach) e2 ?_
  k_dat (nwA hp2,H2,zH2,fH2) "n"
  have s2:=s1.trans zH2;show#[_,rfl,_,_,rfl,rfl,#[tb_g%,tb_g%],_,_,rfl,rfl,(by show(0:Int)<9;decide),_,_,rfl,rfl,tb_g%,fun p3 hp3=>#[_,rfl,_,_,rfl,rfl,#[tb_g%,tb_g%],_,_,rfl,rfl,(by show(0:Int)<3;decide),?_]];obtain⟨span,hsp,e3⟩:=Hl (ns:=[1+c / 18 % 9,60,1000000000]) (i:=c / 18 % 3) tb_g% (by show c / 18 % 3<3;lia);refine dj (.inl (.inl aj)) (v:=.int span) e3 ?_
  k_dat (nwA hp3,H3,zH3,fH3) "n"
  have s3:=s2.trans zH3;simp only[aX,fH,or_false]at hre hsp;show#[_,rfl,_,rfl,_,rfl,tb_g%,fun t ht=>q t room reach span _ r2 r64 ev rr tb_g% tb_g% aj (s3.trans (Same.new ht))]
noncomputable def SR(r:R3)(x x':KS):Prop:=if r.kd=0 then SP r.th r.w x x' else if r.kd=1 then ST r.th r.w x x' else SI r.w x x'
theorem SR.sb(h:SR r x x'):SB x x':=by
 unfold SR at h;split at h
 ·exact h.sb
 ·split at h
  ·exact h.sb
  ·exact h.sb
theorem Kh.row{r:R3}(h:Kh x n)(hn:n<63)(ok:r.ok)(s:SR r x x'):Kh x' (n+1):=by
 unfold SR at s;split at s
 ·exact h.put hn s ok.w1 ok.w2
 ·split at s
  ·exact h.take hn s ok.w1 ok.w2
  ·exact h.idle hn s
noncomputable def auV(A:Ad):Sp:=fun vs H Q _=>Ex4 fun x n t r=>Oh (vs=[.ref x.k,.ref t]) (Kp A H x) (Kh x n) (n<63) (H t=some (r3V r)) r.ok (∀x' H',Kp A H' x'->SR r x x'->Far A x.pts H H'->Em H x x'->Q .non H')
theorem aiZ(T:Tx K mg A):FnK P w base T.Ua CX0 8 (auV A):=by
 k_dat (T.Ua,T.Ua.ok,aiN) "f"
 ·obtain⟨x,n,t,r,rfl,hK,hG,hn,ht,ok,q⟩:=h;unfold r3V at ht;unfold SR at q;show#[_,by k_dat ([],[aU ?_ T.gQ (Oo T) ?_,aU ?_ T.gQ (Lh T) ?_,aU ?_ T.gQ (Li T) ?_],[]) "p",?_];show#[_,rfl,bY (.inl (.inl ht)) (v:=.int r.kd) rfl #[rfl,_,rfl,cW (fun h=>?_) (fun h=>?_)]]
  ·have h:r.kd=0:=V.int.inj (mP h);simp only[mB h]at q;show#[_,rfl,x.k,x.dk,_,rfl,hK.o,kfN tb_g%,_,rfl,bY (.inl (.inl ht)) (v:=.int r.th) rfl #[_,rfl,bY (.inl (.inl ht)) (v:=.int r.w) rfl #[x,n,r.th,r.w,rfl,hK,hG,hn,ok.t0,ok.t1,ok.w1,ok.w2,q]]]
  have h:¬ r.kd=0:=fun z=>h (mN (mM V.int z));simp only[mw h]at q;show#[_,rfl,bY (.inl (.inl ht)) (v:=.int r.kd) rfl #[rfl,_,rfl,cW (fun h2=>?_) (fun h2=>?_)]]
  ·have h2:r.kd=1:=V.int.inj (mP h2);simp only[mB h2]at q;show#[_,rfl,x.k,x.dk,_,rfl,hK.o,kfN tb_g%,_,rfl,bY (.inl (.inl ht)) (v:=.int r.th) rfl #[_,rfl,bY (.inl (.inl ht)) (v:=.int r.w) rfl #[x,n,r.th,r.w,rfl,hK,hG,hn,ok.t0,ok.t1,ok.w1,ok.w2,q]]]
  ·have h2:¬ r.kd=1:=fun z=>h2 (mN (mM V.int z));simp only[mw h2]at q;show#[_,rfl,x.k,x.dk,_,rfl,hK.o,kfN tb_g%,_,rfl,bY (.inl (.inl ht)) (v:=.int r.w) rfl #[x,n,r.w,rfl,hK,hG,q]]
noncomputable def aoN(A:Ad):Sp:=fun vs H Q _=>Ex8 fun(p dx d p' dx' d':Addr) (room:Nat) (t:Int)=>Ex5 fun(l t' l':Int) (c c':Tab)=>z7 (vs=[.ref p,.ref p']) (H p=some (.ins A.C'3 dx (fl room t l d))) (H d=some (.dK (emb c))) (H p'=some (.ins A.C'3 dx' (fl room t' l' d'))) (H d'=some (.dK (emb c'))) ((keys c).Nodup) ((∀p∈c,1<=p.2)) (oJ ((∀p∈c',1<=p.2)) ((aV c c').length<64) (c.length+c'.length<=900) (∀(x dxx e:Addr)(b:Tab)(cut:Int)(H':Hp),H x=none->H e=none->jV room (aV c c') b cut->H' x=some (.ins A.C'3 dxx (fl room (t+t') (l+l'+cut) e))->H' e=some (.dK (emb b))->Same H H'->Q (.ref x) H'))
theorem ai0{c d:Tab}{i:Nat}{p:Int × Int}(h:d[i]? = some p):aV c (d.take (i+1))=put (aV c (d.take i)) p.1 (low (aV c (d.take i)) p.1+p.2):=by
 rw[take_snoc h,Aw]
theorem FN(T:Tx K mg A):FnK P w base T.j8 CX0 3 (aoN A):=by
 k_dat (T.j8,T.j8.ok,qH) "f"
 ·obtain⟨p,dx,d,p',dx',d',room,t,l,t',l',c,c',rfl,hp,hd,hp',hd',hn,pos,pos',h64,h900,q⟩:=h;show#[_,by k_dat ([],[qH.nd,gF T.aeP T.T4 (uK T) ?_,tY Rt (by rfl) T.aos akO ?_,p8 tb_g% ?_ ?_ ?_ ⟨rfl,rfl,rfl,rfl⟩,agI JR rfl ?_ ⟨rfl,rfl⟩ ?_ ?_,aU ?_ T.qj (xO T) ?_],[]) "p",?_]
  k_dat lq "c"
  show#[_,rfl,rdG hp (Ip T) #[_,rfl,rdG hp' (Ip T) #[rfl,_,rfl,BW rfl ?_]]];show#[_,rfl,rdG hp (Ip T) fun x dxx nx ndx nex=>?_];show#[x,dxx,_,rfl,aj,fun e0 H1 he0 e1 e2 bt=>#[rfl,?_]]
  k_dat lqg "c"
  have s0:Same H (upd (upd H dxx (.own x)) x (.ins A.C'3 dxx [])):=fun b o e=>by
   rwa[ao (ak e nx),ao (ak e ndx)]
  have s1:Same H H1:=fun b o e=>bt b o (s0 b o e) (ak e nx);have nx1:∀b o,H b=some o->b≠x:=fun b o e=>ak e nx;show#[_,rfl,rdG (s1 _ _ hp) (Ir T) #[_,rfl,rdG (s1 _ _ hp') (Ir T) #[_,_,rfl,rfl,_,rfl,x,_,dxx,_,rfl,e1,T.qj,T.Xf,tb_g%,?_]]];rw[ahr];have k2:∀b o,H b=some o->∀u,(upd H1 x u) b=some o:=fun b o e u=>by rw[ao (nx1 b o e)];exact s1 _ _ e
  show#[_,rfl,rdG (k2 _ _ hp _) (Pq T) #[_,rfl,rdG (k2 _ _ hp' _) (Pq T) #[_,_,rfl,rfl,_,rfl,x,_,dxx,_,rfl,aj,T.qj,T.Xg,tb_g%,?_]]];rw[ahs,cB]
  k_dat lqn "c"
  show#[_,rfl,rdG (k2 _ _ hp _) (uJ T) #[d,emb c,rfl,.inl (k2 _ _ hd _),fun g hg=>?_]]
  k_dat lqg "c"
  have ngx:x≠g:=fun z=>by rw[<-z,aj]at hg;cases hg
  have ng:∀b o,H b=some o->b≠g:=fun b o e z=>by rw[<-z,k2 _ _ e]at hg;cases hg
  have k3:∀b o,H b=some o->(upd (upd H1 x (.ins A.C'3 dxx (fl room (t+t') (l+l') e0))) g (.dK (emb c))) b=some o:=fun b o e=>by rw[ao (ng b o e)];exact k2 b o e _
  show#[_,rfl,rdG (k3 _ _ hp') (uJ T) #[d',emb c',rfl,k3 _ _ hd',fun o wm=>WD (fun i σ H2=>Ex2 fun (y z:Option V)=>uF (σ=[some (.ref p),some (.ref p'),some (.ref x),some (.ref g),y,z]) (H2 d'=some (.frz o (.dK (emb c')))) (H2 g=some (.dK (emb (aV c (c'.take i))))) (H2 x=some (.ins A.C'3 dxx (fl room (t+t') (l+l') e0))) ((∀ b u,H b=some u->b≠d'->H2 b=some u)))
   #[none,none,rfl,aj,?_,?_,fun b u e hb=>by rw [ao hb];exact k3 b u e] (fun i σ H2 ⟨_,_,_,h,_,_,_⟩=>h) ?_ ?_]]
  ·rw[ao (aG (ng _ _ hd')),aj];rfl
  ·rw[ao (aG (nx1 _ _ hd')),ao ngx,aj]
  ·rintro i pp t2 σ H2 hi ⟨y,z,rfl,f1,f2,f3,f4⟩ ht;obtain⟨pr,hpr,rfl⟩:=amZ hi;have m1:∀b u,H2 b=some u->(upd H2 t2 (.tup [.int pr.1,.int pr.2])) b=some u:=fun b u e=>by rwa[ao (ak e ht)]
   show#[t2,_,rfl,.inl (.inl aj),rfl,_,_,rfl,_,_,rfl,rfl,?_];show#[_,rfl,g,rfl,.inl #[_,.inl (m1 _ _ f2)],_,rfl,_,zH (.inl (m1 _ _ f2)),?_];rw[vN];have hz:(emb (aV c (c'.take i))).length<sizeLine:=by
    rw[jW];have:=uc (c'.take i) c;rw[dN]at this;exact aM tb_g%
   show#[_,rfl,_,_,rfl,rfl,_,rfl,_,rfl,Kl (m1 _ _ f2) hz ?_];rw[zF,<-ai0 hpr];have ngd:d'≠g:=ng _ _ hd';show#[_,_,rfl,by rw[ao ngd];exact m1 _ _ f1,aj,by rw[ao ngx];exact m1 _ _ f3,fun b u e hb=>by rw[ao (ng b u e)];exact m1 _ _ (f4 b u e hb)]
  ·rintro σ H2 ⟨y,z,rfl,f1,f2,f3,f4⟩;rw[jW,gZ]at f2;show#[d',emb c',o,wm,f1,?_];have ngd:g≠d':=aG (ng _ _ hd');have nxd:x≠d':=aG (nx1 _ _ hd');have f2':(upd H2 d' (.dK (emb c'))) g=some (.dK (emb (aV c c'))):=by rwa[ao ngd]
   have f3':(upd H2 d' (.dK (emb c'))) x=some (.ins A.C'3 dxx (fl room (t+t') (l+l') e0)):=by rwa[ao nxd]
   have f4':Same H (upd H2 d' (.dK (emb c'))):=fun b u e=>by
    by_cases hb:b=d'
    ·subst hb;rw[aj,<-e,hd']
    ·rw[ao hb];exact f4 b u e hb
   show#[_,rfl,x,dxx,_,rfl,f3',xM _ _ _ _ tb_g% tb_g% tb_g% tb_g%,_,rfl,x,dxx,g,e0,room,t+t',l+l',aV c c',rfl,f3',f2',Ax _ hn,Rz _ pos pos',h64,fun e' b' cut H3 n3 fit g3 g4 bt3=>?_];show#[_,rfl,q x dxx e' b' cut H3 nx (f4'.free n3) fit g3 g4 fun b u e=>bt3 b u (f4' b u e) (nx1 b u e)]
noncomputable def aoO:Sp:=fun vs H Q _=>Ex4 fun(a:Addr) (bs:List Addr) (ls:RG.Ls) (i:Nat)=>ou (vs=[.ref a,.int (i:Int)]) (LL H a bs ls) (∀(c:Addr)(H':Hp),H' c=some (.lst ((ls.getD i []).map V.int))->Same H H'->Q (.ref c) H')
theorem aga(T:Tx K mg A):FnK P w base T.K3 CX0 1 aoO:=by
 k_dat (T.K3,T.K3.ok,afZ) "f"
 ·obtain⟨a,bs,ls,i,rfl,hL,q⟩:=h;show#[_,by k_dat ([abh],[],[]) "p",?_];show#[_,rfl,_,rfl,eX (.inl (.inl hL.o)) #[_,_,rfl,rfl,_,rfl,cW (fun h=>?_) (fun h=>?_)]]
  ·have hi:i<ls.length:=by
    have:=mP h;rw[aC,hL.n]at this;lia
   obtain⟨b,l,eb,el,hb⟩:=hL.at hi;show#[_,rfl,_,rfl,dj (.inl (.inl hL.o)) (v:=.ref b) (LL.ix eb) (q b H ?_ (Same.refl _))];rwa[oN,el]
  ·have hi:ls.length<=i:=by
    have:¬ (i:Int)<((bs.map V.ref).length:Int):=fun z=>h (mN z);rw[aC,hL.n]at this;lia
   show#[tb_g%,fun c hc=>q c _ ?_ (Same.new hc)];rw[oN,wL hi];exact aj
noncomputable def aqU(A:Ad):Sp:=fun vs H Q _=>Ex8 fun p dx a p' dx' a' bs bs'=>Ex8 fun r tt ov un tn tt' ov' un'=>Ex7 fun tn' mi ma mi' ma' ls ls'=>z7 (vs=[.ref p,.ref p']) (Rn A H p dx a bs r tt ov un tn mi ma ls) (Rn A H p' dx' a' bs' r tt' ov' un' tn' mi' ma' ls') (2<=r) (r<=64) (ls.length<=400) (ls'.length<=400) (uF ((∀k∈RG.join ls ls',k.length<=63)) (((∀k∈RG.join ls ls',k.length<=31)\/∀k∈RG.join ls ls',(k.length:Int)<=r)) (RG.val ls<2 ^ 400) (RG.val ls'<2 ^ 400) (∀z dz g cs out tn2 ov2 un2 H',RG.Stl r 0 (tn+tn') (ov+ov') (un+un') (RG.join ls ls') out tn2 ov2 un2->Rn A H' z dz g cs r (tt+tt') ov2 un2 tn2 (lo2 mi mi') (hi2 ma ma') out->H z=none->H g=none->(∀c∈cs,H c=none)->Same H H'->Q (.ref z) H'))
theorem Oq(T:Tx K mg A):FnK P w base T.qy CX0 5 (aqU A):=by
 k_dat (T.qy,T.qy.ok,xr) "f"
 ·obtain⟨p,dx,a,p',dx',a',bs,bs',r,tt,ov,un,tn,tt',ov',un',tn',mi,ma,mi',ma',ls,ls',rfl,hR,hS,r2,r64,l4,l4',jb,j6,v1,v2,q⟩:=h;show#[_,by (k_dat ([hdA],[xr.nd,gF T.aeM T.ag9 (Cq T) ?_,aD (Xl T) ?_,aD (Uq T) ?_,bZ (lG rfl) (by rfl) T.Mz DK ?_,tV rfl T.HJ ?_,aD (aga T) ?_,bZ (jX rfl) (by rfl) T.fM Gh ?_,aU ?_ T.gH (xJ T) ?_],[]) "p"; k_dat dX "h"; k_dat dX "h"; k_dat dX "h"; k_dat dX "h"; k_dat sV "h"),?_]
  k_dat lq "c"
  show#[_,rfl,rdG hR.o (Pk T) #[_,rfl,rdG hS.o (Pk T) #[rfl,_,rfl,BW rfl ?_]]];show#[_,rfl,rdG hR.o (Pk T) fun z dz nz ndz nez=>?_];show#[z,dz,_,rfl,aj,fun e0 H1 he0 o1 f1 bt=>#[rfl,?_]]
  k_dat lqg "c"
  have s1:Same H H1:=fun b o e=>bt b o (by rwa[ao (ak e nz),ao (ak e ndz)]) (ak e nz);have k1:∀u:HO,Same H (upd H1 z u):=fun u b o e=>by rw[ao (ak e nz)];exact s1 _ _ e
  have R1:=hR.same s1;have R2:=hS.same s1;show#[_,rfl,rdG R1.o (uG T) #[_,rfl,rdG R2.o (uG T) #[_,_,rfl,rfl,_,rfl,z,_,dz,_,rfl,o1,T.gH,T.aiI,tb_g%,?_]]];rw[Ib];have R1:=hR.same (k1 (.ins A.C'0 dz (rg (.int r) (.int (tt+tt')) (.int 0) (.int 0) (.int 0) .non .non (.ref e0))));have R2:=hS.same (k1 (.ins A.C'0 dz (rg (.int r) (.int (tt+tt')) (.int 0) (.int 0) (.int 0) .non .non (.ref e0))));show#[_,rfl,rdG R1.o (Ia T) #[_,rfl,rdG R2.o (Ia T) #[_,_,rfl,rfl,_,rfl,z,_,dz,_,rfl,aj,T.gH,T.aiJ,tb_g%,?_]]];rw[M6];rw[cB];have R1:=hR.same (k1 (.ins A.C'0 dz (rg (.int r) (.int (tt+tt')) (.int (ov+ov')) (.int 0) (.int 0) .non .non (.ref e0))));have R2:=hS.same (k1 (.ins A.C'0 dz (rg (.int r) (.int (tt+tt')) (.int (ov+ov')) (.int 0) (.int 0) .non .non (.ref e0))));show#[_,rfl,rdG R1.o (z8 T) #[_,rfl,rdG R2.o (z8 T) #[_,_,rfl,rfl,_,rfl,z,_,dz,_,rfl,aj,T.gH,T.aiK,tb_g%,?_]]];rw[Ie];rw[cB];have R1:=hR.same (k1 (.ins A.C'0 dz (rg (.int r) (.int (tt+tt')) (.int (ov+ov')) (.int (un+un')) (.int 0) .non .non (.ref e0))));have R2:=hS.same (k1 (.ins A.C'0 dz (rg (.int r) (.int (tt+tt')) (.int (ov+ov')) (.int (un+un')) (.int 0) .non .non (.ref e0))));show#[_,rfl,rdG R1.o (qN T) #[_,rfl,rdG R2.o (qN T) #[_,_,rfl,rfl,_,rfl,z,_,dz,_,rfl,aj,T.gH,T.TX,tb_g%,?_]]];rw[wG];rw[cB]
  k_dat lqn "c"
  have s2:=k1 (.ins A.C'0 dz (rg (.int r) (.int (tt+tt')) (.int (ov+ov')) (.int (un+un')) (.int (tn+tn')) .non .non (.ref e0)));have o2:(upd H1 z (.ins A.C'0 dz (rg (.int r) (.int (tt+tt')) (.int (ov+ov')) (.int (un+un')) (.int (tn+tn')) .non .non (.ref e0)))) z=_:=aj;have R1:=hR.same s2;have R2:=hS.same s2;generalize upd H1 z (.ins A.C'0 dz (rg (.int r) (.int (tt+tt')) (.int (ov+ov')) (.int (un+un')) (.int (tn+tn')) .non .non (.ref e0)))=H2 at s2 o2 R1 R2 ⊢;show#[_,rfl,rdG R1.o (Um T) #[_,rfl,rdG R2.o (Um T) #[mi,mi',rfl,fun H3 s3=>#[_,rfl,z,_,dz,_,rfl,s3 _ _ o2,T.gH,T.Xb,tb_g%,?_]]]];rw[Ig]
  k_dat (nsA (s2.trans s3) nz,H4,s4,o4) "n"
  have R1:=hR.same s4;have R2:=hS.same s4;show#[_,rfl,rdG R1.o (aaJ T) #[_,rfl,rdG R2.o (aaJ T) #[ma,ma',rfl,fun H5 s5=>#[_,rfl,z,_,dz,_,rfl,s5 _ _ o4,T.gH,T.Xc,tb_g%,?_]]]];rw[M7]
  k_dat (nsA (s4.trans s5) nz,H6,s6,o6) "n"
  k_dat lqn "c"
  show#[tb_g%,fun g hg=>?_]
  k_dat (nwA hg,H7,s7,f7) "n"
  k_dat lqg "c"
  have n7:H g=none:=s6.free hg;have zg:z≠g:=ak o6 hg;have s07:=s6.trans s7;have R1:=hR.same s07;have R2:=hS.same s07;have na:((bs.map V.ref).length:Int)=(ls.length:Int):=by rw[aC,hR.l.n]
  have nb:((bs'.map V.ref).length:Int)=(ls'.length:Int):=by rw[aC,hS.l.n]
  show#[_,rfl,rdG R1.o (qO T) (eX (.inl (.inl R1.l.o)) #[_,rfl,rdG R2.o (qO T) (eX (.inl (.inl R2.l.o)) #[_,_,rfl,?_])])];rw[na,nb];have em:(if(ls'.length:Int)>(ls.length:Int)then(ls'.length:Int)else(ls.length:Int))=((max ls.length ls'.length:Nat):Int):=by split <;> lia
  rw[em];show#[_,rfl,by lia,by lia,?_];refine Am (fun i σ G=>Ex2 fun(cs:List Addr) (y:Option V)=>uF (σ=[some (.ref p),some (.ref p'),some (.ref z),some (.ref g),y]) (LL G g cs (RG.ur i ls ls')) (Same H G) (G z=H6 z) (∀c∈cs,H c=none))
   #[[],none,rfl,#[f7,rfl,fun i b l e=>by (cases i <;> cases e),fun z=>nomatch z],s07,(s7 _ _ o6).trans o6.symm,fun _ h=>nomatch h] ?_ ?_
  ·rintro i σ G hi ⟨cs,y,rfl,L,sG,gz,fr⟩;have hi':i<max ls.length ls'.length:=by lia
   have R1:=hR.same sG;have R2:=hS.same sG;have jl:(RG.jn ls ls' i).length<=63:=jb _ (by unfold RG.join RG.ur;exact dU.mpr #[i,CQ.mpr hi',rfl]);rw[RG.Ez]at jl;show#[_,rfl,.inl #[rfl,_,.inl (.inl L.o)],_,rfl,rdG R1.o (qO T) #[_,rfl,a,bs,ls,i,by rw[kY];rfl,R1.l,fun c1 G1 f1 t1=>?_]];show#[_,rfl,rdG (R2.same t1).o (qO T) #[_,rfl,a',bs',ls',i,by rw[kY];rfl,(R2.same t1).l,fun c2 G2 f2 t2=>?_]];show#[c1,c2,_,_,rfl,rfl,t2 _ _ f1,f2,eF (aM (by rw[aC,aC];lia)),fun c3 hc3=>?_];rw[<-bM]
   k_dat (nwA hc3,G3,t3,f3) "n"
   refine .inr #[c3,_,rfl,.inl (.inl f3),by rw[dw];lia,fun c4 ns hc4 pm so=>?_];obtain rfl:=RG.vR pm so
   k_dat (nwA hc4,G4,t4,f4) "n"
   have t03:=t1.trans (t2.trans t3);have n4:c4≠g:=aG (ak (t03 _ _ L.o) hc4);have N4:H c4=none:=(sG.trans t03).free hc4;have t04:=t03.trans t4;have L4:=L.same t04;have z4:=t04 _ _ (gz.trans o6);have s4:=sG.trans t04;show#[g,_,_,rfl,rfl,L4.o,aM (by rw[aC,L4.n,RG.ux];lia),?_];have L5:=L4.app (m:=RG.jn ls ls' i) f4 n4;rw[<-RG.vU]at L5;show#[_,_,rfl,L5,fun b o e=>by rw[ao (ak e n7)];exact s4 b o e,by rwa[ao zg,o6],fun c hc=>?_];rcases bO.mp hc with y|y
   ·exact fr c y
   ·rwa[cC.mp y]
  ·rintro σ G ⟨cs,y,rfl,L,sG,gz,fr⟩;rw[ak3]at L;rw[o6]at gz;have jv:RG.val (RG.join ls ls')<2 ^ 500:=by
    rw[RG.abQ];have:(2:Nat) ^ 400+2 ^ 400<2 ^ 500:=by decide
    lia
   show#[_,rfl,z,dz,_,rfl,gz,rgN tb_g%,_,rfl,z,dz,g,cs,RG.join ls ls',r,tt+tt',ov+ov',un+un',tn+tn',lo2 mi mi',hi2 ma ma',.ref e0,rfl,gz,L,r2,r64,j6,by rw [RG.Sh];lia,jv,fun g2 bs2 out tn2 ov2 un2 G7 st ng2 L7 o7 b7 _ fr7=>?_];have nz2:∀ c,G c=none->H c=none:=fun c n=>sG.free n;show#[_,rfl,q z dz g2 bs2 out tn2 ov2 un2 G7 st #[o7,L7] nz (nz2 _ ng2) (fun c hc=>by
    rcases fr7 c hc with y|y
    ·exact fr c y
    ·exact nz2 c y) fun b o e=>b7 b o (sG b o e) (ak e nz)]
noncomputable def shift(c:Int)(b:WN.Box):WN.Box:=#[b.f+c,b.l+c,b.s]
noncomputable def agb(A:Ad):Sp:=fun vs H Q _=>Ex8 fun p dx l p' dx' l' r k=>Ex4 fun c c' ps ps'=>Oh (vs=[.ref p,.ref p']) (Wn A H p dx l r k c ps) (Wn A H p' dx' l' r k c' ps') (ps.length+ps'.length<=400) (0<=r) (r<=64) (∀x dxx l2 ps2 H',H x=none->H l2=none->bx ps2=kJ r (c+c'-k) (bx ps++(bx ps').map (shift c))->Wn A H' x dxx l2 r k (c+c') ps2->Same H H'->Q (.ref x) H')
theorem agc{c:Int}{ps:List Bp}{i:Nat}{p:Bp}(h:ps[i]? = some p):(bx (ps.take (i+1))).map (shift c)=(bx (ps.take i)).map (shift c)++[shift c p.2]:=by
 unfold bx;rw[jE,h,bM,bM];rfl
theorem acL(T:Tx K mg A):FnK P w base T.Fp CX0 5 (agb A):=by
 k_dat (T.Fp,T.Fp.ok,zX) "f"
 ·obtain⟨p,dx,l,p',dx',l',r,k,c,c',ps,ps',rfl,hw,hw',h400,r0,r64,q⟩:=h;show#[_,by (k_dat ([hdA,fK],[zX.nd,gF T.aeN T.ace (Aa T) ?_,aU ?_ T.vY (lR T) ?_],[mG 3 zX.nd [("one",~~~s+1)] ["box","one"] [0] (te:=(tTup (Rj (tOp _ (tOp (zA K) _ _) (amz K _ "clock")) (Rj (tOp _ (tOp (zA K) _ _) (amz K _ "clock")) (Rj (tOp (zA K) _ _) ahS))))) ?_ (fun _ _ _ _=>Z0) (fun _ _ _ _=>(Kf (cg (eO dX (gW (ixG tb_g%) (pv 0) cI (fun _ _=>rfl)) (pf 1)) (cg (eO dX (gW (ixG tb_g%) (pv 0) cI (fun _ _=>rfl)) (pf 1)) (cg (gW (ixG tb_g%) (pv 0) cI (fun _ _=>rfl)) gA)))))]) "p"; k_dat dX "h"; k_dat sV "h"),?_]
  k_dat lq "c"
  show#[_,rfl,rdG hw.o (Pn T) #[_,rfl,rdG hw'.o (Pn T) #[rfl,_,rfl,BW rfl ?_]]];show#[_,rfl,rdG hw.o (z9 T) #[_,rfl,rdG hw'.o (z9 T) #[rfl,_,rfl,BW rfl ?_]]];show#[_,rfl,rdG hw.o (Pn T) #[_,rfl,rdG hw.o (z9 T) fun x dxx nx ndx nex=>?_]];show#[x,dxx,r,k,rfl,aj,fun d H1 hd e1 e2 bt1=>#[rfl,?_]];have s1:Same H H1:=fun b o e=>bt1 b o (by rwa[ao (ak e nx),ao (ak e ndx)]) (ak e nx);show#[_,rfl,rdG (s1 _ _ hw.o) (ji T) #[_,rfl,rdG (s1 _ _ hw'.o) (ji T) #[_,_,rfl,rfl,_,rfl,x,_,dxx,_,rfl,e1,T.vY,T.TY,tb_g%,?_]]];rw[wH]
  k_dat (nsA s1 nx,H2,s2,o2) "n"
  have w2:=hw.same s2;have w2':=hw'.same s2;show#[_,rfl,rdG w2'.o (uH T) #[l',rfl,#[_,.inl (.inl w2'.b.l)],fun D hD=>?_]];refine ah5 (K:=K) (a:=l') (xs:=ps'.map fun p=>V.ref p.1) (fun i ys H3=>∃(qs:List Bp),uF (ys=qs.map (fun p=>V.ref p.1)) (bx qs=(bx (ps'.take i)).map (shift c)) ((∀p∈qs,H3 p.1=some (bt p.2))) (H3 D=some (.lst ys)) (Same H2 H3)) #[[],rfl,rfl,(fun p m=>nomatch m),aj,Same.new hD] ?_ ?_ ?_ ?_
  ·rintro i ys H3 hi ⟨qs,rfl,eq,tq,fD,s3⟩;show#[.inl (.inl (s3 _ _ w2'.b.l)),fD,aM ?_];have:qs.length=(ps'.take i).length:=by rw[<-kE,eq,aC,kE]
   rw[aC,this,dN];lia
  ·rintro i ys H3 y hy ⟨qs,rfl,eq,tq,fD,s3⟩;obtain⟨z,hz,rfl⟩:=Ik hy;have hzt:=s3 _ _ (w2'.b.t z (mv hz));have w3:=w2.same s3;show#[_,rfl,bY (.inl (.inl hzt)) (v:=.int z.2.f) rfl #[_,rfl,rdG w3.o (ji T) #[_,_,rfl,rfl,?_]]];show#[_,rfl,bY (.inl (.inl hzt)) (v:=.int z.2.l) rfl #[_,rfl,rdG w3.o (ji T) #[_,_,rfl,rfl,?_]]];show#[_,rfl,bY (.inl (.inl hzt)) (v:=.int z.2.s) rfl #[tb_g%,fun t ht=>?_]];have s4:Same H3 (upd H3 t (bt (shift c z.2))):=Same.new ht;have f4:(upd H3 t (bt (shift c z.2))) t=some (bt (shift c z.2)):=aj;show(upd H3 t (bt (shift c z.2))) D=_/\∃qs':List Bp,_;have nD:∀a b,H3 a=some (bt b)->a≠D:=fun a b e=>fU e fD (by intro z;cases z);show#[s4 _ _ fD,qs++[(t,shift c z.2)],by rw[bM];rfl,?_,fun p m=>?_,aj,fun b o e=>?_]
   ·rw[agc hz,<-eq];unfold bx;rw[bM];rfl
   ·rcases bO.mp m with m|m
    ·have:=tq p m;rw[ao (nD _ _ this)];exact s4 _ _ this
    ·rw[cC.mp m];have:t≠D:=aG (ak fD ht);rwa[ao this]
   ·rw[ao (ak e hD)];exact s4 _ _ (s3 _ _ e)
  ·rintro ys H3 ⟨qs,rfl,eq,tq,fD,s3⟩;rw[aC,gZ]at eq;have s03:=s2.trans s3;have lq:qs.length=ps'.length:=by rw[<-kE,eq,aC,kE]
   show#[_,rfl,x,dxx,_,rfl,s3 _ _ o2,Xm _ _ _ _ tb_g% tb_g% tb_g% tb_g%,?_];show#[_,rfl,rdG (s03 _ _ hw.o) (uH T) #[_,rfl,l,D,_,_,rfl,rfl,s03 _ _ hw.b.l,fD,eF (aM (by rw[aC,aC];lia)),fun l4 hl4=>?_]]
   k_dat (nwA hl4,H4,s4,fH4) "n"
   have b4:Bxs H4 l4 (ps++qs):=by
    show#[by rw[fH4,bM],fun z m=>?_];rcases bO.mp m with m|m
    ·exact s4 _ _ (s03 _ _ (hw.b.t z m))
    ·exact s4 _ _ (tq z m)
   show#[x,dxx,l4,d,r,k,c+c',_,rfl,s4 _ _ (s3 _ _ o2),b4,by rw[dw];lia,r0,r64,fun l5 ps5 H5 e5 w5 b5 n5=>?_];have s04:=s03.trans s4;show#[_,rfl,q x dxx l5 ps5 H5 nx (s04.free n5) ?_ w5 fun b o e=>b5 b o (s04 _ _ e) (ak e nx)];rw[e5];congr 1;unfold bx at eq ⊢;rw[bM,eq]
  ·exact Sv (gK (gY (jo (aP 0) (lM _)) (SJ (aP 1))) (gK (gY (jo (aP 0) (lM _)) (SJ (aP 1))) (gK (jo (aP 0) (lM _)) uz)))
noncomputable def ai1(A:Ad):Sp:=fun vs H Q _=>Ex8 fun p dx l p' dx' l' s q=>∃q',oJ (vs=[.ref p,.ref p']) (Bn A H p dx l s q) (Bn A H p' dx' l' s q') (∀x dxx l2 H',H x=none->Bn A H' x dxx l2 s (addQ q q')->Same H H'->Q (.ref x) H')
theorem Iz(T:Tx K mg A):FnK P w base T.lN CX0 3 (ai1 A):=by
 k_dat (T.lN,T.lN.ok,rF) "f"
 ·obtain⟨p,dx,l,p',dx',l',sp,q,q',rfl,hb,hb',k⟩:=h;show#[_,by k_dat ([],[rF.nd,gF T.aeQ T.Xh (xQ T) ?_,an1 rfl T.arL ?_],[ah4 (g:=(amn K 2 (Gm (mF 0) (Gm (mF 1) amm)))) 2 [] ["first","second"] [] (fun _ _ _ _=>aeS rfl (zj (vI (i:=0) (show(["first","second"]:List Str).Nodup by decide +kernel) rfl (Or.inl rfl)) (zj (vI (i:=1) (show(["first","second"]:List Str).Nodup by decide +kernel) rfl (Or.inl rfl)) Zv))) ?_ (fun _ _ _ _=>Z0) (fun _ _ _ _=>(eO dX (pv 0) (pv 1)))]) "p",?_]
  k_dat lq "c"
  show#[_,rfl,rdG hb.o (Iu T) #[_,rfl,rdG hb'.o (Iu T) #[rfl,_,rfl,BW rfl ?_]]];show#[_,rfl,rdG hb.o (Iu T) fun x dxx nx ndx nex=>?_];show#[x,dxx,sp,rfl,aj,fun d H1 hd b1 bt1=>#[rfl,?_]];have s1:Same H H1:=fun b o e=>bt1 b o (by rwa[ao (ak e nx),ao (ak e ndx)]) (ak e nx);show#[_,rfl,rdG (s1 _ _ hb.o) (Iv T) #[_,rfl,rdG (s1 _ _ hb'.o) (Iv T) #[l,l',_,_,rfl,s1 _ _ hb.l,s1 _ _ hb'.l,fun D hD=>?_]]];refine W8 (xs:=(L4 q).map V.int) (ys:=(L4 q').map V.int) (fun i zs H2=>zs=((L4 (addQ q q')).take i).map V.int/\H2 D=some (.lst zs)/\Same H1 H2) #[rfl,aj,Same.new hD] ?_ ?_ ?_ (Sw 0 1) ?_
  ·rintro i zs H2 ⟨rfl,f,s2⟩;show#[s2 _ _ (s1 _ _ hb.l),s2 _ _ (s1 _ _ hb'.l),f,aM (by rw[aC,dN];show min i 4<=1000;lia)]
  ·rintro i zs H2 u v t ws hu hv ⟨rfl,f,s2⟩ ht hw;obtain⟨w0,w1,rfl⟩:∃w0 w1,ws=[w0,w1]:=#[_,_,List.eq_getElem_of_length_eq_two ws hw];have s3:Same H2 (upd H2 t (.tup [u,v])):=Same.new ht;have keep:∀L b o,H1 b=some o->(upd (upd H2 t (.tup [u,v])) D L) b=some o:=fun L b o e=>by rw[ao (ak e hD)];exact s3 _ _ (s2 _ _ e)
   show#[t,_,rfl,.inl (.inl aj),rfl,_,_,rfl,_,_,rfl,rfl,#[[some u,some v],rfl,rfl],?_];rcases eY hu with⟨rfl,rfl⟩|⟨rfl,rfl⟩|⟨rfl,rfl⟩|⟨rfl,rfl⟩
   ·rcases eY hv with⟨_,rfl⟩|⟨h,_⟩|⟨h,_⟩|⟨h,_⟩
    ·show#[_,rfl,_,rfl,_,_,rfl,rfl,s3 _ _ f,rfl,aj,keep _]
    all_goals lia
   ·rcases eY hv with⟨h,_⟩|⟨_,rfl⟩|⟨h,_⟩|⟨h,_⟩
    ·lia
    ·show#[_,rfl,_,rfl,_,_,rfl,rfl,s3 _ _ f,rfl,aj,keep _]
    all_goals lia
   ·rcases eY hv with⟨h,_⟩|⟨h,_⟩|⟨_,rfl⟩|⟨h,_⟩
    ·lia
    ·lia
    ·show#[_,rfl,_,rfl,_,_,rfl,rfl,s3 _ _ f,rfl,aj,keep _]
    ·lia
   ·rcases eY hv with⟨h,_⟩|⟨h,_⟩|⟨h,_⟩|⟨_,rfl⟩
    ·lia
    ·lia
    ·lia
    ·show#[_,rfl,_,rfl,_,_,rfl,rfl,s3 _ _ f,rfl,aj,keep _]
  ·rintro zs H2 ⟨rfl,f,s2⟩;show#[_,rfl,x,_,dxx,_,rfl,s2 _ _ b1.o,T.VH,T.T5,tb_g%,?_];rw[Ae];have npl:D≠x:=aG (ak b1.o hD);show#[_,rfl,k x dxx D _ nx #[aj,by rwa[ao npl]] fun b o e=>?_];rw[ao (ak e nx)];exact s2 _ _ (s1 _ _ e)
  ·exact gY (aP 0) (aP 1)
noncomputable def un(C D:List Int):List Int:=Sx.dd (C++D)
theorem aaR:z∈un C D↔z∈C\/z∈D:=by unfold un;rw[Sx.anm,bO]
theorem arP(C D:List Int):(un C D).Nodup:=Sx.abJ _
theorem aoP(C D:List Int):(un C D).length<=C.length+D.length:=by have:=Sx.Z7 (C++D);rwa[dw]at this
theorem aoQ{C:List Int}(h:C.Nodup):(up v C).Nodup:=h.filter _
theorem aoR{C D:List Int}(nd:C.Nodup)(h:∀z∈C,z∈D):(up v C).length<=(up v D).length:=
 (aoQ nd).length_le_of_subset fun z m=>qQ.mpr #[h z (qQ.mp m).1,(qQ.mp m).2]
theorem aqV{C:List Int}(h:C.Nodup):(came C k).Nodup:=Sx.WR h
theorem aoS:z∈came C k↔z∈C\/z=k:=Sx.agR
noncomputable def aqW(A:Ad):Sp:=fun vs H Q _=>Ex8 fun p dx l p' dx' l' r n=>Ex5 fun v n' v' C D=>z7 (vs=[.ref p,.ref p']) (Dn A H p dx l r n v (srt (up v C))) (Dn A H p' dx' l' r n' v' (srt (up v' D))) (Ac r v C) (Ac r v' D) C.Nodup D.Nodup (oJ (0<=r) (r<=400) (C.length+D.length<=63) (∀x dxx l2 w H',H x=none->H l2=none->Ac r w (un C D)->Dn A H' x dxx l2 r (n+n') w (srt (up w (un C D)))->Same H H'->Q (.ref x) H'))
theorem FQ(T:Tx K mg A):FnK P w base T.j9 CX0 5 (aqW A):=by
 k_dat (T.j9,T.j9.ok,qI) "f"
 ·obtain⟨p,dx,l,p',dx',l',r,n,v,n',v',C,D,rfl,h1,h2,L1,L2',nC,nD,r0,r4,f63,q⟩:=h;show#[_,by (k_dat ([hdA],[qI.nd,gF T.aeO T.T3 (uI T) ?_,bZ (lG rfl) (by rfl) T.Mz DK ?_,tY (aii rfl) (by rfl) T.n_set arX ?_,bZ (afw rfl) (by rfl) T.fM Gh ?_,aD (M8 T) ?_,aU ?_ T.xY (qR T) ?_],[]) "p"; k_dat dX "h"; k_dat sV "h"),?_]
  k_dat lq "c"
  show#[_,rfl,rdG h1.o (Il T) #[_,rfl,rdG h2.o (Il T) #[rfl,_,rfl,BW rfl ?_]]];show#[_,rfl,rdG h1.o (Il T) fun x dxx nx ndx nex=>?_];show#[x,dxx,r,rfl,L2.aj,fun d H1 hd e1 e2 bt1=>#[rfl,?_]]
  k_dat lqg "c"
  have s1:Same H H1:=fun b o e=>bt1 b o (by rwa[ao (ak e nx),ao (ak e ndx)]) (ak e nx);have v0:=L1.1;have v0':=L2'.1;have v61:=L1.le r0;have v61':=L2'.le r0;show#[_,rfl,rdG (s1 _ _ h1.o) (rJ T) #[_,rfl,rdG (s1 _ _ h2.o) (rJ T) #[_,_,rfl,rfl,_,rfl,x,_,dxx,_,rfl,e1,T.xY,T.Xd,tb_g%,?_]]];rw[xK]
  k_dat (nsA s1 nx,H2,s2,o2) "n"
  show#[_,rfl,rdG (s2 _ _ h1.o) (jC T) #[_,rfl,rdG (s2 _ _ h2.o) (jC T) #[_,_,rfl,_,rfl,x,_,dxx,_,rfl,o2,T.xY,T.Xe,tb_g%,?_]]];rw[Io];have hm:v<=(if v'>v then v' else v)/\v'<=(if v'>v then v' else v)/\(if v'>v then v' else v)<=61/\((if v'>v then v' else v)=v\/(if v'>v then v' else v)=v'):=by split <;> lia
  generalize (if v'>v then v' else v)=m at hm ⊢;obtain⟨m1,m2,m61,me⟩:=hm
  k_dat (nsA s2 nx,H3,s3,o3) "n"
  have k1:(srt (up v C)).length<=C.length:=by rw[fj];exact iV _ _
  have k2:(srt (up v' D)).length<=D.length:=by rw[fj];exact iV _ _
  have k3:=Sx.Z7 (srt (up v C)++srt (up v' D));rw[dw]at k3;show#[_,rfl,x,dxx,_,rfl,o3,ahm _ _ _ _ tb_g% tb_g% tb_g% tb_g%,?_];show#[_,rfl,rdG (s3 _ _ h1.o) (Im T) #[_,rfl,rdG (s3 _ _ h2.o) (Im T) #[l,l',_,_,rfl,rfl,s3 _ _ h1.l,s3 _ _ h2.l,eF (aM (by rw[aC,aC];lia)),fun l4 hl4=>?_]]];rw[<-bM]
  k_dat (nwA hl4,H4,zH4,f4) "n"
  have s4:=s3.trans zH4;have o4:=zH4 _ _ o3;show#[l4,_,rfl,.inl (.inl f4),by rw[dw];lia,fun sa hsa=>#[sa,_,rfl,L2.aj,by lia,fun l5 ns hl5 pm so=>?_]];obtain rfl:ns=srt (Sx.dd (srt (up v C)++srt (up v' D))):=vR pm so;have t5:=(Same.new hsa).trans (Same.new (o:=.lst ((srt (Sx.dd (srt (up v C)++srt (up v' D)))).map V.int)) hl5);generalize hH5:upd (upd H4 sa _) l5 (.lst ((srt (Sx.dd (srt (up v C)++srt (up v' D)))).map V.int))=H5 at t5 ⊢;have f5:H5 l5=some (.lst ((srt (Sx.dd (srt (up v C)++srt (up v' D)))).map V.int)):=by rw[<-hH5];exact L2.aj
  have s5:=s4.trans t5;have o5:=t5 _ _ o4;have ln:(srt (Sx.dd (srt (up v C)++srt (up v' D)))).length<=63:=by
   rw[fj];have:=Sx.Z7 (srt (up v C)++srt (up v' D));rw[dw]at this;lia
  show#[_,rfl,rdG o5 (jC T) #[l5,m,_,rfl,f5,by lia,fun l6 H6 nl6 g6 s6=>?_]];have o6:=s6 _ _ o5;have nS:(srt (Sx.dd (srt (up v C)++srt (up v' D)))).Nodup:=(fZ _).nodup_iff.mpr (Sx.abJ _);have ks:∀w,m<=w->(up w (up m (srt (Sx.dd (srt (up v C)++srt (up v' D)))))).Perm (up w (un C D)):=fun w hw=>by
   rw[aho hw];refine(Xu (aoQ nS) (aoQ (arP C D))).mpr fun z=>?_;rw[qQ,qQ,lV,Sx.anm,bO,lV,lV,qQ,qQ,aaR];constructor
   ·rintro⟨a|a,b⟩
    ·show#[.inl a.1,b]
    ·show#[.inr a.1,b]
   ·rintro⟨a|a,b⟩
    ·show#[.inl #[a,by lia],b]
    ·show#[.inr #[a,by lia],b]
  have lu:(up m (srt (Sx.dd (srt (up v C)++srt (up v' D))))).length<=63:=cH (iV _ _) ln;show#[x,dxx,l6,d,r,n+n',m,_,rfl,o6,g6,by lia,r0,by lia,m61,fun z hz=>(qQ.mp hz).2,fun l7 w H7 lv dn bt nl7=>#[_,rfl,?_]];have s06:=s5.trans s6;have lw:=lv.1;refine q x dxx l7 w H7 nx (s06.free nl7) #[by lia,?_,fun u u0 uw=>?_] ?_ fun b o e=>bt b o (s06 _ _ e) (ak e nx)
  ·rw[<-(ks w lw).length_eq];exact lv.2.1
  ·rcases(show u<m\/m<=u by lia)with z|z
   ·rcases me with e|e
    ·have:=L1.2.2 u u0 tb_g%;have:=aoR (v:=u) nC (D:=un C D) fun z m=>aaR.mpr (.inl m);lia
    ·have:=L2'.2.2 u u0 tb_g%;have:=aoR (v:=u) nD (D:=un C D) fun z m=>aaR.mpr (.inr m);lia
   ·rw[<-(ks u z).length_eq];exact lv.2.2 u z uw
  ·rwa[af6,Xn (ks w lw)]at dn
noncomputable def FP(room:Nat)(f g h:Fq):Prop:=∃cut,jV room (aV f.c g.c) h.c cut/\h.t=f.t+g.t/\h.l=f.l+g.l+cut
structure RP(f g h:Rs):Prop where
 r:h.r=f.r
 tt:h.tt=f.tt+g.tt
 mi:h.mi=lo2 f.mi g.mi
 ma:h.ma=hi2 f.ma g.ma
 st:RG.Stl f.r 0 (f.tn+g.tn) (f.ov+g.ov) (f.un+g.un) (RG.join f.ls g.ls) h.ls h.tn h.ov h.un
noncomputable def WP(room:Nat)(reach:Int)(f g h:Wi):Prop:=h.c=f.c+g.c/\bx h.ps=kJ room (f.c+g.c-reach) (bx f.ps++(bx g.ps).map (shift f.c))
noncomputable def DP(room:Nat)(f g h:Di):Prop:=h.n=f.n+g.n/\h.C=un f.C g.C/\Ac room h.v (un f.C g.C)
structure KP(x y z:KS):Prop where
 room:z.room=x.room
 reach:z.reach=x.reach
 span:z.span=x.span
 cm:FP x.room x.cm y.cm z.cm
 wn:FP x.room x.wn y.wn z.wn
 up:RP x.up.x y.up.x z.up.x
 dn:RP x.dn.x y.dn.x z.dn.x
 wi:WP x.room x.reach x.wi y.wi z.wi
 di:DP x.room x.di y.di z.di
 ba:z.ba.q=addQ x.ba.q y.ba.q
structure Alk(x y:KS)(n m:Nat):Prop where
 room:y.room=x.room
 reach:y.reach=x.reach
 span:y.span=x.span
 kx:Kh x n
 ky:Kh y m
 few:n+m<=63
 nx:x.di.C.Nodup
 ny:y.di.C.Nodup
theorem KP.kh(h:KP x y z)(a:Alk x y n m):Kh z (n+m):=by
 have gf:∀{f g k:Fq},FP x.room f g k->Gf x.room f n->Gf y.room g m->Gf z.room k (n+m):=fun {f g k} ⟨cut,ft,e1,e2⟩ ⟨⟨W,o1⟩,t1,k1⟩ ⟨⟨V,o2⟩,t2,k2⟩=>by
  rw[a.room]at o2;rw[h.room];show#[#[_,by rw[e1,e2];exact(o1.xX o2).fit ft],by rw[e1];lia,by have:=aht ft;have:=uc g.c f.c;lia]
 have gr:∀{f g k:Rs},RP f g k->Gr x.room f n->Gr y.room g m->Gr z.room k (n+m):=fun {f g k} p g1 g2=>by
  have e:g.r=f.r:=by rw[g1.r,g2.r,a.room]
  have h2:=g2.g;rw[e]at h2;show#[by rw[p.r,g1.r,h.room],by rw[p.r,p.tt];exact g1.g.xX h2 p.st,by have:=g1.t;have:=g2.t;rw[p.tt];lia,?_];rw[h.room];refine a.kx.rr.imp id fun z=>?_;have jl:=RG.zL (P:=fun k=>k.length<=n+m) (l:=f.ls) (m:=g.ls) fun i=>by
   rw[RG.Ez];have e1:=RG.mL (P:=fun k=>k.length<=n) (g1.sm.resolve_left tb_g%) (bF _) i;have e2:=RG.mL (P:=fun k=>k.length<=m) (g2.sm.resolve_left (by have:=a.room;lia)) (bF _) i;lia
  have fe:=a.few;have fr:=g1.r;obtain⟨e,_⟩:=(af9 0 (f.tn+g.tn) (f.ov+g.ov) (f.un+g.un) fun l ml=>by have:=jl l ml;lia).uniq p.st;rwa[e]
 have l1:=a.kx.wl;have l2:=a.ky.wl;have l3:=a.kx.dc;have l4:=a.ky.dc;show#[by rw[h.room];exact a.kx.r2,by rw[h.room];exact a.kx.r64,by rw[h.room];exact a.kx.rr,gf h.cm a.kx.cm a.ky.cm,gf h.wn a.kx.wn a.ky.wn,gr h.up a.kx.up a.ky.up,gr h.dn a.kx.dn a.ky.dn,?_,by rw[h.room,h.di.2.1];exact h.di.2.2,?_,a.few]
 ·have:=acI x.room (x.wi.c+y.wi.c-x.reach) (bx x.wi.ps++(bx y.wi.ps).map (shift x.wi.c));rw[<-h.wi.2,kE,dw,aC,kE,kE]at this;lia
 ·have:=aoP x.di.C y.di.C;rw[h.di.2.1];lia
theorem Alk.jb(a:Alk x y n m){f g:Rs}(g1:Gr x.room f n)(g2:Gr y.room g m):(∀k∈RG.join f.ls g.ls,k.length<=63)/\((∀k∈RG.join f.ls g.ls,k.length<=31)\/∀k∈RG.join f.ls g.ls,(k.length:Int)<=f.r):=by
 have fe:=a.few;have e1:=g1.r;have e2:=g2.r;have e3:=a.room;rcases a.kx.rr with z|z
 ·have jl:=RG.zL (P:=fun k=>k.length<=30) (l:=f.ls) (m:=g.ls) fun i=>by
   rw[RG.Ez];have e1:=RG.mL (P:=fun k=>k.length<=15) (fun k hk=>by have:=g1.g.sm k hk;lia) (bF _) i;have e2:=RG.mL (P:=fun k=>k.length<=15) (fun k hk=>by have:=g2.g.sm k hk;lia) (bF _) i;lia
  show#[fun k hk=>by have:=jl k hk;lia,.inl fun k hk=>by have:=jl k hk;lia]
 ·have jl:=RG.zL (P:=fun k=>k.length<=n+m) (l:=f.ls) (m:=g.ls) fun i=>by
   rw[RG.Ez];have e1:=RG.mL (P:=fun k=>k.length<=n) (g1.sm.resolve_left tb_g%) (bF _) i;have e2:=RG.mL (P:=fun k=>k.length<=m) (g2.sm.resolve_left tb_g%) (bF _) i;lia
  show#[fun k hk=>by have:=jl k hk;lia,.inr fun k hk=>by have:=jl k hk;lia]
theorem auW{L:List Addr}:∀{i:Nat},L.Nodup->y∉L->(L.set i y).Nodup:=by
 induction L with
 |nil=>intro i h _;exact h
 |cons a r ih =>
  intro i h n;obtain⟨h1,h2⟩:=iW.mp h;have n1:y≠a:=fun z=>n (by rw[z];exact cJ);have n2:y∉r:=fun z=>n (cV _ z);cases i with
  |zero=>exact iW.mpr #[n2,h2]
  |succ i =>
   refine iW.mpr #[fun m=>?_,ih h2 n2];rcases Bw m with z|z
   ·exact h1 z
   ·exact n1 z.symm
theorem Kp.fresh{A:Ad}(h:Kp A G x){p:Addr}(n:G p=none):p∉x.all:=by
 intro m;unfold KS.all at m;simp only[aX,fH,or_false]at m;rcases m with rfl|rfl|rfl|rfl|rfl|rfl|rfl|rfl
 ·rw[h.o]at n;cases n
 ·rw[h.cm.o]at n;cases n
 ·rw[h.wn.o]at n;cases n
 ·rw[h.up.o]at n;cases n
 ·rw[h.dn.o]at n;cases n
 ·rw[h.wi.o]at n;cases n
 ·rw[h.di.o]at n;cases n
 ·rw[h.ba.o]at n;cases n
structure Frm(A:Ad)(G J:Hp)(x:KS)(p:Addr):Prop where
 b:But x.k G J
 o:∃C e fs,G x.k=some (.ins C e fs)
 nk:p≠x.k
 nd:∀i,(x.all.set i p).Nodup
 cm:uL A J x.room x.cm
 wn:uL A J x.room x.wn
 up:RnX A J x.up.p x.up.x
 dn:RnX A J x.dn.p x.dn.x
 wi:Wn A J x.wi.p x.wi.dx x.wi.l x.room x.reach x.wi.c x.wi.ps
 di:Dn A J x.di.p x.di.dx x.di.l x.room x.di.n x.di.v (srt (My.up x.di.v x.di.C))
 ba:Bn A J x.ba.p x.ba.dx x.ba.l x.span x.ba.q
noncomputable abbrev kz(k dk:Addr)(x:KS)(f1 f2:Fq)(f3 f4:Ru)(f5:Wi)(f6:Di)(f7:Ba):KS:=#[k,dk,x.room,x.reach,x.span,f1,f2,f3,f4,f5,f6,f7]
theorem Kp.step{A:Ad}{R:St->Hp->Prop}{σ:St}(h:Kp A G z)(sG:Same H G)(vk:H z.k=none)(s:Same G G1)(n:G p=none)
  (hz:∀J,Frm A G1 J z p->J z.k=some (.ins A.C'5 z.dk fs)->Kp A J z') (q:∀J,Kp A J z'->Same H J->H p=none->R σ J):R σ (upd G1 z.k (.ins A.C'5 z.dk fs)):=by
 have a:=h.ap;have o:=s _ _ h.o;have b:L2.But z.k G1 (L2.upd G1 z.k (.ins A.C'5 z.dk fs)):=But.upd;exact q _ (hz _ #[b,#[_,_,_,o],aG (ak h.o n),fun i=>auW h.nd (h.fresh n),(h.cm.same s).but b o (aG a.k1),(h.wn.same s).but b o (aG a.k2),(h.up.same s).but b o (aG a.k3),(h.dn.same s).but b o (aG a.k4),(h.wi.same s).but b o (aG a.k5),(h.di.same s).but b o (aG a.k6),(h.ba.same s).but b o (aG a.k7)] aj) (fun b o e=>by rw[ao (ak e vk)];exact(sG.trans s) b o e) (sG.free n)
noncomputable def aqX(A:Ad):Sp:=fun vs H Q _=>∃x,acy (vs=[.ref x.k]) (Kp A H x) (2<=x.room) (x.room<=64) (x.room % 2=0) (∀y H',Kp A H' y->Eqp y (K0 x.room x.reach x.span)->(∀b∈y.all,H b=none)->Same H H'->Q (.ref y.k) H')
theorem V5(T:Tx K mg A):FnK P w base T.wz CX0 5 (aqX A):=by
 k_dat (T.wz,T.wz.ok,VP) "f"
 ·obtain⟨x,rfl,hK,r2,r64,ev,q⟩:=h;show#[_,by k_dat ([],[gF T.aeR T.T6 (uM T) ?_],[]) "p",?_];show#[_,rfl,rdG hK.o (Pu T) #[_,rfl,rdG hK.o (Ag T) #[_,rfl,rdG hK.o (Bk T) ?_]]];refine fun k dk n1 n2 n3=>#[k,dk,x.room,x.reach,x.span,rfl,aj,r2,r64,ev,fun y H2 kp eqy ek hpts _ bt=>#[rfl,?_]];have up2:Same H (upd (upd H dk (.own k)) k (.ins A.C'5 dk [])):=fun b o e=>by rwa[ao (ak e n1),ao (ak e n2)]
  rw [<- ek];exact q y H2 kp eqy (fun b m=>by
   rcases aX.mp (show b∈y.k::y.pts from m)with z|z
   ·rw[z,ek];exact n1
   ·exact up2.free (hpts b z)) fun b o e=>bt b o (up2 b o e) (ak e n1)
noncomputable def aqY(A:Ad):Sp:=fun vs H Q _=>Ex4 fun x y n m=>uF (vs=[.ref x.k,.ref y.k]) (Kp A H x) (Kp A H y) (Alk x y n m) (∀z H',Kp A H' z->KP x y z->(∀b∈z.all,H b=none)->(∀b∈z.ems,H b=none)->Same H H'->Q (.ref z.k) H')
theorem ai2(T:Tx K mg A):FnK P w base T.Ub CX0 6 (aqY A):=by
 k_dat (T.Ub,T.Ub.ok,Xk) "f"
 ·obtain⟨x,y,n,m,rfl,hX,hY,al,q⟩:=h;show#[_,by k_dat ([],[Xk.nd,aD (V5 T) ?_,aD (FN T) ?_,aD (Oq T) ?_,aD (acL T) ?_,aD (FQ T) ?_,aD (Iz T) ?_],[]) "p",?_]
  k_dat lq "c"
  show#[_,rfl,rdG hX.o (Pu T) #[_,rfl,rdG hY.o (Pu T) #[rfl,_,rfl,BW (by rw[al.room]) ?_]]];show#[_,rfl,rdG hX.o (Ag T) #[_,rfl,rdG hY.o (Ag T) #[rfl,_,rfl,BW (by rw[al.reach]) ?_]]];show#[_,rfl,rdG hX.o (Bk T) #[_,rfl,rdG hY.o (Bk T) #[rfl,_,rfl,BW (by rw[al.span]) ?_]]];have r2:=al.kx.r2;have r64:=al.kx.r64;have ev:x.room % 2=0:=by have:=al.kx.up.g.ev;have:=al.kx.up.r;lia
  dsimp only[arl];refine sq fun R hR=>?_;show#[_,rfl,x,rfl,hX,r2,r64,ev,fun z0 H1 kp0 eq0 fr0 s0=>?_];obtain⟨k,dk,r0,rc,sp,c1,c2,u1,u2,w5,d6,b7⟩:=z0;obtain rfl:r0=x.room:=eq0.room;obtain rfl:rc=x.reach:=eq0.reach;obtain rfl:sp=x.span:=eq0.span;have vk:H k=none:=fr0 k (cJ ..);have kG:=kp0;have sG:=s0;have X:=hX.same sG;have Y:=hY.same sG;clear kp0 s0 eq0 fr0;obtain⟨W1,ok1⟩:=al.kx.cm.ok;obtain⟨W2,ok2⟩:=al.ky.cm.ok;obtain⟨W3,ok3⟩:=al.kx.wn.ok;obtain⟨W4,ok4⟩:=al.ky.wn.ok;have yr:=al.room;have er1:y.up.x.r=x.up.x.r:=by rw[al.kx.up.r,al.ky.up.r,al.room]
  have er2:y.dn.x.r=x.dn.x.r:=by rw[al.kx.dn.r,al.ky.dn.r,al.room]
  refine hR _ _ (sq fun R hR=>?_);show#[_,rfl,rdG X.o (Bl T) #[_,rfl,rdG Y.o (Bl T) #[x.cm.p,x.cm.dx,x.cm.d,y.cm.p,y.cm.dx,y.cm.d,x.room,x.cm.t,x.cm.l,y.cm.t,y.cm.l,x.cm.c,y.cm.c,rfl,X.cm.o,X.cm.d,(by rw[<-al.room];exact Y.cm.o),Y.cm.d,ok1.nd,ok1.pos,ok2.pos,by have:=uc y.cm.c x.cm.c;have:=al.kx.cm.k;have:=al.ky.cm.k;have:=al.few;lia,by have:=ok1.len;have:=ok2.len;lia,fun p dx d b cut G1 np ne ft o1 o2 s1=>?_]]];obtain⟨f1,rfl,F1,D1⟩:∃f:Fq,f.p=p/\uL A G1 x.room f/\FP x.room x.cm y.cm f:=#[#[p,dx,d,_,_,b],rfl,#[o1,o2],cut,ft,rfl,rfl];show#[_,rfl,k,_,dk,_,rfl,s1 _ _ kG.o,T.gQ,T.aci,tb_g%,kG.step (z':=kz k dk x f1 c2 u1 u2 w5 d6 b7) sG vk s1 np (fun J F o=>#[by rwa[acE]at o,(let ⟨_,_,_,g⟩:=F.o;F1.but F.b g F.nk),F.wn,F.up,F.dn,F.wi,F.di,F.ba,F.nd 1]) fun J1 K2 sG2 v1=>hR _ _ ?_];clear kG sG s1 np
  k_dat lq "c"
  have kG:=K2;have sG:=sG2;have X:=hX.same sG;have Y:=hY.same sG;clear K2 sG2;refine(sq fun R hR=>?_);show#[_,rfl,rdG X.o (Iw T) #[_,rfl,rdG Y.o (Iw T) #[x.wn.p,x.wn.dx,x.wn.d,y.wn.p,y.wn.dx,y.wn.d,x.room,x.wn.t,x.wn.l,y.wn.t,y.wn.l,x.wn.c,y.wn.c,rfl,X.wn.o,X.wn.d,(by rw[<-al.room];exact Y.wn.o),Y.wn.d,ok3.nd,ok3.pos,ok4.pos,by have:=uc y.wn.c x.wn.c;have:=al.kx.wn.k;have:=al.ky.wn.k;have:=al.few;lia,by have:=ok3.len;have:=ok4.len;lia,fun p dx d b cut G1 np ne ft o1 o2 s1=>?_]]];obtain⟨f2,rfl,F2,D2⟩:∃f:Fq,f.p=p/\uL A G1 x.room f/\FP x.room x.wn y.wn f:=#[#[p,dx,d,_,_,b],rfl,#[o1,o2],cut,ft,rfl,rfl];show#[_,rfl,k,_,dk,_,rfl,s1 _ _ kG.o,T.gQ,T.acj,tb_g%,kG.step (z':=kz k dk x f1 f2 u1 u2 w5 d6 b7) sG vk s1 np (fun J F o=>#[by rwa[acF]at o,F.cm,(let ⟨_,_,_,g⟩:=F.o;F2.but F.b g F.nk),F.up,F.dn,F.wi,F.di,F.ba,F.nd 2]) fun J2 K2 sG2 v2=>hR _ _ ?_];clear kG sG s1 np
  k_dat lq "c"
  have kG:=K2;have sG:=sG2;have X:=hX.same sG;have Y:=hY.same sG;clear K2 sG2;have L1:=mQ al.kx.up.g al.kx.up.t al.kx.few;have L2':=mQ al.ky.up.g al.ky.up.t al.ky.few;refine sq fun R hR=>?_;show#[_,rfl,rdG X.o (acD T) #[_,rfl,rdG Y.o (acD T) #[x.up.p,x.up.x.dx,x.up.x.a,y.up.p,y.up.x.dx,y.up.x.a,x.up.x.bs,y.up.x.bs,x.up.x.r,x.up.x.tt,x.up.x.ov,x.up.x.un,x.up.x.tn,y.up.x.tt,y.up.x.ov,y.up.x.un,y.up.x.tn,x.up.x.mi,x.up.x.ma,y.up.x.mi,y.up.x.ma,x.up.x.ls,y.up.x.ls,rfl,X.up,(by rw[<-er1];exact Y.up),al.kx.up.g.r2,al.kx.up.g.r64,by have:=L1.1;lia,by have:=L2'.1;lia,(al.jb al.kx.up al.ky.up).1,(al.jb al.kx.up al.ky.up).2,L1.2,L2'.2,fun p dx d bs2 out tn2 ov2 un2 G1 st rn np nd2 nc2 s1=>?_]]];obtain⟨f3,rfl,F3,D3,g3⟩:∃f:Ru,f.p=p/\RnX A G1 f.p f.x/\RP x.up.x y.up.x f.x/\H f.x.a=none/\∀c∈f.x.bs,H c=none:=#[#[p,#[dx,d,bs2,_,_,ov2,un2,tn2,_,_,out]],rfl,rn,#[rfl,rfl,rfl,rfl,st],sG.free nd2,fun c m=>sG.free (nc2 c m)];show#[_,rfl,k,_,dk,_,rfl,s1 _ _ kG.o,T.gQ,T.acn,tb_g%,kG.step (z':=kz k dk x f1 f2 f3 u2 w5 d6 b7) sG vk s1 np (fun J F o=>#[by rwa[aiW]at o,F.cm,F.wn,(let ⟨_,_,_,g⟩:=F.o;F3.but F.b g F.nk),F.dn,F.wi,F.di,F.ba,F.nd 3]) fun J3 K2 sG2 v3=>hR _ _ ?_];clear kG sG s1 np
  k_dat lq "c"
  have kG:=K2;have sG:=sG2;have X:=hX.same sG;have Y:=hY.same sG;clear K2 sG2;have L1:=mQ al.kx.dn.g al.kx.dn.t al.kx.few;have L2':=mQ al.ky.dn.g al.ky.dn.t al.ky.few;refine sq fun R hR=>?_;show#[_,rfl,rdG X.o (Px T) #[_,rfl,rdG Y.o (Px T) #[x.dn.p,x.dn.x.dx,x.dn.x.a,y.dn.p,y.dn.x.dx,y.dn.x.a,x.dn.x.bs,y.dn.x.bs,x.dn.x.r,x.dn.x.tt,x.dn.x.ov,x.dn.x.un,x.dn.x.tn,y.dn.x.tt,y.dn.x.ov,y.dn.x.un,y.dn.x.tn,x.dn.x.mi,x.dn.x.ma,y.dn.x.mi,y.dn.x.ma,x.dn.x.ls,y.dn.x.ls,rfl,X.dn,(by rw[<-er2];exact Y.dn),al.kx.dn.g.r2,al.kx.dn.g.r64,by have:=L1.1;lia,by have:=L2'.1;lia,(al.jb al.kx.dn al.ky.dn).1,(al.jb al.kx.dn al.ky.dn).2,L1.2,L2'.2,fun p dx d bs2 out tn2 ov2 un2 G1 st rn np nd2 nc2 s1=>?_]]];obtain⟨f4,rfl,F4,D4,g4⟩:∃f:Ru,f.p=p/\RnX A G1 f.p f.x/\RP x.dn.x y.dn.x f.x/\H f.x.a=none/\∀c∈f.x.bs,H c=none:=#[#[p,#[dx,d,bs2,_,_,ov2,un2,tn2,_,_,out]],rfl,rn,#[rfl,rfl,rfl,rfl,st],sG.free nd2,fun c m=>sG.free (nc2 c m)];show#[_,rfl,k,_,dk,_,rfl,s1 _ _ kG.o,T.gQ,T.aco,tb_g%,kG.step (z':=kz k dk x f1 f2 f3 f4 w5 d6 b7) sG vk s1 np (fun J F o=>#[by rwa[acG]at o,F.cm,F.wn,F.up,(let ⟨_,_,_,g⟩:=F.o;F4.but F.b g F.nk),F.wi,F.di,F.ba,F.nd 4]) fun J4 K2 sG2 v4=>hR _ _ ?_];clear kG sG s1 np;have kG:=K2;have sG:=sG2;have X:=hX.same sG;have Y:=hY.same sG;clear K2 sG2;refine sq fun R hR=>?_;show#[_,rfl,rdG X.o (oM T) #[_,rfl,rdG Y.o (oM T) #[x.wi.p,x.wi.dx,x.wi.l,y.wi.p,y.wi.dx,y.wi.l,x.room,x.reach,x.wi.c,y.wi.c,x.wi.ps,y.wi.ps,rfl,X.wi,(by rw[<-al.room,<-al.reach];exact Y.wi),by have:=al.kx.wl;have:=al.ky.wl;have:=al.few;lia,by lia,by lia,fun p5 dx5 d5 ps5 G1 np nd5 eb5 wn5 s1=>?_]]];have vd5:=sG.free nd5;show#[_,rfl,k,_,dk,_,rfl,s1 _ _ kG.o,T.gQ,T.acp,tb_g%,kG.step (z':=kz k dk x f1 f2 f3 f4 #[p5,dx5,d5,x.wi.c+y.wi.c,ps5] d6 b7) sG vk s1 np (fun J F o=>#[by rwa[V2]at o,F.cm,F.wn,F.up,F.dn,(let ⟨_,_,_,g⟩:=F.o;wn5.but F.b g F.nk),F.di,F.ba,F.nd 5]) fun J5 K2 sG2 v5=>hR _ _ ?_];clear kG sG s1 np;have kG:=K2;have sG:=sG2;have X:=hX.same sG;have Y:=hY.same sG;clear K2 sG2;refine sq fun R hR=>?_;show#[_,rfl,rdG X.o (Py T) #[_,rfl,rdG Y.o (Py T) #[x.di.p,x.di.dx,x.di.l,y.di.p,y.di.dx,y.di.l,x.room,x.di.n,x.di.v,y.di.n,y.di.v,x.di.C,y.di.C,rfl,X.di,(by rw[<-al.room];exact Y.di),al.kx.dl,(by rw[<-al.room];exact al.ky.dl),al.nx,al.ny,by lia,by lia,by have:=al.kx.dc;have:=al.ky.dc;have:=al.few;lia,fun p6 dx6 l6 v6' G1 np nd6 ls6 dn6 s1=>?_]]];have vl6:=sG.free nd6;show#[_,rfl,k,_,dk,_,rfl,s1 _ _ kG.o,T.gQ,T.acq,tb_g%,kG.step (z':=kz k dk x f1 f2 f3 f4 #[p5,dx5,d5,x.wi.c+y.wi.c,ps5] #[p6,dx6,l6,x.di.n+y.di.n,v6',un x.di.C y.di.C] b7) sG vk s1 np (fun J F o=>#[by rwa[acH]at o,F.cm,F.wn,F.up,F.dn,F.wi,(let ⟨_,_,_,g⟩:=F.o;dn6.but F.b g F.nk),F.ba,F.nd 6]) fun J6 K2 sG2 v6=>hR _ _ ?_];clear kG sG s1 np;have kG:=K2;have sG:=sG2;have X:=hX.same sG;have Y:=hY.same sG;clear K2 sG2;refine sq fun R hR=>?_;show#[_,rfl,rdG X.o (qT T) #[_,rfl,rdG Y.o (qT T) #[x.ba.p,x.ba.dx,x.ba.l,y.ba.p,y.ba.dx,y.ba.l,x.span,x.ba.q,y.ba.q,rfl,X.ba,(by rw[<-al.span];exact Y.ba),fun p7 dx7 l7 G1 np bn7 s1=>?_]]];show#[_,rfl,k,_,dk,_,rfl,s1 _ _ kG.o,T.gQ,T.acr,tb_g%,kG.step (z':=kz k dk x f1 f2 f3 f4 #[p5,dx5,d5,x.wi.c+y.wi.c,ps5] #[p6,dx6,l6,x.di.n+y.di.n,v6',un x.di.C y.di.C] #[p7,dx7,l7,addQ x.ba.q y.ba.q]) sG vk s1 np (fun J F o=>#[by rwa[Ut]at o,F.cm,F.wn,F.up,F.dn,F.wi,F.di,(let ⟨_,_,_,g⟩:=F.o;bn7.but F.b g F.nk),F.nd 7]) fun J7 K2 sG2 v7=>hR _ _ ?_];clear kG sG s1 np;have kG:=K2;have sG:=sG2;have X:=hX.same sG;have Y:=hY.same sG;clear K2 sG2;show#[_,rfl,q (kz k dk x f1 f2 f3 f4 #[p5,dx5,d5,x.wi.c+y.wi.c,ps5] #[p6,dx6,l6,x.di.n+y.di.n,v6',un x.di.C y.di.C] #[p7,dx7,l7,addQ x.ba.q y.ba.q]) J7 kG #[rfl,rfl,rfl,D1,D2,D3,D4,#[rfl,eb5],#[rfl,rfl,ls6],rfl] (fun b m=>?_) (fun b m=>?_) sG]
  ·unfold KS.all at m;simp only[aX,fH,or_false]at m;rcases m with rfl|rfl|rfl|rfl|rfl|rfl|rfl|rfl;all_goals assumption
  ·unfold KS.ems at m;simp only[aX,bO]at m;rcases m with rfl|rfl|rfl|rfl|m|m
   ·exact g3.1
   ·exact g4.1
   ·exact vd5
   ·exact vl6
   ·exact g3.2 b m
   ·exact g4.2 b m
noncomputable def auY(A:Ad):Sp:=fun vs H Q _=>Ex8 fun p dx a bs r tt ov un=>Ex5 fun tn x mi ma ls=>uF (vs=[.ref p,.int x]) (Rn A H p dx a bs r tt ov un tn mi ma ls) (ls.length<=400) ((∀l∈ls,l.length<=900)) (∀H',Same H H'->Q (.int (RG.nr x ls:Nat)) H')
theorem aaS(l:List Int)(x:Int)(i:Nat){z:Int}(h:l[i]? = some z):((l.take (i+1)).filter fun z=>decide (z<=x))=((l.take i).filter fun z=>decide (z<=x))++if z<=x then[z]else[]:=by
 rw[RG.jm h,iM];congr 1;by_cases e:z<=x
 ·rw[mB e];simp[e]
 ·rw[mw e];simp[e]
theorem V6(T:Tx K mg A):FnM P w mg base T.wA CX0 1 (auY A):=by
 k_dat (T.wA,T.wA.ok,Ck) "f"
 ·obtain⟨p,dx,a,bs,r,tt,ov,un,tn,x,mi,ma,ls,rfl,hR,h4,h9,q⟩:=h;show#[_,by k_dat ([fK],[Ck.nd],[uh [("thing",~~~s+1)] ["kept","thing"] [1] ?_ (fun _ _ _ _=>(lU (gw agB (pv 0) (pv 1) (jU _)))) (fun _ _ _ _=>(pv 0))]) "p",?_];show#[_,rfl,rdG hR.o (qO T) #[a,rfl,#[_,.inl (.inl hR.l.o)],?_]];refine dR (K:=K) (a:=a) (xs:=bs.map V.ref) (fun i σ G=>∃y:Option V,σ=[some (.ref p),some (.int x),some (.int (RG.nr x (ls.take i):Nat)),some (.int (2 ^ i)),y]/\Same H G) #[none,rfl,Same.refl _] (fun i σ G _ ⟨_,_,s⟩=>.inl (.inl (s _ _ hR.l.o))) ?_ ?_
  ·rintro i v σ G hi ⟨y,rfl,sG⟩;have hi':i<ls.length:=by
    have:=(dh.mp hi).1;rwa[aC,hR.l.n]at this
   obtain⟨b,l,eb,el,hb⟩:=hR.l.at hi';obtain rfl:V.ref b=v:=by rw[dG,eb]at hi;exact cA hi
   have hl:=h9 l (mv el);have hb2:=sG _ _ hb;show#[_,rfl,_,rfl,_,rfl,b,rfl,#[_,.inl (.inl hb2)],fun D hD=>?_];refine iw (K:=K) (a:=b) (xs:=l.map V.int) (fun i ys H2=>ys=((l.take i).filter fun z=>decide (z<=x)).map V.int/\H2=upd G D (.lst ys)) #[rfl,rfl] ?_ ?_ ?_ ?_ ?_
   ·rintro i ys H2 hi ⟨rfl,rfl⟩;show#[.inl (.inl ((Same.new hD) _ _ hb2)),aj,aM ?_];have:((l.take i).filter fun z=>decide (z<=x)).length<=(l.take i).length:=iV _ _;rw[dN]at this;rw[aC];lia
   ·rintro i ys H2 v hx ⟨rfl,rfl⟩;obtain⟨z,hz,rfl⟩:=int_at hx;show#[_,rfl,_,rfl,_,_,rfl,rfl,_,rfl,cW (fun hc=>?_) (fun hc=>?_)]
    ·have hc:z<=x:=mP hc;show#[_,rfl,aj,?_,by rw[cB]];rw[aaS l x i hz,mB hc,bM];rfl
    ·have hc:¬ z<=x:=fun y=>hc (mN y);show#[aj,?_,rfl];rw[aaS l x i hz,mw hc,gk]
   ·rintro ys H2 ⟨rfl,rfl⟩;refine eX (.inl (.inl aj)) ?_;rw[aC,aC,gZ]
    k_dat (nwA hD,G2,zG2,fG2) "n"
    have s2:Same H G2:=sG.trans zG2;have ec:(l.filter fun z=>decide (z<=x)).length=RG.cnt x l:=rfl;have lc:=RG.auk x l;rw[ec];show#[_,_,rfl,rfl,dB tb_g% tb_g%,_,_,rfl,rfl,_,rfl,_,_,rfl,rfl,dB tb_g% tb_g%,some (.ref b),?_,s2];have e1:((RG.nr x (ls.take i):Nat):Int)+2 ^ i*((RG.cnt x l:Nat):Int)=((RG.nr x (ls.take (i+1)):Nat):Int):=by
     rw[RG.agX el,tO,DR,u9];rfl
    rw[<-e1,mj];rfl
   ·exact fun σ H R R' hr h=>dJ (gY (aP 0) (aP 1)) σ H R R' hr h
   ·exact aP 0
  ·rintro σ G ⟨y,rfl,sG⟩;rw[aC,hR.l.n,gZ];show#[_,rfl,q G sG]
noncomputable def auZ(A:Ad):Sp:=fun vs H Q _=>Ex8 fun p dx a bs r tt ov un=>Ex5 fun tn x mi ma ls=>uF (vs=[.ref p,.int x]) (Rn A H p dx a bs r tt ov un tn mi ma ls) (ls.length<=400) ((∀l∈ls,l.length<=900)) (∀t H',H t=none->H' t=some (.tup [.int (max ((RG.nr x ls:Nat)-ov) 0),.int (min ((RG.nr x ls:Nat)+un) tt)])->Same H H'->Q (.ref t) H')
theorem V7(T:Tx K mg A):FnM P w mg base T.wB CX0 2 (auZ A):=by
 k_dat (T.wB,T.wB.ok,Cm) "f"
 ·obtain⟨p,dx,a,bs,r,tt,ov,un,tn,x,mi,ma,ls,rfl,hR,h4,h9,q⟩:=h;show#[_,by k_dat ([],[Cm.nd,aU ?_ T.gH (V6 T) ?_,bZ (lG rfl) (by rfl) T.Mz DK ?_,bZ (Ao rfl) (by rfl) T.acs YD ?_],[]) "p",?_]
  k_dat lq "c"
  show#[_,rfl,p,dx,_,rfl,hR.o,rgN tb_g%,_,rfl,p,dx,a,bs,r,tt,ov,un,tn,x,mi,ma,ls,rfl,hR,h4,h9,fun G sG=>?_];have R2:=hR.same sG;show#[_,rfl,_,rfl,rdG R2.o (Ia T) #[_,_,rfl,rfl,_,_,rfl,?_]];show#[_,rfl,_,rfl,rdG R2.o (z8 T) #[_,_,rfl,rfl,_,rfl,rdG R2.o (uG T) #[_,_,rfl,?_]]];show#[tb_g%,fun t ht=>q t _ (sG.free ht) ?_ (sG.trans (Same.new ht))];rw[aj];congr 3
  ·congr 1;split <;> lia
  ·congr 2;split <;> lia
noncomputable abbrev Pb:=Addr × (Int × Int)
structure Prs(H:Hp)(l:Addr)(ps:List Pb):Prop where
 l:H l=some (.lst (ps.map fun p=>V.ref p.1))
 t:∀p∈ps,H p.1=some (.tup [.int p.2.1,.int p.2.2])
noncomputable def pr(ps:List Pb):List (Int × Int):=ps.map (·.2)
theorem Lj(ps:List Pb):(pr ps).length=ps.length:=aC _
theorem Prs.same{H H':Hp}{l:Addr}{ps:List Pb}(h:Prs H l ps)(s:Same H H'):Prs H' l ps:=#[s _ _ h.l,fun p m=>s _ _ (h.t p m)]
theorem Prs.snoc{H:Hp}{l t:Addr}{ps:List Pb}{q:Int × Int}(h:Prs H l ps)(ht:H t=some (.tup [.int q.1,.int q.2])):Prs (upd H l (.lst (ps.map (fun p=>V.ref p.1)++[.ref t]))) l (ps++[(t,q)]):=by
 show#[by rw[aj,bM];rfl,fun p m=>?_];have key:H p.1=some (.tup [.int p.2.1,.int p.2.2]):=by
  rcases bO.mp m with m|m
  ·exact h.t p m
  ·rwa[cC.mp m]
 rwa[ao (fU key h.l (by intro z;cases z))]
theorem Prs.ext{H:Hp}{l b:Addr}{ps qs:List Pb}(h:Prs H l ps)(h2:Prs H b qs):Prs (upd H l (.lst (ps.map (fun p=>V.ref p.1)++qs.map (fun p=>V.ref p.1)))) l (ps++qs):=by
 show#[by rw[aj,bM],fun p m=>?_];have key:H p.1=some (.tup [.int p.2.1,.int p.2.2]):=by
  rcases bO.mp m with m|m
  ·exact h.t p m
  ·exact h2.t p m
 rwa[ao (fU key h.l (by intro z;cases z))]
theorem pp_at{ps:List Pb}{i:Nat}{y:V}(h:(ps.map fun p=>V.ref p.1)[i]? = some y):∃p,ps[i]? = some p/\y=V.ref p.1:=by
 rw[dG]at h;cases e:ps[i]? with
 |none=>rw[e]at h;cases h
 |some z=>rw[e]at h;show#[z,rfl,(cA h).symm]
theorem aoT(h:n<=5000):n<sizeLine:=BK h tb_g%
noncomputable abbrev MM:Int:=2305843009213693952
structure Sx(ls:RG.Ls)(S:List (Int × Int)):Prop where
 p:S.Perm (RG.prs 0 ls)
 s:S.Pairwise fun p q=>RG.rkP MM p<=RG.rkP MM q
theorem aoU{ls:RG.Ls}(h:ls.length<=60):∀p∈RG.prs 0 ls,0<=p.2/\p.2<MM:=fun p m=>by
 obtain⟨_,i,hi,e⟩:=RG.aad m;have:=RG.aip (i:=0+i) tb_g%;rw[e];show#[jt this.1,this.2]
noncomputable def ai3:Sp:=fun vs H Q _=>Ex4 fun a bs ls k=>Oh (vs=[.ref a,.int k]) (LL H a bs ls) (ls.length<=60) ((∀l∈ls,l.length<=64)) (1<=k) (k<=(RG.val ls:Int)) (∀x S H',Sx ls S->RG.pk k 0 S=some x->Same H H'->Q (.int x) H')
theorem acM(T:Tx K mg A):FnK P w base T.Ft CX0 1 ai3:=by
 k_dat (T.Ft,T.Ft.ok,MN) "f"
 ·obtain⟨a,bs,ls,k,rfl,hL,h60,h64,k1,kv,q⟩:=h;show#[_,by k_dat ([fK],[MN.nd,bZ (Ew kgP) (by rfl) T.fM Gh ?_],[]) "p",?_]
  k_dat lq "c"
  show#[tb_g%,fun D hD=>?_]
  k_dat (nwA hD,H1,s1,f1) "n"
  k_dat lqg "c"
  refine⟨_,rfl,a,rfl,⟨_,.inl (.inl (s1 _ _ hL.o))⟩,dR (K:=K) (a:=a) (xs:=bs.map V.ref) (fun i σ G=>Ex3 fun(ps:List Pb) (y z:Option V)=>oJ (σ=[some (.ref a),some (.int k),some (.ref D),some (.int (2 ^ i)),y,z,none,none]) (Prs G D ps) (pr ps=RG.prs 0 (ls.take i)) (Same H G)) ⟨[],none,none,rfl,⟨f1,fun _ h=>nomatch h⟩,rfl,s1⟩ (fun i σ G _ ⟨_,_,_,_,_,_,s⟩=>.inl (.inl (s _ _ hL.o))) ?_ ?_⟩
  ·rintro i v σ G hi ⟨ps,y,z,rfl,hP,eP,sG⟩;have hi':i<ls.length:=by
    have:=(dh.mp hi).1;rwa[aC,hL.n]at this
   obtain⟨b,l,eb,el,hb⟩:=hL.at hi';obtain rfl:V.ref b=v:=by rw[dG,eb]at hi;exact cA hi
   have hl:=h64 l (mv el);have b1:=RG.ag0 (h:=0) (ls:=ls.take i) (b:=64) fun l m=>h64 l (ac6 m);rw[dN]at b1;show#[_,rfl,b,rfl,#[_,.inl (.inl (sG _ _ hb))],dR (K:=K) (a:=b) (xs:=l.map V.int) (fun j σ G=>Ex2 fun(ps:List Pb) (z:Option V)=>oJ (σ=[some (.ref a),some (.int k),some (.ref D),some (.int (2 ^ i)),some (.ref b),z,none,none]) (Prs G D ps) (pr ps=RG.prs 0 (ls.take i)++(l.take j).map (fun t=>(t,(2:Int) ^ i))) (Same H G)) #[ps,z,rfl,hP,by rw[eP];simp,sG] (fun i σ G _ ⟨_,_,_,_,_,s⟩=>.inl (.inl (s _ _ hb))) ?_ ?_]
   ·rintro j v σ G hj ⟨ps,z,rfl,hP,eP,sG⟩;obtain⟨t,ht,rfl⟩:=int_at hj;have lj:j<l.length:=(dh.mp ht).1;have pl:ps.length<=4900:=by
     rw[<-Lj,eP,dw,aC,dN];have:min i ls.length*64<=60*64:=Qw _ tb_g%;lia
    show#[_,rfl,.inl #[rfl,_,.inl (.inl hP.l)],_,rfl,_,rfl,tb_g%,fun c hc=>?_]
    k_dat (nwA hc,G1,s2,f2) "n"
    have hP1:=hP.same s2;show#[D,_,_,rfl,rfl,hP1.l,aoT (by rw[aC];lia),?_];show#[ps++[(c,(t,2 ^ i))],_,rfl,hP1.snoc (q:=(t,2 ^ i)) f2,?_,fun b o e=>?_]
    ·show(ps++[(c,(t,(2:Int) ^ i))]).map (·.2)=_;rw[bM,show ps.map (·.2)=pr ps from rfl,eP,gD,RG.jm ht,bM];rfl
    ·rw[ao (ak e hD)];exact s2 _ _ (sG b o e)
   ·rintro σ G ⟨ps,z,rfl,hP,eP,sG⟩;rw[aC,gZ,<-RG.anF el]at eP;show#[_,rfl,_,_,rfl,rfl,dB tb_g% tb_g%,ps,_,_,by rw[mj];rfl,hP,eP,sG]
  ·rintro σ G ⟨ps,y0,z0,rfl,hP,eP,sG⟩;rw[aC,hL.n,gZ]at eP
   k_dat lqn "c"
   have hPM:∀p∈ps,G p.1=some (.tup [.int p.2.1,.int p.2.2])/\0<=p.2.2/\p.2.2<MM:=fun p m=>#[hP.t p m,aoU h60 p.2 (by rw[<-eP];exact yh m)];show#[_,rfl,D,ps,1,RG.rkP MM,rfl,hP.l,fun p m=>#[hP.t p m,rfl],fun p m p' m'=>Tm.ang (hPM p m).2.1 (hPM p m).2.2 (hPM p' m').2.1 (hPM p' m').2.2,fun y ps' hy hperm RT=>?_];have sx:Sx ls (pr ps'):=#[by rw[<-eP];exact hperm.map _,uQ.mpr RT]
   k_dat (nwA hy,G1,s1,fG1) "n"
   have hQ:Prs G1 y ps':=#[fG1,fun p m=>s1 _ _ (hP.t p (hperm.mem_iff.mp m))];have sH1:=sG.trans s1;have swv:RG.sw (pr ps')=(RG.val ls:Int):=by rw[RG.aqb sx.p,RG.anJ,YZ,rY]
   show#[y,rfl,#[_,.inl (.inl hQ.l)],dR (K:=K) (a:=y) (xs:=ps'.map fun p=>V.ref p.1) (fun i σ G=>Ex2 fun(z u:Option V)=>ou (σ=[some (.ref a),some (.int k),some (.ref D),some (.int (2 ^ (bs.map V.ref).length)),y0,z,some (.int (RG.sw ((pr ps').take i))),u]) (G=G1) (RG.pk k 0 (pr ps')=RG.pk k (RG.sw ((pr ps').take i)) ((pr ps').drop i))) #[_,none,rfl,rfl,rfl] (fun i σ G _ ⟨_,_,_,h,_⟩=>by rw[h];exact .inl (.inl hQ.l)) ?_ ?_]
   ·rintro i v σ G hi ⟨z,u,rfl,rfl,inv⟩;obtain⟨p,hp,rfl⟩:=pp_at hi;have hpr:(pr ps')[i]? = some p.2:=by unfold pr;rw[dG,hp];rfl
    have tk:RG.sw ((pr ps').take (i+1))=RG.sw ((pr ps').take i)+p.2.2:=by rw[jE,hpr,RG.Kr];show _+(_+0)=_;lia
    have dr:(pr ps').drop i=p.2::(pr ps').drop (i+1):=by
     obtain⟨hl,e⟩:=dh.mp hpr;rw[Ji hl,e]
    show#[p.1,_,rfl,.inl (.inl (hQ.t p (mv hp))),rfl,_,_,rfl,_,_,rfl,rfl,?_]
    k_dat lq "c"
    show#[_,rfl,_,rfl,_,_,rfl,rfl,?_];show#[_,rfl,_,rfl,_,_,rfl,rfl,_,rfl,cW (fun h=>?_) (fun h=>?_)]
    ·have h:k<=RG.sw ((pr ps').take i)+p.2.2:=mP h;show#[_,rfl,q p.2.1 (pr ps') _ sx ?_ sH1];rw[inv,dr,RG.pk,mB h]
    ·have h:¬ k<=RG.sw ((pr ps').take i)+p.2.2:=fun z=>h (mN z);show#[_,_,by rw[tk];rfl,rfl,?_];rw[inv,dr,RG.pk,mw h,tk]
   ·rintro σ G ⟨z,u,rfl,rfl,inv⟩;rw[aC,<-Lj,XC,RG.pk]at inv;have:=RG.ag2 tb_g% inv;lia
noncomputable def arQ(A:Ad):Sp:=fun vs H Q _=>Ex8 fun p dx a bs r tt ov un=>Ex5 fun tn k mi ma ls=>z7 (vs=[.ref p,.int k]) (Rn A H p dx a bs r tt ov un tn mi ma ls) (ls.length<=60) ((∀l∈ls,l.length<=64)) ((RG.val ls:Int)=tt) (1<=k) (k<=tt) (∀t x S H',Sx ls S->RG.pk k 0 S=some x->H' t=some (.tup [.int x,.int (max (k-ov) 1),.int (min (k+un) tt)])->Same H H'->Q (.ref t) H')
theorem Lk(T:Tx K mg A):FnM P w mg base T.nW CX0 2 (arQ A):=by
 k_dat (T.nW,T.nW.ok,Ld) "f"
 ·obtain⟨p,dx,a,bs,r,tt,ov,un,tn,k,mi,ma,ls,rfl,hR,h60,h64,hv,k1,kt,q⟩:=h;show#[_,by k_dat ([],[aD (acM T) ?_,bZ (lG rfl) (by rfl) T.Mz DK ?_,bZ (Ao rfl) (by rfl) T.acs YD ?_],[]) "p",?_];show#[_,rfl,_,_,rfl,rfl,_,rfl,?_];rw[mS tb_g%];refine fW #[_,rfl,_,rfl,rdG hR.o (uG T) #[_,_,rfl,rfl,_,rfl,?_]];rw[mS tb_g%];refine fW #[_,rfl,rdG hR.o (qO T) #[_,rfl,a,bs,ls,k,rfl,hR.l,h60,h64,k1,by lia,fun x S G sx hx sG=>?_]];have R2:=hR.same sG;show#[_,rfl,_,rfl,rdG R2.o (Ia T) #[_,_,rfl,rfl,_,_,rfl,?_]];show#[_,rfl,_,rfl,rdG R2.o (z8 T) #[_,_,rfl,rfl,_,rfl,rdG R2.o (uG T) #[_,_,rfl,?_]]];show#[tb_g%,fun t ht=>q t x S _ sx hx ?_ (sG.trans (Same.new ht))];rw[aj];congr 3
  ·congr 1
   ·congr 1;split <;> lia
   ·congr 2;split <;> lia
noncomputable def Uv(e:Int)(ps:List Bp):List Int:=(ps.filter fun p=>decide (e<p.2.f)).map fun p=>p.2.s
noncomputable def Uw(e:Int)(ps:List Bp):List Int:=(ps.filter fun p=>decide (p.2.f<=e/\e<p.2.l)).map fun p=>p.2.s
theorem aoV(e:Int)(ps:List Bp):(Uv e ps).sum=WN.low e (bx ps):=by
 unfold Uv WN.low WN.sum bx;rw[adn,g8];rfl
theorem aoW(e:Int)(ps:List Bp):(Uw e ps).sum=WN.cut e (bx ps):=by
 unfold Uw WN.cut WN.sum bx;rw[adn,g8];rfl
theorem aoX(e:Int)(ps:List Bp):(Uv e ps).length<=ps.length:=by unfold Uv;rw[aC];exact iV _ _
theorem aoY(e:Int)(ps:List Bp):(Uw e ps).length<=ps.length:=by unfold Uw;rw[aC];exact iV _ _
theorem Xp{e:Int}{ps:List Bp}{i:Nat}{p:Bp}(h:ps[i]? = some p):Uv e (ps.take (i+1))=Uv e (ps.take i)++if e<p.2.f then[p.2.s]else[]:=by
 unfold Uv;rw[jE,h,iM,bM];congr 1;show(([p]:List Bp).filter _).map _=_;by_cases c:e<p.2.f
 ·rw[mB c,wJ (by simpa using c)];rfl
 ·rw[mw c,qX (by simpa using c)];rfl
theorem Ln{e:Int}{ps:List Bp}{i:Nat}{p:Bp}(h:ps[i]? = some p):Uw e (ps.take (i+1))=Uw e (ps.take i)++if p.2.f<=e/\e<p.2.l then[p.2.s]else[]:=by
 unfold Uw;rw[jE,h,iM,bM];congr 1;show(([p]:List Bp).filter _).map _=_;by_cases c:p.2.f<=e/\e<p.2.l
 ·rw[mB c,wJ (by simpa using c)];rfl
 ·rw[mw c,qX (by simpa using c)];rfl
noncomputable def aoZ(A:Ad):Sp:=fun vs H Q _=>Ex8 fun p dx l r k c m ps=>acy (vs=[.ref p,.int m]) (Wn A H p dx l r k c ps) (ps.length<=500) (1<=m) (m<=k) (∀t H',H t=none->H' t=some (.tup [.int (WN.low (c-m) (bx ps)),.int (WN.low (c-m) (bx ps)+WN.cut (c-m) (bx ps))])->Same H H'->Q (.ref t) H')
theorem Ux(T:Tx K mg A):FnM P w mg base T.tL CX0 1 (aoZ A):=by
 k_dat (T.tL,T.tL.ok,qJ) "f"
 ·obtain⟨p,dx,l,r,k,c,m,ps,rfl,hw,h500,m1,mk,q⟩:=h;show#[_,by k_dat ([fK],[qJ.nd,Zw (i:=2) qJ.nd rfl (Or.inr rfl) ?_,bZ (Kw rfl) (by rfl) T.acu aea ?_],[uh [("edge",~~~s+1)] ["box","edge"] [2] (tt:=(Ml (tOp _ (tOp (zA K) _ _) _))) (te:=(tOp (zA K) _ _)) ?_ (fun _ _ _ _=>(lU (gw agC (gW (ixG tb_g%) (pv 0) cI (fun _ _=>rfl)) (pv 1) (jU _)))) (fun _ _ _ _=>(gW (ixG tb_g%) (pv 0) cI (fun _ _=>rfl))),uh [("edge",~~~s+1)] ["box","edge"] [2] (tt:=(tAnd (Ml (tOp _ (tOp (zA K) _ _) _)) (Ml (tOp _ (tOp (zA K) _ _) _)))) (te:=(tOp (zA K) _ _)) ?_ (fun _ _ _ _=>(lU (PW.pt (pw_and (gw agB (gW (ixG tb_g%) (pv 0) cI (fun _ _=>rfl)) (pv 1) (jU _)) (pw_and1 (gw agC (gW (ixG tb_g%) (pv 0) cI (fun _ _=>rfl)) (pv 1) (jU _))))))) (fun _ _ _ _=>(gW (ixG tb_g%) (pv 0) cI (fun _ _=>rfl)))]) "p",?_];show#[_,rfl,_,_,rfl,rfl,_,rfl,?_];rw[mS tb_g%];refine fW #[_,rfl,_,rfl,rdG hw.o (z9 T) #[_,_,rfl,rfl,_,rfl,?_]];rw[mS tb_g%];refine fW #[_,rfl,rdG hw.o (ji T) #[_,rfl,_,_,rfl,rfl,?_]];show#[_,rfl,rdG hw.o (uH T) #[l,rfl,#[_,.inl (.inl hw.b.l)],fun D hD=>?_]];refine iw (K:=K) (a:=l) (xs:=ps.map fun p=>V.ref p.1) (fun i ys H2=>ys=(Uv (c-m) (ps.take i)).map V.int/\H2=upd H D (.lst ys)) #[by simp[Uv],rfl] ?_ ?_ ?_ ?_ ?_
  ·rintro i ys H2 hi ⟨rfl,rfl⟩;show#[.inl (.inl ((Same.new hD) _ _ hw.b.l)),aj,aM ?_];rw[aC];have:=aoX (c-m) (ps.take i);rw[dN]at this;lia
  ·rintro i ys H2 x hx ⟨rfl,rfl⟩;obtain⟨z,hz,rfl⟩:=Ik hx;have ht:=(Same.new (o:=.lst ((Uv (c-m) (ps.take i)).map V.int)) hD) _ _ (hw.b.t z (mv hz));show#[_,rfl,bY (.inl (.inl ht)) (v:=.int z.2.f) rfl #[_,rfl,_,_,rfl,rfl,_,rfl,cW (fun hc=>?_) (fun hc=>?_)]]
   ·have hc:c-m<z.2.f:=mP hc;show#[_,rfl,bY (.inl (.inl ht)) (v:=.int z.2.s) rfl #[aj,?_,by rw[cB]]];rw[Xp hz,mB hc,bM];rfl
   ·have hc:¬ c-m<z.2.f:=fun y=>hc (mN y);show#[aj,?_,rfl];rw[Xp hz,mw hc,gk]
  ·rintro ys H2 ⟨rfl,rfl⟩;rw[aC,gZ];show#[D,Uv (c-m) ps,rfl,.inl (.inl aj),?_]
   k_dat (nwA hD,H3,sD,fH3) "n"
   rw[aoV]
   k_dat lqg "c"
   have hw3:=hw.same sD;show#[_,rfl,rdG hw3.o (uH T) #[l,rfl,#[_,.inl (.inl hw3.b.l)],fun D2 hD2=>?_]];refine iw (K:=K) (a:=l) (xs:=ps.map fun p=>V.ref p.1) (fun i ys H2=>ys=(Uw (c-m) (ps.take i)).map V.int/\H2=upd H3 D2 (.lst ys)) #[by simp[Uw],rfl] ?_ ?_ ?_ ?_ ?_
   ·rintro i ys H2 hi ⟨rfl,rfl⟩;show#[.inl (.inl ((Same.new hD2) _ _ hw3.b.l)),aj,aM ?_];rw[aC];have:=aoY (c-m) (ps.take i);rw[dN]at this;lia
   ·rintro i ys H2 x hx ⟨rfl,rfl⟩;obtain⟨z,hz,rfl⟩:=Ik hx;have ht:=(Same.new (o:=.lst ((Uw (c-m) (ps.take i)).map V.int)) hD2) _ _ (hw3.b.t z (mv hz));show#[_,rfl,bY (.inl (.inl ht)) (v:=.int z.2.f) rfl #[_,rfl,_,_,rfl,rfl,_,rfl,cW (fun hc=>?_) (fun hc=>?_)]]
    ·have hc:z.2.f<=c-m:=mP hc;show#[_,rfl,bY (.inl (.inl ht)) (v:=.int z.2.l) rfl #[_,rfl,_,_,rfl,rfl,_,rfl,cW (fun hd=>?_) (fun hd=>?_)]]
     ·have hd:c-m<z.2.l:=mP hd;show#[_,rfl,bY (.inl (.inl ht)) (v:=.int z.2.s) rfl #[aj,?_,by rw[cB]]];rw[Ln hz,mB #[hc,hd],bM];rfl
     ·have hd:¬ c-m<z.2.l:=fun y=>hd (mN y);show#[aj,?_,rfl];rw[Ln hz,mw (fun y=>hd y.2),gk]
    ·have hc:¬ z.2.f<=c-m:=fun y=>hc (mN y);refine fW #[aj,?_,rfl];rw[Ln hz,mw (fun y=>hc y.1),gk]
   ·rintro ys H2 ⟨rfl,rfl⟩;rw[aC,gZ];show#[D2,Uw (c-m) ps,rfl,.inl (.inl aj),?_]
    k_dat (nwA hD2,H4,sD2,fH4) "n"
    rw[aoW];show#[_,rfl,_,rfl,_,rfl,_,_,rfl,rfl,tb_g%,fun t ht=>?_];exact q t _ ((sD.trans sD2).free ht) aj ((sD.trans sD2).trans (Same.new ht))
   ·exact aiv (dJ (gY (jo (aP 0) (lM _)) (aP 1))) (dJ (gY (jo (aP 0) (lM _)) (aP 1)))
   ·exact jo (aP 0) (lM _)
  ·exact fun σ H R R' hr h=>dJ (gY (jo (aP 0) (lM _)) (aP 1)) σ H R R' hr h
  ·exact jo (aP 0) (lM _)
noncomputable def aqZ(A:Ad):Sp:=fun vs H Q _=>Ex7 fun p dx l r n v ks=>ou (vs=[.ref p]) (Dn A H p dx l r n v ks) (Q (.bl (decide (v=0))) H)
theorem ao0{v w:Int}:decide (V.int v=V.int w)=decide (v=w):=by
 by_cases h:v=w
 ·rw[mN h,h,mN rfl]
 ·rw[mS h,mS (fun z=>h (V.int.inj z))]
theorem IK(T:Tx K mg A):FnM P w mg base T.gh CX0 1 (aqZ A):=by
 k_dat (T.gh,T.gh.ok,HN) "f"
 ·obtain⟨p,dx,l,r,n,v,ks,rfl,hd,q⟩:=h;show#[_,by k_dat ([],[],[]) "p",?_];show#[_,rfl,rdG hd.o (jC T) #[rfl,?_]];rwa[ao0]
noncomputable def ao1(r v:Int)(ks:List Int):Int:=if v=0 then ks.length else r+1
noncomputable def acN(n v:Int)(ks:List Int):Int:=if v=0 then ks.length else if(ks.length:Int)+(1152921504606846976-1152921504606846976 / 2 ^ v.toNat)<n then(ks.length:Int)+(1152921504606846976-1152921504606846976 / 2 ^ v.toNat)else n
noncomputable def acO(A:Ad):Sp:=fun vs H Q _=>Ex7 fun p dx l r n v ks=>oJ (vs=[.ref p]) (Dn A H p dx l r n v ks) (0<=v) (∀t H',H' t=some (.tup [.int (ao1 r v ks),.int (acN n v ks)])->Same H H'->Q (.ref t) H')
theorem FT(T:Tx K mg A):FnM P w mg base T.fL CX0 2 (acO A):=by
 k_dat (T.fL,T.fL.ok,qK) "f"
 ·obtain⟨p,dx,l,r,n,v,ks,rfl,hd,v0,q⟩:=h;obtain⟨_,af3,af4⟩:=T.aot;show#[_,by k_dat ([atL],[qK.nd,zu ?_ T.xY T.gh.m (IK T).2 tb_g% T.gh.b .nil Gu,bZ (Ao rfl) (by rfl) T.acs YD ?_],[O6 (v:=.int 1152921504606846976) rfl af3 af4]) "p",?_];show#[_,rfl,rdG hd.o (Im T) (eX (.inl (.inl hd.l)) ?_)];rw[aC];show#[_,rfl,p,dx,_,rfl,hd.o,ahm _ _ _ _ tb_g% tb_g% tb_g% tb_g%,p,dx,l,r,n,v,ks,rfl,hd,_,rfl,cW (fun hv=>?_) (fun hv=>?_)]
  ·have hv:v=0:=mP hv;show#[_,rfl,_,rfl,tb_g%,fun t ht=>q t _ ?_ (Same.new ht)];rw[aj];unfold ao1 acN;rw[mB hv,mB hv]
  ·have hv:¬ v=0:=fun z=>hv (mN z);show#[_,rfl,rdG hd.o (jC T) #[_,_,rfl,rfl,v0,_,_,rfl,rfl,?_]];show#[_,rfl,rdG hd.o (Il T) #[_,_,rfl,rfl,_,rfl,rdG hd.o (rJ T) #[_,rfl,_,rfl,_,_,rfl,rfl,_,_,rfl,tb_g%,fun t ht=>q t _ ?_ (Same.new ht)]]];rw[aj];unfold ao1 acN;rw[mw hv,mw hv]
noncomputable def spLow(A:Ad):Sp:=fun vs H Q _=>Ex8 fun p dx d r t l k c=>oJ (vs=[.ref p,.int k]) (H p=some (.ins A.C'3 dx (fl r t l d))) (H d=some (.dK (emb c))) (Q (.int (low c k)) H)
theorem oA(T:Tx K mg A):FnM P w mg base T.qz CX0 1 (spLow A):=by
 k_dat (T.qz,T.qz.ok,Oe) "f"
 ·obtain⟨p,dx,d,r,t,l,k,c,rfl,hp,hd,q⟩:=h;show#[_,by k_dat ([],[p8 tb_g% ?_ ?_ ?_ ⟨rfl,rfl,rfl,rfl⟩],[]) "p",?_];show#[_,rfl,rdG hp (uJ T) #[d,rfl,.inl #[emb c,.inl hd],_,rfl,_,zH (.inl hd),?_]];rwa[vN]
noncomputable def au0(A:Ad):Sp:=fun vs H Q _=>Ex8 fun p dx d r t l k c=>oJ (vs=[.ref p,.int k]) (H p=some (.ins A.C'3 dx (fl r t l d))) (H d=some (.dK (emb c))) (Q (.int (low c k+l)) H)
theorem uN(T:Tx K mg A):FnM P w mg base T.nY CX0 2 (au0 A):=by
 k_dat (T.nY,T.nY.ok,Le) "f"
 ·obtain⟨p,dx,d,r,t,l,k,c,rfl,hp,hd,q⟩:=h;show#[_,by k_dat ([],[aU ?_ T.qj (oA T) ?_],[]) "p",?_];show#[_,rfl,p,dx,_,rfl,hp,xM _ _ _ _ tb_g% tb_g% tb_g% tb_g%,_,rfl,p,dx,d,r,t,l,k,c,rfl,hp,hd,?_];show#[_,rfl,rdG hp (Pq T) #[_,_,rfl,rfl,q]]
noncomputable def Told(c:Tab)(lost total part whole:Int)(ks:List Int):Prop:=∃srt:List Int,srt.Perm (keys c)/\srt.Pairwise (· <= ·)/\ks=srt.filter fun k=>decide (total*part<(low c k+lost)*whole)
noncomputable def ai4(c:Tab)(lost:Int)(H:Hp):List Addr->List Int->Prop:=Paired fun t k=>H t=some (.tup [.int k,.int (low c k),.int (low c k+lost)])
theorem ai4.same(h:ai4 c lost H ts ks)(s:∀t k,t∈ts->H t=some (.tup k)->H' t=some (.tup k)):ai4 c lost H' ts ks:=by
 unfold ai4 at h ⊢
 induction h with
 |nil=>exact .nil
 |cons r t ih=>exact .cons (s _ _ cJ r) (ih fun t k m e=>s t k (cV _ m) e)
theorem Xq:∀{l₁:List α}{l₂:List β}{i:Nat}{a:α}{b:β},Paired F l₁ l₂->l₁[i]? = some a->l₂[i]? = some b->F a b
 |_,_,_,_,_,.nil,h,_=>by simp at h
 |_,_,0,_,_,.cons r _,h,h'=>by simp at h h';subst h;subst h';exact r
 |_,_,i+1,_,_,.cons _ t,h,h'=>Xq (i:=i) t (by simpa using h) (by simpa using h')
noncomputable def ahu(A:Ad):Sp:=fun vs H Q _=>Ex8 fun(p dx d:Addr) (room:Nat) (t l part whole:Int)=>∃(c:Tab),z7 (vs=[.ref p,.int part,.int whole]) (H p=some (.ins A.C'3 dx (fl room t l d))) (H d=some (.dK (emb c))) (room<=1000) (0<=part) (part<=1000000) (0<=whole) (oJ (whole<=1000000) (whole<=part*((room:Int)+1)) (c.length<64) (∀(x:Addr)(ts:List Addr)(ks:List Int)(H':Hp),H x=none->(∀t∈ts,H t=none)->Told c l t part whole ks->H' x=some (.lst (ts.map V.ref))->ai4 c l H' ts ks->Same H H'->Q (.ref x) H'))
theorem IV(T:Tx K mg A):FnM P w mg base T.lO CX0 3 (ahu A):=by
 k_dat (T.lO,T.lO.ok,rG) "f"
 ·obtain⟨p,dx,d,room,t,l,part,whole,c,rfl,hp,hd,hr1,p0,p1,w0,w1,fine,h64,q⟩:=h;show#[_,by k_dat ([fK],[rG.nd,bZ (jX rfl) (by rfl) T.fM Gh ?_,aU ?_ T.qj (uN T) ?_,aU ?_ T.qj (oA T) ?_],[]) "p",?_];show#[_,rfl,_,rfl,rdG hp (Ip T) #[_,_,rfl,rfl,_,_,rfl,rfl,sX tb_g% tb_g%,_,rfl,_,_,rfl,rfl,_,rfl,?_]];rw[mS tb_g%];refine fW #[(by show 0<=sizeLine;exact bF _),fun x hx=>?_]
  k_dat lqg "c"
  k_dat lqf "c"
  have npx:p≠x:=ak hp hx;have ndx:d≠x:=ak hd hx;have hp1:(upd H x (.lst [])) p=some (.ins A.C'3 dx (fl room t l d)):=by rwa[ao npx]
  have hd1:(upd H x (.lst [])) d=some (.dK (emb c)):=by rwa[ao ndx]
  show#[_,rfl,rdG hp1 (uJ T) (.inl #[d,emb c,keys c,rfl,.inl hd1,uf c,(by unfold keys;rwa[aC]),fun y srt hy hperm RT=>?_])];have nxy:x≠y:=fun z=>by rw[<-z,aj]at hy;cases hy
  have hy0:H y=none:=by rwa[ao (aG nxy)]at hy
  show#[y,rfl,#[_,.inl (.inl aj)],dR (K:=K) (a:=y) (xs:=srt.map V.int) (fun i σ H2=>∃ (ts:List Addr) (x4 x5:Option V),σ=[some (.ref p),some (.int part),some (.int whole),some (.ref x),x4,x5]/\Same H H2/\H2 y=some (.lst (srt.map V.int))/\H2 x=some (.lst (ts.map V.ref))/\ts.length<=i /\
   (∀ t∈ts,H t=none)/\ai4 c l H2 ts ((srt.take i).filter fun k=>decide (t*part<(low c k+l)*whole))) ⟨[],none,none,rfl,?_,aj,?_,bC _,fun _ h=>(nomatch h),?_⟩ (fun i σ H2 _ ⟨_,_,_,_,_,h,_⟩=>.inl (.inl h)) ?_ ?_]
  ·exact(Same.new hx).trans (Same.new hy)
  ·rw[ao nxy,aj];rfl
  ·exact .nil
  ·rintro i v σ H2 hi ⟨ts,x4,x5,rfl,s2,hy2,hx2,hl2,hf2,tr2⟩;have hil:i<srt.length:=by have:=(dh.mp hi).1;rwa[aC]at this
   obtain⟨k,hk,rfl⟩:∃z,srt[i]? = some z/\v=V.int z:=by
    rw[dG]at hi;cases e:srt[i]? with
    |none=>rw[e]at hi;cases hi
    |some z=>rw[e]at hi;show#[z,rfl,(cA hi).symm]
   have hlen:srt.length<64:=by rw[hperm.length_eq];unfold keys;rwa[aC]
   have tk:(srt.take (i+1))=srt.take i++[k]:=by rw[jE,hk];rfl
   show#[_,rfl,p,dx,_,rfl,s2 _ _ hp,xM _ _ _ _ tb_g% tb_g% tb_g% tb_g%,_,rfl,p,dx,d,_,_,_,k,c,rfl,s2 _ _ hp,s2 _ _ hd,?_];show#[_,rfl,_,rfl,_,_,rfl,rfl,dB tb_g% tb_g%,_,rfl,rdG (s2 _ _ hp) (Ir T) #[_,rfl,_,_,rfl,rfl,dB tb_g% tb_g%,_,_,rfl,rfl,_,rfl,cW (fun h=>?_) (fun h=>?_)]]
   ·k_dat ld "c"
    have hh:t*part<(low c k+l)*whole:=mP h;show#[_,rfl,.inl #[rfl,_,.inl (.inl hx2)],?_];show#[_,rfl,_,rfl,p,dx,_,rfl,s2 _ _ hp,xM _ _ _ _ tb_g% tb_g% tb_g% tb_g%,_,rfl,p,dx,d,_,_,_,k,c,rfl,s2 _ _ hp,s2 _ _ hd,?_];show#[_,rfl,tb_g%,fun u hu=>?_];have nxu:x≠u:=ak hx2 hu;have nyu:y≠u:=ak hy2 hu;show#[x,_,_,rfl,rfl,by rwa[ao nxu],?_,?_]
    ·rw[aC];exact aM tb_g%
    show#[ts++[u],_,_,rfl,fun b o e=>?_,?_,?_,?_,fun t ht=>?_,?_]
    ·rw[ao (ak e hx),ao (ak (s2 b o e) hu)];exact s2 b o e
    ·rwa[ao (aG nxy),ao nyu]
    ·rw[aj,bM];rfl
    ·rw[dw];show ts.length+1<=i+1;lia
    ·rcases bO.mp ht with m|m
     ·exact hf2 t m
     ·have e:t=u:=by simpa using m
      rw[e];exact s2.free hu
    ·rw[tk,iM];have e1:([k].filter fun k=>decide (t*part<(low c k+l)*whole))=[k]:=by simp[hh]
     rw[e1];refine aeE (tr2.same fun t' k' m e=>?_) ?_
     ·rwa[ao (fun z=>by rw[z,hx2]at e;cases e),ao (ak e hu)]
     ·show(upd (upd H2 u _) x _) u=_;rw[ao (aG nxu),aj]
   ·have hh:¬ t*part<(low c k+l)*whole:=fun z=>h (mN z);show#[ts,_,_,rfl,s2,hy2,hx2,by lia,hf2,?_];rw[tk,iM];have e1:([k].filter fun k=>decide (t*part<(low c k+l)*whole))=[]:=by simp[hh]
    rwa[e1,gk]
  ·rintro σ H2 ⟨ts,x4,x5,rfl,s2,hy2,hx2,hl2,hf2,tr2⟩;rw[aC,gZ]at tr2;show#[_,rfl,q x ts _ H2 hx hf2 #[srt,hperm,RT,rfl] hx2 tr2 s2]
theorem ai5{n g:Int}(hg:0<g)(hn:0<=n):n<((g+n / g) / 2+1)*((g+n / g) / 2+1):=by
 have h1:n<(n / g+1)*g:=Int.lt_ediv_add_one_mul_self n hg;have h0:0<=n / g:=ak6 hn tb_g%;generalize n / g=q at *;generalize hb:(g+q) / 2=b;have h2:g+q+1<=2*(b+1):=by lia
 have h3:(g+q+1)*(g+q+1)<=(2*(b+1))*(2*(b+1)):=yR h2 h2 tb_g% tb_g%;have h4:0<=(g-(q+1))*(g-(q+1)):=by
  rcases Int.le_total 0 (g-(q+1))with h|h
  ·exact JL h h
  ·exact Int.mul_nonneg_of_nonpos_of_nonpos h h
 have e1:(g+q+1)*(g+q+1)=(g-(q+1))*(g-(q+1))+4*((q+1)*g):=by grind
 have e2:(2*(b+1))*(2*(b+1))=4*((b+1)*(b+1)):=by grind
 lia
theorem ai6{n g:Int}(hg:0<g)(h:¬ (g+n / g) / 2<g):g*g<=n:=by
 have h1:g<=n / g:=by lia
 have h2:n / g*g<=n:=ak7 n tb_g%;have h3:g*g<=n / g*g:=wM h1 tb_g%;lia
theorem ao2{n g:Int}(hg:0<g)(hn:0<n):0<(g+n / g) / 2:=by
 have h0:0<=n / g:=ak6 tb_g% tb_g%;by_cases h:g=1
 ·subst h;rw[Int.ediv_one];lia
 ·lia
theorem due1(n:Int):(n+1)*(n+1-1) / 2=n*(n-1) / 2+n:=by
 have:(n+1)*(n+1-1)=n*(n-1)+n*2:=by grind
 rw[this,akZ _ _ tb_g%]
theorem due2(n:Int):(n+1)*(n+1-1)*(2*(n+1)-1) / 6=n*(n-1)*(2*n-1) / 6+n*n:=by
 have:(n+1)*(n+1-1)*(2*(n+1)-1)=n*(n-1)*(2*n-1)+n*n*6:=by grind
 rw[this,akZ _ _ tb_g%]
theorem ao3(n:Int):2*(n*(n-1) / 2)=n*(n-1):=by
 have:n*(n-1) % 2=0:=by
  rcases Int.emod_two_eq n with h|h
  ·rw[ale,h,Y4];rfl
  ·rw[ale,show(n-1) % 2=0 by lia,ald];rfl
 lia
theorem due3(n:Int):(n+1)*(n+1-1) / 2*((n+1)*(n+1-1) / 2)=n*(n-1) / 2*(n*(n-1) / 2)+n*n*n:=by
 rw[due1];have e:=ao3 n;generalize n*(n-1) / 2=k at *;have:(k+n)*(k+n)=k*k+(2*k)*n+n*n:=by grind
 rw[this,e]
 grind
noncomputable def dueL(n:Int):List Int:=[n,n*(n-1) / 2,n*(n-1)*(2*n-1) / 6,n*(n-1) / 2*(n*(n-1) / 2)]
noncomputable def spDue:Sp:=fun vs H Q _=>∃n,oJ (vs=[.int n]) (1<=n) (n<=2000000000) (∀p,H p=none->Q (.ref p) (upd H p (.lst ((dueL n).map V.int))))
theorem acP(T:Tx K mg A):FnK P w base T.Fv CX0 1 spDue:=by
 k_dat (T.Fv,T.Fv.ok,MP) "f"
 ·obtain⟨n,rfl,h1,h2,q⟩:=h;show#[_,by k_dat ([],[MP.nd],[]) "p",?_]
  k_dat lq "c"
  have b0:0<=n*(n-1):=JL tb_g% tb_g%;have b1:n*(n-1)<=2000000000*2000000000:=yR h2 tb_g% tb_g% tb_g%;show#[_,rfl,_,rfl,_,_,rfl,rfl,_,_,rfl,rfl,sX tb_g% tb_g%,_,_,rfl,rfl,#[tb_g%,tb_g%],?_]
  k_dat lqg "c"
  show#[_,rfl,_,rfl,_,_,rfl,rfl,_,_,rfl,rfl,sX tb_g% tb_g%,_,rfl,_,_,rfl,rfl,sX tb_g% tb_g%,_,_,rfl,rfl,_,_,rfl,rfl,dB tb_g% tb_g%,_,_,rfl,rfl,#[tb_g%,tb_g%],?_];show#[_,rfl,_,rfl,_,rfl,_,rfl,_,rfl,_,_,rfl,rfl,sX tb_g% tb_g%,tb_g%,fun p hp=>q p hp]
noncomputable def au1:Sp:=fun vs H Q _=>∃n,oJ (vs=[.int n]) (0<=n) (n<2 ^ 2000) (∀r:Int,0<=r->r*r<=n->n<(r+1)*(r+1)->Q (.int r) H)
noncomputable def aq0(σ:St)(_:Hp):Nat:=match σ with
 |[_,some (.int x),_,_]=>x.toNat
 |_=>0
theorem ai7(n:Int):(((tQ n:Nat):Int)+1) / 2=(((tQ n+1) / 2:Nat):Int):=by lia
theorem aq1(T:Tx K mg A):FnK P w base T.afW CX0 1 au1:=by
 k_dat (T.afW,T.afW.ok,wF) "f"
 ·obtain ⟨n,rfl,h0,h1,q⟩:=h;show#[_,(fJ (amk (gw agA (pv 0) cI (jU _)) (vH (Rf cI)) Zu)
   (fJ (psS 1 wF.nd cI)
   (fJ (aeV JR rfl (tV rfl T.HJ (cg (eO Gn (eO dX (atU PySem.F.plainAttrs_int alC PySem.F.type_int_bit_length aqk (pv 0)) cI) cI) gA)) (pgN 2 wF.nd) (vH (psS 1 wF.nd (eO aeX (pv 1) cI))))
   (fJ (psS 3 wF.nd (eO Gn (eO dX (pv 1) (eO SM (pv 0) (pv 1))) cI))
   (fJ (abk JR (gw amv (pv 3) (pv 1) (jU _)) (fJ (psS 1 wF.nd (pv 3))
   (vH (psS 3 wF.nd (eO Gn (eO dX (pv 1) (eO SM (pv 0) (pv 1))) cI)))))
   (vH (Rf (pv 1)))))))),?_]
  show#[_,rfl,rfl,_,rfl,cW (fun h=>?_) (fun h=>?_)]
  ·have e:n=0:=V.int.inj (mP h);exact q 0 tb_g% tb_g% tb_g%
  ·have ne:n≠0:=fun z=>h (mN (mM V.int z));have hb:=bits_le (Xa h0 h1);have hb2:=aqm h0;generalize hbb:tQ n=b at *;show#[_,rfl,rfl,n,rfl,rfl,_,_,rfl,rfl,_,_,rfl,rfl,#[tb_g%,tb_g%],?_];show#[(((b+1) / 2:Nat):Int),by show[V.int ((((tQ n:Nat):Int)+1) / 2)]=_;rw[ai7,hbb],by lia,by lia,Am (n:=(b+1) / 2) (fun i σ H2=>∃x,σ=[some (.int n),some (.int (2 ^ i)),x,none]/\H2=H) #[none,rfl,rfl] ?_ ?_]
   ·rintro i σ H2 hi ⟨x,rfl,rfl⟩;show#[_,rfl,_,_,rfl,rfl,dB tb_g% tb_g%,some (.int (0+(i:Int))),?_,rfl];rw[mj];rfl
   ·rintro σ H2 ⟨x,rfl,rfl⟩;have g0:(0:Int)<2 ^ ((b+1) / 2):=QH tb_g%;have g1:(2:Int) ^ ((b+1) / 2)<2 ^ 1100:=by
     have:(2:Nat) ^ ((b+1) / 2)<2 ^ 1100:=Nat.pow_lt_pow_right tb_g% tb_g%
     exact_mod_cast this
    have g2:n<(2 ^ ((b+1) / 2)+1)*(2 ^ ((b+1) / 2)+1):=by
     have e:(2:Int) ^ b<=2 ^ ((b+1) / 2)*2 ^ ((b+1) / 2):=by
      rw[<-Y6];have:(2:Nat) ^ b<=2 ^ ((b+1) / 2+(b+1) / 2):=JD tb_g% tb_g%
      exact_mod_cast this
     have:=yR (show(2:Int) ^ ((b+1) / 2)<=2 ^ ((b+1) / 2)+1 by lia) (show(2:Int) ^ ((b+1) / 2)<=2 ^ ((b+1) / 2)+1 by lia) tb_g% tb_g%;lia
    generalize (2:Int) ^ ((b+1) / 2)=g at g0 g1 g2;show#[_,rfl,_,rfl,_,rfl,_,_,rfl,rfl,#[g0,1100,tb_g%,g1],_,_,rfl,rfl,_,_,rfl,rfl,#[tb_g%,tb_g%],?_];refine tW (fun σ H'=>∃(g:Int),uF (σ=[some (.int n),some (.int g),x,some (.int ((g+n / g) / 2))]) (0<g) (g<2 ^ 1100) (n<(g+1)*(g+1)) (H'=H2)) aq0 #[g,rfl,g0,g1,g2,rfl] ?_
     (by rintro σ H Q Q' hq ⟨v,e,v',e',i,j,e1,e2,k,e3,q⟩;show#[v,e,v',e',i,j,e1,e2,k,e3,hq _ _ q])
    rintro σ H' ⟨g,rfl,g0,g1,g2,rfl⟩;show#[_,rfl,_,rfl,_,_,rfl,rfl,_,rfl,cW (fun h=>?_) (fun h=>?_)]
    ·have hlt:(g+n / g) / 2<g:=mP h;have p0:=ao2 g0 (show 0<n by lia);have p1:=ai5 g0 h0;generalize (g+n / g) / 2=g' at hlt p0 p1;show#[_,rfl,_,rfl,_,rfl,_,rfl,_,_,rfl,rfl,#[p0,1100,tb_g%,by lia],_,_,rfl,rfl,_,_,rfl,rfl,#[tb_g%,tb_g%],#[g',rfl,p0,by lia,p1,rfl],?_];show g'.toNat<g.toNat;lia
    ·have hlt:¬ (g+n / g) / 2<g:=fun z=>h (mN z);show#[_,rfl,q g tb_g% (ai6 g0 hlt) g2]
noncomputable def Lq(n:Int):Q4:=#[n,n*(n-1) / 2,n*(n-1)*(2*n-1) / 6,n*(n-1) / 2*(n*(n-1) / 2)]
noncomputable def Sm(q:Q4):Prop:=q.a.natAbs<2 ^ 200/\q.b.natAbs<2 ^ 200/\q.c.natAbs<2 ^ 200/\q.d.natAbs<2 ^ 200
noncomputable abbrev Po:=Addr × (Int × Int)
structure Pos(H:Hp)(l:Addr)(ps:List Po):Prop where
 l:H l=some (.lst (ps.map fun p=>V.ref p.1))
 t:∀p∈ps,H p.1=some (.tup [.int p.2.1,.int p.2.2])
noncomputable def po(ps:List Po):List (Int × Int):=ps.map (·.2)
theorem Pos.same{H H':Hp}{l:Addr}{ps:List Po}(h:Pos H l ps)(s:Same H H'):Pos H' l ps:=#[s _ _ h.l,fun p m=>s _ _ (h.t p m)]
theorem acQ{a b:Int}(hb:b≠0):(a.fdiv b).natAbs<=a.natAbs:=by
 rcases Int.lt_or_lt_of_ne hb with h|h
 ·rw[<-Int.neg_fdiv_neg,QF _ tb_g%];have:=QG (-a) (-b);rwa[Int.natAbs_neg]at this
 ·rw[QF _ tb_g%];exact QG a b
theorem iB{a b:Int}(ha:a.natAbs<2 ^ n)(hb:b.natAbs<2 ^ m):(a*b).natAbs<2 ^ (n+m):=by
 rw[aem,Nat.pow_add];exact Nat.mul_lt_mul'' ha hb
theorem qU{a b:Int}(ha:a.natAbs<2 ^ n)(hb:b.natAbs<2 ^ n):(a-b).natAbs<2 ^ (n+1):=by
 have:=ak4 a b;rw[pA];lia
theorem Uy{a:Int}(h:a.natAbs<2 ^ n)(hm:n<=m):a.natAbs<2 ^ m:=cY h (JD tb_g% hm)
noncomputable def bend(q:Q4):Int:=q.b*q.b-q.a*q.c
noncomputable def mR(q:Q4):Int:=(q.b*q.c-q.a*q.d).fdiv (bend q)
noncomputable def aaT(q:Q4):Int:=(q.c*q.c-q.b*q.d).fdiv (bend q)
noncomputable def fO(q:Q4):Int:=mR q*mR q-4*aaT q
inductive Tof (q:Q4):Option (List (Int × Int))->Prop
 |zero (h:q=dI):Tof q (some [])
 |ahv (h:q≠dI) (hb:bend q=0) (ha:q.a=0):Tof q none
 |one (h:q≠dI) (hb:bend q=0) (ha:q.a≠0):Tof q (some [(q.b.fdiv q.a,q.a)])
 |ahw (h:q≠dI) (hb:bend q≠0) (hs:fO q<1):Tof q none
 |two (h:q≠dI) (hb:bend q≠0) (hs:1<=fO q) (d:Int) (d1:1<=d) (e1:d*d<=fO q) (e2:fO q<(d+1)*(d+1)):
   Tof q (some [((mR q-d) / 2,q.a-(q.b-(mR q-d) / 2*q.a) / d),((mR q-d) / 2+d,(q.b-(mR q-d) / 2*q.a) / d)])
theorem arR:L4 q=L4 p↔q=p:=by
 show#[fun h=>?_,fun h=>by rw[h]];obtain⟨a,b,c,d⟩:=q;obtain⟨a',b',c',d'⟩:=p;unfold L4 at h;simp only[atm]at h;obtain⟨h1,h2,h3,h4,_⟩:=h;subst h1 h2 h3 h4;rfl
noncomputable def spOne:Sp:=fun vs H Q _=>Ex2 fun l q=>uF (vs=[.ref l]) (H l=some (.lst ((L4 q).map V.int))) (Sm q) ((q.a=0->Q .non H)) ((q.a≠0->∀x ps H',po ps=[(q.b.fdiv q.a,q.a)]->Pos H' x ps->Same H H'->H x=none->Q (.ref x) H'))
theorem acR(T:Tx K mg A):FnK P w base T.Fw CX0 1 spOne:=by
 k_dat (T.Fw,T.Fw.ok,acw) "f"
 ·obtain⟨l,q,rfl,hl,sm,k0,k1⟩:=h;show#[_,by k_dat ([Kz],[],[]) "p",?_]
  k_dat lq "c"
  show#[_,rfl,dj (.inl (.inl hl)) (v:=.int q.a) rfl #[rfl,_,rfl,cW (fun h=>?_) (fun h=>?_)]]
  ·exact k0 (V.int.inj (mP h))
  ·have ha:q.a≠0:=fun z=>h (mN (mM V.int z));show#[_,rfl,dj (.inl (.inl hl)) (v:=.int q.b) rfl #[_,rfl,dj (.inl (.inl hl)) (v:=.int q.a) rfl #[_,_,rfl,rfl,#[ha,200,tb_g%,sm.1],_,rfl,dj (.inl (.inl hl)) (v:=.int q.a) rfl #[tb_g%,fun t ht=>#[tb_g%,fun x hx=>?_]]]]];have s1:Same H (upd H t (.tup [.int (q.b.fdiv q.a),.int q.a])):=Same.new ht;refine k1 ha x [(t,(q.b.fdiv q.a,q.a))] _ rfl #[aj,fun p m=>?_] (s1.trans (Same.new hx)) (s1.free hx);rw[cC.mp m];exact(Same.new hx) _ _ aj
noncomputable def spTwo:Sp:=fun vs H Q _=>Ex2 fun l q=>acy (vs=[.ref l,.int (bend q)]) (H l=some (.lst ((L4 q).map V.int))) (Sm q) (bend q≠0) ((fO q<1->Q .non H)) ((1<=fO q->∀d:Int,1<=d->d*d<=fO q->fO q<(d+1)*(d+1)->∀x ps H',po ps=[((mR q-d) / 2,q.a-(q.b-(mR q-d) / 2*q.a) / d),((mR q-d) / 2+d,(q.b-(mR q-d) / 2*q.a) / d)]->Pos H' x ps->Same H H'->H x=none->Q (.ref x) H'))
theorem aaU(T:Tx K mg A):FnK P w base T.zT CX0 2 spTwo:=by
 k_dat (T.zT,T.zT.ok,gB) "f"
 ·obtain ⟨l,q,rfl,hl,sm,hb,k0,k1⟩:=h;show#[_,(fJ (psS 2 gB.nd (eO Kz (eO zp (eO vX (gW (ixG (wQ hr)) (pv 0) cI (fun _ _=>rfl)) (gW (ixG (wQ hr)) (pv 0) cI (fun _ _=>rfl))) (eO vX (gW (ixG (wQ hr)) (pv 0) cI (fun _ _=>rfl)) (gW (ixG (wQ hr)) (pv 0) cI (fun _ _=>rfl)))) (pv 1)))
   (fJ (psS 3 gB.nd (eO Kz (eO zp (eO vX (gW (ixG (wQ hr)) (pv 0) cI (fun _ _=>rfl)) (gW (ixG (wQ hr)) (pv 0) cI (fun _ _=>rfl))) (eO vX (gW (ixG (wQ hr)) (pv 0) cI (fun _ _=>rfl)) (gW (ixG (wQ hr)) (pv 0) cI (fun _ _=>rfl)))) (pv 1)))
   (fJ (psS 4 gB.nd (eO zp (eO vX (pv 2) (pv 2)) (eO aeX cI (pv 3))))
   (fJ (amk (gw amv (pv 4) cI (jU _)) (vH (Rf Zt)) Zu)
   (fJ (psS 5 gB.nd (aD (aq1 T) (cg (pv 4) gA)))
   (fJ (psS 6 gB.nd (eO Gn (eO zp (pv 2) (pv 5)) cI))
   (fJ (psS 7 gB.nd (eO SM (eO zp (gW (ixG (wQ hr)) (pv 0) cI (fun _ _=>rfl)) (eO vX (pv 6) (gW (ixG (wQ hr)) (pv 0) cI (fun _ _=>rfl)))) (pv 5)))
   (vH (Rf (amA (cg (Kf (cg (pv 6) (cg (eO zp (gW (ixG (wQ hr)) (pv 0) cI (fun _ _=>rfl)) (pv 7)) gA))) (cg (Kf (cg (eO dX (pv 6) (pv 5)) (cg (pv 7) gA))) gA)))))))))))),?_]
  obtain⟨sa,sb,sc,sd⟩:=sm;have bb:(bend q).natAbs<2 ^ 401:=qU (iB sb sb) (iB sa sc);have cb:(mR q).natAbs<2 ^ 401:=BK (acQ hb) (qU (iB sb sc) (iB sa sd));have ct:(aaT q).natAbs<2 ^ 401:=BK (acQ hb) (qU (iB sc sc) (iB sb sd));have cs:(fO q).natAbs<2 ^ 803:=by
   have h1:=iB cb cb;have h2:(4*aaT q).natAbs<2 ^ 802:=Uy (iB (a:=4) (n:=3) tb_g% ct) tb_g%;exact qU h1 h2
  show#[_,rfl,dj (.inl (.inl hl)) (v:=.int q.b) rfl #[_,rfl,dj (.inl (.inl hl)) (v:=.int q.c) rfl #[_,_,rfl,rfl,#[200,200,sb,sc,tb_g%],_,rfl,dj (.inl (.inl hl)) (v:=.int q.a) rfl #[_,rfl,dj (.inl (.inl hl)) (v:=.int q.d) rfl #[_,_,rfl,rfl,#[200,200,sa,sd,tb_g%],_,_,rfl,rfl,_,rfl,_,_,rfl,rfl,#[hb,401,tb_g%,bb],?_]]]]];show#[_,rfl,dj (.inl (.inl hl)) (v:=.int q.c) rfl #[_,rfl,dj (.inl (.inl hl)) (v:=.int q.c) rfl #[_,_,rfl,rfl,#[200,200,sc,sc,tb_g%],_,rfl,dj (.inl (.inl hl)) (v:=.int q.b) rfl #[_,rfl,dj (.inl (.inl hl)) (v:=.int q.d) rfl #[_,_,rfl,rfl,#[200,200,sb,sd,tb_g%],_,_,rfl,rfl,_,rfl,_,_,rfl,rfl,#[hb,401,tb_g%,bb],?_]]]]];show#[_,rfl,_,rfl,_,_,rfl,rfl,#[401,401,cb,cb,tb_g%],_,rfl,_,_,rfl,rfl,sX tb_g% tb_g%,_,_,rfl,rfl,?_];show#[_,rfl,_,_,rfl,rfl,_,rfl,cW (fun h=>?_) (fun h=>?_)]
  ·exact k0 (mP h)
  ·have h1:¬ fO q<1:=fun z=>h (mN z);have hsq:fO q<2 ^ 2000:=by
    have:((fO q).natAbs:Int)<((2 ^ 803:Nat):Int):=Y0.mpr cs;have e:(((2:Nat) ^ 803:Nat):Int)<=2 ^ 2000:=by decide
    lia
   show#[_,rfl,_,rfl,by show 0<=fO q;lia,hsq,fun d d0 e1 e2=>?_];have e1:d*d<=fO q:=e1;have e2:fO q<(d+1)*(d+1):=e2;have d1:1<=d:=by
    rcases(show d=0\/1<=d by lia)with z|z
    ·rw[z]at e2;lia
    ·exact z
   have dlt:d<2 ^ 2000:=by
    have:=yR d1 (bR d) tb_g% d0;lia
   have dab:d.natAbs<2 ^ 2000:=Xa d0 dlt;show#[_,rfl,_,rfl,_,_,rfl,rfl,_,_,rfl,rfl,#[tb_g%,tb_g%],?_];have lowb:((mR q-d) / 2).natAbs<2 ^ 2001:=BK (QG _ _) (qU (Uy cb tb_g%) dab);show#[_,rfl,dj (.inl (.inl hl)) (v:=.int q.b) rfl #[_,rfl,_,rfl,dj (.inl (.inl hl)) (v:=.int q.a) rfl #[_,_,rfl,rfl,#[2001,200,lowb,sa,tb_g%],_,_,rfl,rfl,_,rfl,_,_,rfl,rfl,#[by lia,2000,tb_g%,dlt],?_]]];show#[_,rfl,_,rfl,dj (.inl (.inl hl)) (v:=.int q.a) rfl #[_,rfl,_,_,rfl,rfl,tb_g%,fun t1 ht1=>?_]];show#[_,rfl,_,rfl,_,_,rfl,rfl,_,rfl,tb_g%,fun t2 ht2=>#[tb_g%,fun x hx=>?_]];refine k1 tb_g% d d1 e1 e2 x [(t1,((mR q-d) / 2,q.a-(q.b-(mR q-d) / 2*q.a) / d)),(t2,((mR q-d) / 2+d,(q.b-(mR q-d) / 2*q.a) / d))] _ rfl #[aj,fun p m=>?_] ((Same.new ht1).trans ((Same.new ht2).trans (Same.new hx))) (((Same.new ht1).trans (Same.new ht2)).free hx);simp only[aX,fH,or_false]at m;rcases m with rfl|rfl
   ·exact(Same.new hx) _ _ ((Same.new ht2) _ _ aj)
   ·exact(Same.new hx) _ _ aj
noncomputable def agd:Sp:=fun vs H Q _=>Ex2 fun l q=>uF (vs=[.ref l]) (H l=some (.lst ((L4 q).map V.int))) (Sm q) ((∀H',Tof q none->Same H H'->Q .non H')) (∀x ps H',Tof q (some (po ps))->Pos H' x ps->Same H H'->H x=none->Q (.ref x) H')
theorem aaV(T:Tx K mg A):FnK P w base T.zU CX0 3 agd:=by
 k_dat (T.zU,T.zU.ok,HS) "f"
 ·obtain⟨l,q,rfl,hl,sm,k0,k1⟩:=h;show#[_,by (k_dat ([hdE,vX],[HS.nd,aD (acR T) ?_,aD (aaU T) ?_],[]) "p"; k_dat (an5 hr.units) "h"; k_dat agA "h"),?_];show#[_,rfl,tb_g%,fun z hz=>?_];have s1:Same H (upd H z (.lst ((L4 dI).map V.int))):=Same.new hz;have f1:(upd H z (.lst ((L4 dI).map V.int))) z=some (.lst ((L4 dI).map V.int)):=aj;rw[show(HO.lst [V.int 0,V.int 0,V.int 0,V.int 0])=.lst ((L4 dI).map V.int)from rfl];generalize upd H z (.lst ((L4 dI).map V.int))=H1 at s1 f1 ⊢;show#[l,z,L4 q,L4 dI,rfl,rfl,.inl (.inl (s1 _ _ hl)),.inl (.inl f1),rfl,_,rfl,cW (fun h=>?_) (fun h=>?_)]
  ·k_dat ld "c"
   have e:q=dI:=arR.mp (mP h);show#[tb_g%,fun x hx=>?_];exact k1 x [] _ (.zero e) #[aj,(fun p m=>nomatch m)] (s1.trans (Same.new hx)) (s1.free hx)
  ·have hne:q≠dI:=fun e=>h (mN (arR.mpr e));have hl1:=s1 _ _ hl;show#[_,rfl,dj (.inl (.inl hl1)) (v:=.int q.b) rfl #[_,rfl,dj (.inl (.inl hl1)) (v:=.int q.b) rfl #[_,_,rfl,rfl,#[200,200,sm.2.1,sm.2.1,tb_g%],_,rfl,dj (.inl (.inl hl1)) (v:=.int q.a) rfl #[_,rfl,dj (.inl (.inl hl1)) (v:=.int q.c) rfl #[_,_,rfl,rfl,#[200,200,sm.1,sm.2.2.1,tb_g%],_,_,rfl,rfl,?_]]]]]
   k_dat lqg "c"
   show#[_,rfl,rfl,_,rfl,cW (fun hb=>?_) (fun hb=>?_)]
   ·have hb:bend q=0:=V.int.inj (mP hb);show#[_,rfl,l,q,rfl,hl1,sm,fun ha=>k0 _ (.ahv hne hb ha) s1,fun ha x ps H' e p' s' n'=>?_];exact k1 x ps H' (by rw[e];exact .one hne hb ha) p' (s1.trans s') (s1.free n')
   ·have hb:bend q≠0:=fun e=>hb (mN (mM V.int e));show#[_,rfl,_,rfl,l,q,rfl,hl1,sm,hb,fun hs=>k0 _ (.ahw hne hb hs) s1,fun hs d d1 e1 e2 x ps H' e p' s' n'=>?_];exact k1 x ps H' (by rw[e];exact .two hne hb hs d d1 e1 e2) p' (s1.trans s') (s1.free n')
noncomputable def cQ(L:List (Int × Int)):Q4:=L.foldl (fun q p=>addQ q (pwQ p.1 p.2)) dI
theorem Bm(L:List (Int × Int))(p:Int × Int):cQ (L++[p])=addQ (cQ L) (pwQ p.1 p.2):=by
 unfold cQ;rw[Xy];rfl
theorem au2{ps:List Po}{i:Nat}{y:V}(h:(ps.map fun p=>V.ref p.1)[i]? = some y):∃p,ps[i]? = some p/\y=.ref p.1:=by
 rw[dG]at h;cases e:ps[i]? with
 |none=>rw[e]at h;cases h
 |some p=>rw[e]at h;show#[p,rfl,(cA h).symm]
noncomputable def au3:Sp:=fun vs H Q _=>Ex5 fun x l s ps q=>Oh (vs=[.ref x,.ref l,.int s]) (Pos H x ps) (H l=some (.lst ((L4 q).map V.int))) (s<=2000000000) ((∀p∈po ps,0<=p.1/\p.1<s)) (cQ (po ps)=q) (∀H',Same H H'->Q (.bl true) H')
theorem aq2(T:Tx K mg A):FnK P w base T.afX CX0 2 au3:=by
 k_dat (T.afX,T.afX.ok,ahj) "f"
 ·obtain⟨x,l,sp,ps,q,rfl,hx,hl,s9,hin,hs,k⟩:=h;show#[_,by k_dat ([fK,an5],[ahj.nd,aD (Af T) ?_],[]) "p",?_];show#[tb_g%,fun z hz=>?_];have s1:Same H (upd H z (.lst ((L4 dI).map V.int))):=Same.new hz;have f1:(upd H z (.lst ((L4 dI).map V.int))) z=some (.lst ((L4 dI).map V.int)):=aj;rw[show(HO.lst [V.int 0,V.int 0,V.int 0,V.int 0])=.lst ((L4 dI).map V.int)from rfl];generalize upd H z (.lst ((L4 dI).map V.int))=H1 at s1 f1 ⊢
  k_dat lqg "c"
  k_dat lqf "c"
  have hx1:=hx.same s1;show#[_,rfl,x,rfl,#[_,.inl (.inl hx1.l)],dR (K:=K) (a:=x) (xs:=ps.map fun p=>V.ref p.1) (fun i σ G=>Ex3 fun(z:Addr) (x4 x5:Option V)=>ou (σ=[some (.ref x),some (.ref l),some (.int sp),some (.ref z),x4,x5]) (Same H1 G) (G z=some (.lst ((L4 (cQ (po (ps.take i)))).map V.int)))) #[z,none,none,rfl,Same.refl _,f1] (fun i σ G _ ⟨_,_,_,_,s,_⟩=>.inl (.inl (s _ _ hx1.l))) ?_ ?_]
  ·rintro i y σ G hi ⟨z',x4,x5,rfl,sG,fG⟩;obtain⟨p,hp,rfl⟩:=au2 hi;have ht:=sG _ _ (hx1.t p (mv hp));have hin':=hin p.2 (yh (mv hp));show#[p.1,_,rfl,.inl (.inl ht),rfl,_,_,rfl,_,_,rfl,rfl,?_];show#[_,rfl,_,_,rfl,rfl,_,rfl,?_];rw[mS tb_g%];refine fW #[_,rfl,_,rfl,_,_,rfl,rfl,_,rfl,?_];rw[mS tb_g%];refine fW #[_,rfl,_,rfl,_,rfl,z',p.2.1,p.2.2,_,rfl,fG,hin'.1,by lia,fun z2 G2 n2 f2 s2=>?_];show#[z2,_,_,rfl,sG.trans s2,?_];rwa[show po (ps.take (i+1))=po (ps.take i)++[p.2] by unfold po;rw[jE,hp,bM];rfl,Bm]
  ·rintro σ G ⟨z',x4,x5,rfl,sG,fG⟩;rw[aC,gZ,hs]at fG;show#[_,rfl,_,rfl,z',l,L4 q,L4 q,rfl,rfl,.inl (.inl fG),.inl (.inl (sG _ _ (s1 _ _ hl))),rfl,?_];rw[mN rfl];exact k _ (s1.trans sG)
noncomputable def subQ(q p:Q4):Q4:=#[q.a-p.a,q.b-p.b,q.c-p.c,q.d-p.d]
theorem aq3(q p:Q4):subQ (addQ q p) q=p:=by
 obtain⟨a,b,c,d⟩:=q;obtain⟨a',b',c',d'⟩:=p;show(#[a+a'-a,b+b'-b,c+c'-c,d+d'-d]:Q4)=#[a',b',c',d'];rw[show a+a'-a=a' by lia,show b+b'-b=b' by lia,show c+c'-c=c' by lia,show d+d'-d=d' by lia]
noncomputable def arS(A:Ad):Sp:=fun vs H Q _=>Ex6 fun p dx l s q L=>z7 (vs=[.ref p]) (Bn A H p dx l s q) (1<=s) (s<=1000000000) (Sm (subQ q (Lq s))) ((∀r,Tof (subQ q (Lq s)) r->r=some L)) ((∀p∈L,0<=p.1/\p.1<s)) (cQ L=subQ q (Lq s)/\∀x ps H',po ps=L->Pos H' x ps->Same H H'->H x=none->Q (.ref x) H')
theorem Uz(T:Tx K mg A):FnM P w mg base T.jh CX0 4 (arS A):=by
 k_dat (T.jh,T.jh.ok,qL) "f"
 ·obtain⟨p,dx,l,sp,q,L,rfl,hb,s1,s9,sm,tl,hin,hs,k⟩:=h;show#[_,by k_dat ([aeY],[qL.nd,aD (acP T) ?_,an1 rfl T.arL ?_,aD (aaV T) ?_,aD (aq2 T) ?_],[Z2 1 qL.nd (g:=(amn K 2 (Gm (mF 0) (Gm (mF 1) amm)))) 2 [] ["held","due"] [] (fun _ _ _ _=>aeS rfl (zj (vI (i:=0) (show(["held","due"]:List Str).Nodup by decide +kernel) rfl (Or.inl rfl)) (zj (vI (i:=1) (show(["held","due"]:List Str).Nodup by decide +kernel) rfl (Or.inl rfl)) Zv))) ?_ (fun _ _ _ _=>Z0) (fun _ _ _ _=>(eO zp (pv 0) (pv 1)))]) "p",?_];show#[_,rfl,rdG hb.o (Iv T) #[_,rfl,rdG hb.o (Iu T) #[sp,rfl,s1,by lia,fun dl hdl=>?_]]]
  k_dat (nwA hdl,H1,sD,fD) "n"
  have fD:H1 dl=some (.lst ((L4 (Lq sp)).map V.int)):=fD;have hb1:=hb.same sD;show#[l,dl,_,_,rfl,hb1.l,fD,fun D hD=>?_];refine W8 (xs:=(L4 q).map V.int) (ys:=(L4 (Lq sp)).map V.int) (fun i zs H2=>zs=((L4 (subQ q (Lq sp))).take i).map V.int/\H2 D=some (.lst zs)/\Same H1 H2) #[rfl,aj,Same.new hD] ?_ ?_ ?_ (Sw 0 1) ?_
  ·rintro i zs H2 ⟨rfl,f,s2⟩;show#[s2 _ _ hb1.l,s2 _ _ fD,f,aM (by rw[aC,dN];show min i 4<=1000;lia)]
  ·rintro i zs H2 u v t ws hu hv ⟨rfl,f,s2⟩ ht hw;obtain⟨w0,w1,rfl⟩:∃w0 w1,ws=[w0,w1]:=by
    match ws,hw with
    |[a,b],_=>show#[a,b,rfl]
   have s3:Same H2 (upd H2 t (.tup [u,v])):=Same.new ht;have keep:∀L b o,H1 b=some o->(upd (upd H2 t (.tup [u,v])) D L) b=some o:=fun L b o e=>by rw[ao (ak e hD)];exact s3 _ _ (s2 _ _ e)
   show#[t,_,rfl,.inl (.inl aj),rfl,_,_,rfl,_,_,rfl,rfl,#[[some u,some v],rfl,rfl],?_];rcases eY hu with⟨rfl,rfl⟩|⟨rfl,rfl⟩|⟨rfl,rfl⟩|⟨rfl,rfl⟩
   ·rcases eY hv with⟨_,rfl⟩|⟨h,_⟩|⟨h,_⟩|⟨h,_⟩
    ·show#[_,rfl,_,rfl,_,_,rfl,rfl,s3 _ _ f,rfl,aj,keep _]
    all_goals lia
   ·rcases eY hv with⟨h,_⟩|⟨_,rfl⟩|⟨h,_⟩|⟨h,_⟩
    ·lia
    ·show#[_,rfl,_,rfl,_,_,rfl,rfl,s3 _ _ f,rfl,aj,keep _]
    all_goals lia
   ·rcases eY hv with⟨h,_⟩|⟨h,_⟩|⟨_,rfl⟩|⟨h,_⟩
    ·lia
    ·lia
    ·show#[_,rfl,_,rfl,_,_,rfl,rfl,s3 _ _ f,rfl,aj,keep _]
    ·lia
   ·rcases eY hv with⟨h,_⟩|⟨h,_⟩|⟨h,_⟩|⟨_,rfl⟩
    ·lia
    ·lia
    ·lia
    ·show#[_,rfl,_,rfl,_,_,rfl,rfl,s3 _ _ f,rfl,aj,keep _]
  ·rintro zs H2 ⟨rfl,f,s2⟩
   k_dat lqg "c"
   have f:H2 D=some (.lst ((L4 (subQ q (Lq sp))).map V.int)):=f;show#[_,rfl,D,_,rfl,f,sm,fun H3 t3 _=>mI (tl _ t3) (by intro z;cases z),fun x ps H3 t3 p3 s3 n3=>?_];have eL:po ps=L:=cA (tl _ t3);have f3:=s3 _ _ f;have s123:=(sD.trans s2).trans s3;show#[_,rfl,rfl,_,rfl,fW ?_];show#[_,rfl,_,rfl,_,rfl,rdG (s123 _ _ hb.o) (Iu T) #[x,D,sp,ps,_,rfl,p3,f3,by lia,by rwa[eL],by rwa[eL],fun H4 s4=>?_]];show#[_,rfl,fW #[_,rfl,?_]];exact k x ps H4 eL (p3.same s4) (s123.trans s4) ((sD.trans s2).free n3)
  ·exact gY (aP 0) (aP 1)
structure Nice(L:List (Int × Int)):Prop where
 two:L.length<=2
 nz:∀p∈L,p.2≠0
 up:L.Pairwise fun p q=>p.1<q.1
theorem ai8{r:Option (List (Int × Int))}(n:Nice L)(t:Tof (cQ L) r):r=some L:=by
 match L,n with
 |[],n =>
  have e:cQ []=dI:=rfl;rw[e]at t;cases t with
  |zero h=>rfl
  |ahv h _ _=>exact mI rfl h
  |one h _ _=>exact mI rfl h
  |ahw h _ _=>exact mI rfl h
  |two h _ _ _ _ _ _=>exact mI rfl h
 |[(x,m)],n =>
  have hm:m≠0:=n.nz (x,m) cJ;have ea:(cQ [(x,m)]).a=m:=kY _;have eb:(cQ [(x,m)]).b=m*x:=kY _;have ec:(cQ [(x,m)]).c=m*x*x:=kY _;have hb:=OFF.an8 ea eb ec;have nz:cQ [(x,m)]≠dI:=fun z=>hm (by rw[<-ea,z];rfl);cases t with
  |zero h=>exact mI h nz
  |ahv _ _ ha=>exact mI (by rwa[<-ea]) hm
  |one _ _ _=>rw[OFF.an9 hm ea eb,ea]
  |ahw _ h _=>exact mI hb h
  |two _ h _ _ _ _ _=>exact mI hb h
 |[(x,m),(y,k)],n =>
  have hm:m≠0:=n.nz (x,m) cJ;have hk:k≠0:=n.nz (y,k) (cV _ cJ);have hxy:x<y:=by
   have:=n.up;rw[gC]at this;exact this.1 (y,k) cJ
  have ea:(cQ [(x,m),(y,k)]).a=m+k:=by show 0+m+k=_;lia
  have eb:(cQ [(x,m),(y,k)]).b=m*x+k*y:=by show 0+m*x+k*y=_;rw[kY]
  have ec:(cQ [(x,m),(y,k)]).c=m*x*x+k*y*y:=by show 0+m*x*x+k*y*y=_;rw[kY]
  have ed:(cQ [(x,m),(y,k)]).d=m*x*x*x+k*y*y*y:=by show 0+m*x*x*x+k*y*y*y=_;rw[kY]
  have hb:=OFF.zP hm hk hxy ea eb ec;have e1:mR (cQ [(x,m),(y,k)])=x+y:=OFF.aoa hm hk hxy ea eb ec ed;have e2:aaT (cQ [(x,m),(y,k)])=x*y:=OFF.aix hm hk hxy ea eb ec ed;have e3:fO (cQ [(x,m),(y,k)])=(y-x)*(y-x):=by
   unfold fO;rw[e1,e2,OFF.afE]
  have pos:1<=(y-x)*(y-x):=by
   have:=yR (show 1<=y-x by lia) (show 1<=y-x by lia) tb_g% tb_g%;lia
  cases t with
  |zero h=>exact mI (by rw[h];rfl) hb
  |ahv _ h _=>exact mI h hb
  |one _ h _=>exact mI h hb
  |ahw _ _ h=>rw[e3]at h;lia
  |two _ _ _ d d1 h1 h2 =>
   rw[e3]at h1 h2;have ed':d=y-x:=OFF.aob d1 tb_g% h1 h2;subst ed';rw[e1,OFF.aqp,OFF.aoc hxy ea eb,ea];congr 3
   ·congr 1;lia
   ·congr 2;lia
 |_::_::_::_,n=>exact mI n.two (by simp)
noncomputable def au4(A:Ad):Sp:=fun vs H Q _=>Ex2 fun x th=>ou (vs=[.ref x.k,.int th]) (Kp A H x) (∀t H',H' t=some (.tup [.int (low x.cm.c th-(low x.wn.c th+x.wn.l)),.int (low x.cm.c th+x.cm.l-low x.wn.c th)])->Same H H'->Q (.ref t) H')
theorem Ot(T:Tx K mg A):FnM P w mg base T.qC CX0 3 (au4 A):=by
 k_dat (T.qC,T.qC.ok,xu) "f"
 ·obtain⟨x,th,rfl,hK,q⟩:=h;show#[_,by k_dat ([],[xu.nd,aU ?_ T.qj (oA T) ?_,aU ?_ T.qj (uN T) ?_],[]) "p",?_];show#[_,rfl,rdG hK.o (Bl T) #[x.cm.p,x.cm.dx,_,rfl,hK.cm.o,xM _ _ _ _ tb_g% tb_g% tb_g% tb_g%,_,rfl,x.cm.p,x.cm.dx,x.cm.d,x.room,x.cm.t,x.cm.l,th,x.cm.c,rfl,hK.cm.o,hK.cm.d,?_]];show#[_,rfl,rdG hK.o (Iw T) #[x.wn.p,x.wn.dx,_,rfl,hK.wn.o,xM _ _ _ _ tb_g% tb_g% tb_g% tb_g%,_,rfl,x.wn.p,x.wn.dx,x.wn.d,x.room,x.wn.t,x.wn.l,th,x.wn.c,rfl,hK.wn.o,hK.wn.d,?_]];show#[_,_,rfl,rfl,_,rfl,?_];show#[_,rfl,rdG hK.o (Bl T) #[x.cm.p,x.cm.dx,_,rfl,hK.cm.o,xM _ _ _ _ tb_g% tb_g% tb_g% tb_g%,_,rfl,x.cm.p,x.cm.dx,x.cm.d,x.room,x.cm.t,x.cm.l,th,x.cm.c,rfl,hK.cm.o,hK.cm.d,?_]];show#[_,rfl,rdG hK.o (Iw T) #[x.wn.p,x.wn.dx,_,rfl,hK.wn.o,xM _ _ _ _ tb_g% tb_g% tb_g% tb_g%,_,rfl,x.wn.p,x.wn.dx,x.wn.d,x.room,x.wn.t,x.wn.l,th,x.wn.c,rfl,hK.wn.o,hK.wn.d,?_]];show#[_,_,rfl,rfl,tb_g%,fun t ht=>q t _ aj (Same.new ht)]
noncomputable def ai9(A:Ad):Sp:=fun vs H Q _=>Ex2 fun x th=>Oh (vs=[.ref x.k,.int th]) (Kp A H x) (x.up.x.ls.length<=60) ((∀l∈x.up.x.ls,l.length<=64)) (x.dn.x.ls.length<=60) ((∀l∈x.dn.x.ls,l.length<=64)) (∀t H',H' t=some (.tup [.int (max ((RG.nr th x.up.x.ls:Nat)-x.up.x.ov) 0-min ((RG.nr th x.dn.x.ls:Nat)+x.dn.x.un) x.dn.x.tt),.int (min ((RG.nr th x.up.x.ls:Nat)+x.up.x.un) x.up.x.tt-max ((RG.nr th x.dn.x.ls:Nat)-x.dn.x.ov) 0)])->Same H H'->Q (.ref t) H')
theorem FW(T:Tx K mg A):FnM P w mg base T.kj CX0 3 (ai9 A):=by
 k_dat (T.kj,T.kj.ok,qM) "f"
 ·obtain⟨x,th,rfl,hK,l1,l2,l3,l4,q⟩:=h;show#[_,by k_dat ([],[qM.nd,aU ?_ T.gH (V7 T) ?_],[]) "p",?_];show#[_,rfl,rdG hK.o (acD T) #[x.up.p,x.up.x.dx,_,rfl,hK.up.o,rgN tb_g%,_,rfl,x.up.p,x.up.x.dx,x.up.x.a,x.up.x.bs,x.up.x.r,x.up.x.tt,x.up.x.ov,x.up.x.un,x.up.x.tn,th,x.up.x.mi,x.up.x.ma,x.up.x.ls,rfl,hK.up,by lia,fun l hl=>by have:=l2 l hl;lia,fun t1 H1 _ ht1 s1=>?_]]
  k_dat lqg "c"
  have K1:=hK.same s1;show#[_,rfl,rdG K1.o (Px T) #[x.dn.p,x.dn.x.dx,_,rfl,K1.dn.o,rgN tb_g%,_,rfl,x.dn.p,x.dn.x.dx,x.dn.x.a,x.dn.x.bs,x.dn.x.r,x.dn.x.tt,x.dn.x.ov,x.dn.x.un,x.dn.x.tn,th,x.dn.x.mi,x.dn.x.ma,x.dn.x.ls,rfl,K1.dn,by lia,fun l hl=>by have:=l4 l hl;lia,fun t2 H2 _ ht2 s2=>?_]];have ht1':=s2 _ _ ht1;show#[_,rfl,bY (.inl (.inl ht1')) (v:=.int _) rfl #[_,rfl,bY (.inl (.inl ht2)) (v:=.int _) rfl #[_,_,rfl,rfl,?_]]];show#[_,rfl,bY (.inl (.inl ht1')) (v:=.int _) rfl #[_,rfl,bY (.inl (.inl ht2)) (v:=.int _) rfl #[_,_,rfl,rfl,?_]]];show#[tb_g%,fun t ht=>q t _ aj (s1.trans (s2.trans (Same.new ht)))]
noncomputable def ao4(A:Ad):Sp:=fun vs H Q _=>Ex3 fun x a b=>ou (vs=[.ref x.k,.int a,.int b]) (Kp A H x) (ahu A [.ref x.cm.p,.int a,.int b] H Q E0)
theorem IW(T:Tx K mg A):FnM P w mg base T.lQ CX0 4 (ao4 A):=by
 k_dat (T.lQ,T.lQ.ok,HW) "f"
 ·obtain⟨x,a,b,rfl,hK,q⟩:=h;show#[_,by k_dat ([],[aU ?_ T.qj (IV T) ?_],[]) "p",?_];show#[_,rfl,rdG hK.o (Bl T) #[x.cm.p,x.cm.dx,_,rfl,hK.cm.o,xM _ _ _ _ tb_g% tb_g% tb_g% tb_g%,_,rfl,_,rfl,q]]
noncomputable def aq4(A:Ad):Sp:=fun vs H Q _=>Ex2 fun x a=>ou (vs=[.ref x.k,.int a]) (Kp A H x) (arQ A [.ref x.up.p,.int a] H Q E0)
theorem Bu(T:Tx K mg A):FnM P w mg base T.jy CX0 3 (aq4 A):=by
 k_dat (T.jy,T.jy.ok,Bt) "f"
 ·obtain⟨x,a,rfl,hK,q⟩:=h;show#[_,by k_dat ([],[aU ?_ T.gH (Lk T) ?_],[]) "p",?_];show#[_,rfl,rdG hK.o (acD T) #[x.up.p,x.up.x.dx,_,rfl,hK.up.o,rgN tb_g%,_,rfl,q]]
noncomputable def aq5(A:Ad):Sp:=fun vs H Q _=>Ex2 fun x a=>ou (vs=[.ref x.k,.int a]) (Kp A H x) (aoZ A [.ref x.wi.p,.int a] H Q E0)
theorem Lr(T:Tx K mg A):FnM P w mg base T.nZ CX0 2 (aq5 A):=by
 k_dat (T.nZ,T.nZ.ok,Lg) "f"
 ·obtain⟨x,a,rfl,hK,q⟩:=h;show#[_,by k_dat ([],[aU ?_ T.vY (Ux T) ?_],[]) "p",?_];show#[_,rfl,rdG hK.o (oM T) #[x.wi.p,x.wi.dx,_,rfl,hK.wi.o,wfN tb_g%,_,rfl,q]]
noncomputable def aq6(A:Ad):Sp:=fun vs H Q _=>∃x,ou (vs=[.ref x.k]) (Kp A H x) (acO A [.ref x.di.p] H Q E0)
theorem Ah(T:Tx K mg A):FnM P w mg base T.dZ CX0 3 (aq6 A):=by
 k_dat (T.dZ,T.dZ.ok,zY) "f"
 ·obtain⟨x,rfl,hK,q⟩:=h;show#[_,by k_dat ([],[zu ?_ T.xY T.fL.m (FT T).2 tb_g% T.fL.b .nil Gu],[]) "p",?_];show#[_,rfl,rdG hK.o (Py T) #[x.di.p,x.di.dx,_,rfl,hK.di.o,dfN tb_g%,q]]
noncomputable def au5(A:Ad):Sp:=fun vs H Q _=>∃x,ou (vs=[.ref x.k]) (Kp A H x) (arS A [.ref x.ba.p] H Q E0)
theorem Ou(T:Tx K mg A):FnM P w mg base T.iz CX0 5 (au5 A):=by
 k_dat (T.iz,T.iz.ok,Og) "f"
 ·obtain⟨x,rfl,hK,q⟩:=h;show#[_,by k_dat ([],[zu ?_ T.VH T.jh.m (Uz T).2 tb_g% T.jh.b .nil Gu],[]) "p",?_];show#[_,rfl,rdG hK.o (qT T) #[x.ba.p,x.ba.dx,_,rfl,hK.ba.o,bfN tb_g%,q]]
theorem UG{q p:Q4}(ha:q.a=p.a)(hb:q.b=p.b)(hc:q.c=p.c)(hd:q.d=p.d):q=p:=by
 obtain⟨a,b,c,d⟩:=q;obtain⟨a',b',c',d'⟩:=p;cases ha;cases hb;cases hc;cases hd;rfl
theorem iC(q p r:Q4):addQ (addQ q p) r=addQ q (addQ p r):=UG (DW ..) (DW ..) (DW ..) (DW ..)
theorem iJ(q p:Q4):addQ q p=addQ p q:=UG (JM ..) (JM ..) (JM ..) (JM ..)
theorem gj(q:Q4):addQ q dI=q:=UG (jL _) (jL _) (jL _) (jL _)
theorem fold_shift:∀L q,L.foldl (fun q p=>addQ q (pwQ p.1 p.2)) q=addQ q (cQ L)
 |[],q=>(gj q).symm
 |p::r,q=>by
  unfold cQ;rw[XD,XD,fold_shift r,fold_shift r (addQ dI _),iJ dI,gj,iC]
theorem cU(p:Int × Int)(L:List (Int × Int)):cQ (p::L)=addQ (pwQ p.1 p.2) (cQ L):=by
 have:=fold_shift L (addQ dI (pwQ p.1 p.2));rw[iJ dI,gj]at this;unfold cQ;rwa[XD,iJ dI,gj]
noncomputable def arT(L:List Int):Q4:=cQ (L.map fun t=>(t,1))
noncomputable def cL(n:Nat):List Int:=(jG n).map fun i:Nat=>(i:Int)
theorem M9:∀n:Nat,arT (cL n)=Lq n
 |0=>rfl
 |n+1=>by
  have ih:=M9 n;unfold arT cL at ih ⊢;rw[adl,bM,bM];show cQ (_++[((n:Int),(1:Int))])=_;rw[Bm,ih];refine UG ?_ ?_ ?_ ?_
  ·show(n:Int)+1=((n+1:Nat):Int);lia
  ·show(n:Int)*(n-1) / 2+1*n=((n+1:Nat):Int)*(((n+1:Nat):Int)-1) / 2;rw[show((n+1:Nat):Int)=(n:Int)+1 by lia,due1];lia
  ·show(n:Int)*(n-1)*(2*n-1) / 6+1*n*n=((n+1:Nat):Int)*(((n+1:Nat):Int)-1)*(2*((n+1:Nat):Int)-1) / 6;rw[show((n+1:Nat):Int)=(n:Int)+1 by lia,due2,rY]
  ·show(n:Int)*(n-1) / 2*(n*(n-1) / 2)+1*n*n*n=((n+1:Nat):Int)*(((n+1:Nat):Int)-1) / 2*(((n+1:Nat):Int)*(((n+1:Nat):Int)-1) / 2);rw[show((n+1:Nat):Int)=(n:Int)+1 by lia,due3,rY]
theorem pw_zero(t:Int):pwQ t 0=dI:=by
 unfold pwQ dI;rw[Y4,Y4,Y4]
theorem FZ{a b:Int}(ha:a.natAbs<=x)(hb:b.natAbs<=y):(a*b).natAbs<=x*y:=by
 rw[aem];exact ad1 ha hb
theorem UJ:∀{c:Tab},(∀p∈c,p.2.natAbs<=2 ^ 60/\0<=p.1/\p.1<2 ^ 31) ->
  (cQ c).a.natAbs<=c.length*2 ^ 60/\(cQ c).b.natAbs<=c.length*2 ^ 91/\(cQ c).c.natAbs<=c.length*2 ^ 122/\(cQ c).d.natAbs<=c.length*2 ^ 153
 |[],_=>by decide
 |p::r,h=>by
  obtain⟨i1,i2,i3,i4⟩:=UJ (c:=r) fun q hq=>h q (cV _ hq);obtain⟨b0,b1,b2⟩:=h p cJ;have bt:p.1.natAbs<=2 ^ 31:=by lia
  have w1:=FZ b0 bt;have w2:=FZ w1 bt;have w3:=FZ w2 bt;rw[cU,fu];have e1:(addQ (pwQ p.1 p.2) (cQ r)).a=p.2+(cQ r).a:=rfl;have e2:(addQ (pwQ p.1 p.2) (cQ r)).b=p.2*p.1+(cQ r).b:=rfl;have e3:(addQ (pwQ p.1 p.2) (cQ r)).c=p.2*p.1*p.1+(cQ r).c:=rfl;have e4:(addQ (pwQ p.1 p.2) (cQ r)).d=p.2*p.1*p.1*p.1+(cQ r).d:=rfl;rw[e1,e2,e3,e4];show#[?_,?_,?_,?_]
  ·have:=YX p.2 (cQ r).a;lia
  ·have:=YX (p.2*p.1) (cQ r).b;lia
  ·have:=YX (p.2*p.1*p.1) (cQ r).c;lia
  ·have:=YX (p.2*p.1*p.1*p.1) (cQ r).d;lia
noncomputable def prw(k:Int)(rs:List R3):Tab:=(rs.filter fun r=>decide (r.kd=k)).map fun r=>(r.th,r.w)
noncomputable def brw(s:Int)(rs:List R3):Tab:=(rs.filter fun r=>decide (r.kd<2/\r.th<s)).map fun r=>(r.th,r.w*(1-2*r.kd))
noncomputable def ar(r:R3):WN.Ar:=if r.kd=0 then(1,r.w)else if r.kd=1 then(1,0)else(r.w,0)
noncomputable abbrev ars(rs:List R3):List WN.Ar:=rs.map ar
theorem iD(k:Int)(rs ss:List R3):prw k (rs++ss)=prw k rs++prw k ss:=by unfold prw;rw[iM,bM]
theorem ahx(k:Int)(r:R3):prw k [r]=if r.kd=k then[(r.th,r.w)]else[]:=by
 unfold prw;by_cases h:r.kd=k <;> simp[h]
theorem Ga(s:Int)(rs ss:List R3):brw s (rs++ss)=brw s rs++brw s ss:=by unfold brw;rw[iM,bM]
theorem ahy(s:Int)(r:R3):brw s [r]=if r.kd<2/\r.th<s then[(r.th,r.w*(1-2*r.kd))]else[]:=by
 unfold brw;by_cases h:r.kd<2/\r.th<s <;> simp[h]
theorem ahz(k:Int)(rs:List R3):(prw k rs).length<=rs.length:=by unfold prw;rw[aC];exact iV _ _
theorem aaW(s:Int)(rs:List R3):(brw s rs).length<=rs.length:=by unfold brw;rw[aC];exact iV _ _
theorem ao5(c d e:Tab):aV c (d++e)=aV (aV c d) e:=Xy
theorem Pz:∀d c k,MG.low (aV c d) k=MG.low c k+MG.low (aV [] d) k
 |[],c,k=>(jL _).symm
 |p::d,c,k=>by
  rw[iG,iG,Pz d,Pz d (MG.put [] _ _),vL,vL,oF,oF];split
  ·rename_i z;rw[z];lia
  ·lia
theorem UL(p:Int × Int)(d:Tab)(t:Int):MG.low (aV [] (p::d)) t=(if p.1=t then p.2 else 0)+MG.low (aV [] d) t:=by
 rw[iG,Pz d,vL,oF,oF,kY];by_cases e:t=p.1
 ·rw[mB e,mB e.symm]
 ·rw[mw e,mw (aG e)]
theorem ao6(y:Int)(f g:Int->Int):∀L:List Int,RG.tw y (L.map fun t=>(t,f t+g t))=RG.tw y (L.map fun t=>(t,f t))+RG.tw y (L.map fun t=>(t,g t))
 |[]=>rfl
 |t::L=>by
  show(if t<=y then f t+g t else 0)+RG.tw y (L.map fun t=>(t,f t+g t))=(if t<=y then f t else 0)+_+((if t<=y then g t else 0)+_);rw[ao6 y f g L];split <;> lia
theorem ao7:∀{L:List Int},L.Nodup->RG.tw y (L.map fun t=>(t,if p=t then v else 0))=if p∈L/\p<=y then v else 0
 |[],_=>by rw[mw (fun z=>nomatch z.1)];rfl
 |t::L,h=>by
  obtain⟨h1,h2⟩:=iW.mp h;show(if t<=y then(if p=t then v else 0)else 0)+RG.tw y (L.map fun t=>(t,if p=t then v else 0))=_;rw[ao7 h2];by_cases e:p=t
  ·subst e;by_cases g:p<=y <;> simp[h1,g]
  ·by_cases g:p<=y <;> simp[e,g]
theorem ao8{L:List Int}(nd:L.Nodup):∀{d:Tab},(∀p∈d,p.1∈L)->RG.tw y (L.map fun t=>(t,MG.low (aV [] d) t))=RG.tw y d
 |[],_=>by
  have:=ao7 (y:=y) (p:=0) (v:=0) nd;simp only[ite_self]at this;exact this
 |p::d,h=>by
  have e:(fun t=>(t,MG.low (aV [] (p::d)) t))=fun t=>(t,(if p.1=t then p.2 else 0)+MG.low (aV [] d) t):=by funext t;rw[UL]
  rw[e,ao6 y (fun t=>if p.1=t then p.2 else 0),ao7 nd,ao8 nd fun q m=>h q (cV _ m)];show _=(if p.1<=y then p.2 else 0)+_;by_cases g:p.1<=y <;> simp[h p cJ,g]
theorem ahA(x:Int):∀d:Tab,RG.tw x d=RG.tw (x-1) d+MG.low (aV [] d) x
 |[]=>rfl
 |p::d=>by
  show(if p.1<=x then p.2 else 0)+RG.tw x d=(if p.1<=x-1 then p.2 else 0)+RG.tw (x-1) d+_;rw[UL,ahA x d];split <;> split <;> split <;> lia
theorem Ai:∀L M:List (Int × Int),cQ (L++M)=addQ (cQ L) (cQ M)
 |[],M=>by
  show cQ M=addQ dI (cQ M);rw[iJ,gj]
 |p::L,M=>by rw[ajD,cU,cU,Ai L M,iC]
theorem aja{L M:List (Int × Int)}(h:L.Perm M):cQ L=cQ M:=by
 induction h with
 |nil=>rfl
 |cons x _ ih=>rw[cU,cU,ih]
 |swap x y l=>rw[cU,cU,cU,cU,<-iC,<-iC,iJ (pwQ y.1 y.2)]
 |trans _ _ a b=>exact a.trans b
theorem UW(f g:Int->Int):∀L:List Int,cQ (L.map fun t=>(t,f t+g t))=addQ (cQ (L.map fun t=>(t,f t))) (cQ (L.map fun t=>(t,g t)))
 |[]=>(gj dI).symm
 |t::L=>by
  rw[cX,cX,cX,cU,cU,cU,UW f g L,show pwQ t (f t+g t)=addQ (pwQ t (f t)) (pwQ t (g t))from UG rfl (mX ..) (by show(f t+g t)*t*t=f t*t*t+g t*t*t;rw[mX,mX]) (by show(f t+g t)*t*t*t=f t*t*t*t+g t*t*t*t;rw[mX,mX,mX]),iC,iC,<-iC (pwQ t (g t)),iJ (pwQ t (g t)) (cQ _),iC]
theorem Nb(n:Nat):cL (n+1)=cL n++[(n:Int)]:=by unfold cL;rw[adl,bM];rfl
theorem Lw{f:Int->Int}:∀{L:List Int},(∀t∈L,f t=0)->cQ (L.map fun t=>(t,f t))=dI
 |[],_=>rfl
 |t::L,h=>by rw[cX,cU,h t cJ,pw_zero,Lw fun z m=>h z (cV _ m),gj]
theorem U0:t∈cL n↔0<=t/\t<n:=by
 unfold cL;rw[dU];show#[fun⟨i,mi,e⟩=>by have:=CQ.mp mi;lia,fun h=>#[t.toNat,CQ.mpr tb_g%,by lia]]
theorem ahB{k v:Int}:∀{n:Nat},0<=k->k<n->cQ ((cL n).map fun t=>(t,if k=t then v else 0))=pwQ k v
 |0,a,b=>mI b tb_g%
 |n+1,a,b=>by
  rw[Nb,bM,Ai,cX,Qd,cU];show addQ _ (addQ _ dI)=_;rw[gj];by_cases e:k=n
  ·rw[Lw fun t m=>mw (by have:=U0.mp m;lia),iJ,gj,mB e,e]
  ·rw[mw e,pw_zero,gj];exact ahB a tb_g%
theorem acS{n:Nat}:∀{d:Tab},(∀p∈d,0<=p.1/\p.1<n)->cQ ((cL n).map fun t=>(t,MG.low (aV [] d) t))=cQ d
 |[],_=>Lw fun t _=>oF t
 |p::d,g=>by
  have e:(fun t=>(t,MG.low (aV [] (p::d)) t))=fun t=>(t,(if p.1=t then p.2 else 0)+MG.low (aV [] d) t):=by funext t;rw[UL]
  rw[e,UW (fun t=>if p.1=t then p.2 else 0),ahB (g p cJ).1 (g p cJ).2,acS fun q m=>g q (cV _ m),cU]
structure Fk(room:Nat)(f:Fq)(d:Tab):Prop where
 ok:Ok room f.c f.t f.l (MG.low (aV [] d))
 t:f.t=(vals d).sum
structure Uk(f:Rs)(d:Tab):Prop where
 rk:RG.Rk f.tt f.ov f.un f.ls d
 t:f.tt=(vals d).sum
 me:∀l∈f.ls,∀z∈l,z∈keys d
structure Wk(room:Nat)(reach:Int)(f:Wi)(as:List WN.Ar):Prop where
 i:WN.Inv room reach f.c (WN.rows as) (bx f.ps)
 c:f.c=WN.clock as
structure Dk(f:Di)(d:Tab):Prop where
 nd:f.C.Nodup
 m:∀z,z∈f.C↔z∈keys d
 n:(f.C.length:Int)<=f.n
theorem Xr(d:Tab)(p:Int × Int):(vals (d++[p])).sum=(vals d).sum+p.2:=by unfold vals;rw[bM,rK];simp
theorem uO(d e:Tab):keys (d++e)=keys d++keys e:=bM
theorem Fk.add{th w:Int}(h:Fk room f d)(s:FS room th w f g)(w1:1<=w):Fk room g (d++[(th,w)]):=by
 obtain⟨cut,a,b,c⟩:=s;show#[?_,by rw[b,h.t,Xr]];have e:MG.low (aV [] (d++[(th,w)]))=fun j=>if j=th then MG.low (aV [] d) j+w else MG.low (aV [] d) j:=by
  funext j
  rw[Aw,vL];split
  ·rename_i z;rw[z]
  ·rfl
 rw[b,c,e];exact(h.ok.add w1).fit a
theorem Fk.xX(h:Fk room f d)(h':Fk room g e)(s:FP room f g k):Fk room k (d++e):=by
 obtain⟨cut,a,b,c⟩:=s;show#[?_,by rw[b,h.t,h'.t];unfold vals;rw[bM,rK]];have e':MG.low (aV [] (d++e))=fun j=>MG.low (aV [] d) j+MG.low (aV [] e) j:=by funext j;rw[ao5,Pz e]
 rw[b,c,e'];exact(h.ok.xX h'.ok).fit a
theorem Uk.add{th w:Int}(h:Uk f d)(sd:∀l∈f.ls,RG.Sd l)(s:RS th w f g)(w1:1<=w):Uk g (d++[(th,w)]):=by
 show#[?_,by rw[s.tt,h.t,Xr],s.st.mem (RG.ain th (by rw[uO];exact wK _ cJ) _ _ fun l m z mz=>by rw[uO];exact Xw _ (h.me l m z mz))];rw[s.tt];exact h.rk.add tb_g% sd s.st
theorem Uk.xX(h:Uk f d)(h':Uk g e)(s:RP f g k):Uk k (d++e):=by
 show#[?_,by rw[s.tt,h.t,h'.t];unfold vals;rw[bM,rK],s.st.mem (RG.anE (fun l m z mz=>by rw[uO];exact Xw _ (h.me l m z mz)) fun l m z mz=>by rw[uO];exact wK _ (h'.me l m z mz))];rw[s.tt];exact h.rk.xX h'.rk s.st fun x=>RG.uy x _ _
theorem Wk.add{reach w:Int}(h:Wk room reach f as)(s:WS room reach (f.c+1) (bx f.ps++[#[f.c+1,f.c+1,w]]) g)(w1:1<=w):Wk room reach g (as++[(1,w)]):=by
 show#[?_,by rw[s.1,h.c,WN.jZ,WN.Bg]];rw[s.1,s.2,WN.abT as tb_g%,<-h.c];exact h.i.add tb_g% w1
theorem Wk.idle(h:Wk room reach f as)(k0:0<=reach)(s:WS room reach (f.c+v) (bx f.ps) g)(v0:0<=v):Wk room reach g (as++[(v,0)]):=by
 show#[?_,by rw[s.1,h.c,WN.jZ,WN.Bg]];rw[s.1,s.2,WN.Kv];exact h.i.idle tb_g% k0 v0
theorem Wk.xX(h:Wk room reach f as)(h':Wk room reach g bs)(k1:1<=reach)(s:WP room reach f g k):Wk room reach k (as++bs):=by
 show#[?_,by rw[s.1,h.c,h'.c,WN.jZ]];rw[s.1,s.2,WN.zO,<-h.c];exact h.i.follow h'.i tb_g% k1
theorem Dk.add{th w:Int}(h:Dk f d)(s:DS room th f g):Dk g (d++[(th,w)]):=by
 obtain⟨a,b,_⟩:=s;show#[by rw[b];exact aqV h.nd,fun z=>?_,?_]
 ·rw[b,aoS,h.m z,uO,bO];exact or_congr Iff.rfl #[fun e=>by rw[e];exact cJ,fun m=>cC.mp m]
 ·have:=(acB f.C th).2;have:=h.n;rw[a,b];lia
theorem Dk.xX(h:Dk f d)(h':Dk g e)(s:DP room f g k):Dk k (d++e):=by
 obtain⟨a,b,_⟩:=s;show#[by rw[b];exact arP _ _,fun z=>by rw[b,aaR,h.m z,h'.m z,uO,bO],?_];have:=aoP f.C g.C;have:=h.n;have:=h'.n;rw[a,b];lia
structure Tru(x:KS)(rs:List R3):Prop where
 kh:Kh x rs.length
 c1:1<=x.reach/\x.reach<=1000000000
 s1:1<=x.span/\x.span<=1000000000
 ok:∀r∈rs,r.ok
 cm:Fk x.room x.cm (prw 0 rs)
 wn:Fk x.room x.wn (prw 1 rs)
 up:Uk x.up.x (prw 0 rs)
 dn:Uk x.dn.x (prw 1 rs)
 wi:Wk x.room x.reach x.wi (ars rs)
 di:Dk x.di (prw 0 rs)
 ba:x.ba.q=cQ (brw x.span rs)
theorem Tru.new(e:Eqp x (K0 room reach span))(r2:2<=room)(r64:room<=64)(ev:room % 2=0)(rr:room<=15\/room=64)(c1:1<=reach/\reach<=1000000000)(s1:1<=span/\span<=1000000000):Tru x []:=by
 have fk:∀{f:Fq},EF f ⟨0,0,0,0,0,[]⟩->Fk x.room f []:=fun {f} e=>⟨by rw[e.c,e.t,e.l];exact Ok.empty _,e.t⟩;have uk:∀{f:Rs},ER f (R0 room)->Uk f []:=fun {f} e=>⟨by rw[e.tt,e.ov,e.un,e.ls];exact RG.Rk.new,e.tt,by rw[e.ls];exact fun _ m=>nomatch m⟩;have ec:x.di.C=[]:=e.di.C;refine⟨(kh0 reach span r2 r64 ev rr).eq e,by rwa[e.reach],by rwa[e.span],(fun _ m=>nomatch m),fk e.cm,fk e.wn,uk e.up,uk e.dn,⟨?_,e.wi.c⟩,⟨by rw[ec];exact .nil,fun z=>by rw[ec];exact Iff.rfl,by rw[ec,e.di.n];exact bR _⟩,e.ba⟩;rw[e.wi.c,e.wi.b];exact WN.Inv.init _ _
theorem Tru.row{r:R3}(h:Tru x rs)(hn:rs.length<63)(ok:r.ok)(s:SR r x x'):Tru x' (rs++[r]):=by
 have sb:=s.sb;have kh:Kh x' (rs++[r]).length:=by rw[dw];exact h.kh.row hn ok s
 have okA:∀z∈rs++[r],z.ok:=fun z m=>(bO.mp m).elim (h.ok z) fun m=>by rw[cC.mp m];exact ok
 have c0:0<=x.reach:=by have:=h.c1.1;lia
 have w1:=ok.w1;have p0:=iD 0 rs [r];have p1:=iD 1 rs [r];have pb:=Ga x.span rs [r];have pa:ars (rs++[r])=ars rs++[ar r]:=bM;rw[ahx]at p0 p1;rw[ahy]at pb;unfold ar at pa;unfold SR at s;by_cases k0:r.kd=0
 ·rw[mB k0]at s p0 pa;rw[mw tb_g%,gk]at p1;show#[kh,by rw[sb.reach];exact h.c1,by rw[sb.span];exact h.s1,okA,?_,?_,?_,?_,?_,?_,?_]
  ·rw[sb.room,p0];exact h.cm.add s.cm w1
  ·rw[sb.room,p1,s.wn];exact h.wn
  ·rw[p0];exact h.up.add h.kh.up.g.sd s.up w1
  ·rw[p1,s.dn];exact h.dn
  ·rw[sb.room,sb.reach,pa];exact h.wi.add s.wi w1
  ·rw[p0];exact h.di.add s.di
  ·rw[sb.span,s.ba,pb,h.ba];by_cases g:r.th<x.span
   ·rw[mB g,mB #[by lia,g],Bm,k0];show addQ _ (pwQ r.th r.w)=addQ _ (pwQ r.th (r.w*(1-2*0)));rw[show r.w*(1-2*0)=r.w by lia]
   ·rw[mw g,mw (fun z=>g z.2),gk]
 rw[mw k0]at s p0 pa;rw[gk]at p0;by_cases k1:r.kd=1
 ·rw[mB k1]at s p1 pa;show#[kh,by rw[sb.reach];exact h.c1,by rw[sb.span];exact h.s1,okA,?_,?_,?_,?_,?_,?_,?_]
  ·rw[sb.room,p0,s.cm];exact h.cm
  ·rw[sb.room,p1];exact h.wn.add s.wn w1
  ·rw[p0,s.up];exact h.up
  ·rw[p1];exact h.dn.add h.kh.dn.g.sd s.dn w1
  ·rw[sb.room,sb.reach,pa];exact h.wi.idle c0 s.wi tb_g%
  ·rw[p0,s.di];exact h.di
  ·rw[sb.span,s.ba,pb,h.ba];by_cases g:r.th<x.span
   ·rw[mB g,mB #[by lia,g],Bm,k1];show addQ _ (pwQ r.th (-r.w))=addQ _ (pwQ r.th (r.w*(1-2*1)));rw[show r.w*(1-2*1) = -r.w by lia]
   ·rw[mw g,mw (fun z=>g z.2),gk]
 ·rw[mw k1]at s p1 pa;rw[gk]at p1;have k2:=ok.k0;show#[kh,by rw[sb.reach];exact h.c1,by rw[sb.span];exact h.s1,okA,?_,?_,?_,?_,?_,?_,?_]
  ·rw[sb.room,p0,s.cm];exact h.cm
  ·rw[sb.room,p1,s.wn];exact h.wn
  ·rw[p0,s.up];exact h.up
  ·rw[p1,s.dn];exact h.dn
  ·rw[sb.room,sb.reach,pa];exact h.wi.idle c0 s.wi tb_g%
  ·rw[p0,s.di];exact h.di
  ·rw[sb.span,s.ba,pb,h.ba,mw (fun z=>by have:=z.1;lia),gk]
theorem Tru.alk(h:Tru x rs)(g:Tru y ss)(e:y.room=x.room/\y.reach=x.reach/\y.span=x.span)(few:rs.length+ss.length<=63):Alk x y rs.length ss.length:=#[e.1,e.2.1,e.2.2,h.kh,g.kh,few,h.di.nd,g.di.nd]
theorem Tru.xX(h:Tru x rs)(g:Tru y ss)(e:y.room=x.room/\y.reach=x.reach/\y.span=x.span)(few:rs.length+ss.length<=63)(s:KP x y z):Tru z (rs++ss):=by
 obtain⟨e1,e2,e3⟩:=e;have g1:=g.cm;have g2:=g.wn;have g3:=g.wi;have g4:=g.ba;rw[e1]at g1 g2 g3;rw[e2]at g3;rw[e3]at g4;show#[by rw[dw];exact s.kh (h.alk g #[e1,e2,e3] few),by rw[s.reach];exact h.c1,by rw[s.span];exact h.s1,fun r m=>(bO.mp m).elim (h.ok r) (g.ok r),?_,?_,?_,?_,?_,?_,?_]
 ·rw[s.room,iD];exact h.cm.xX g1 s.cm
 ·rw[s.room,iD];exact h.wn.xX g2 s.wn
 ·rw[iD];exact h.up.xX g.up s.up
 ·rw[iD];exact h.dn.xX g.dn s.dn
 ·rw[s.room,s.reach,show ars (rs++ss)=ars rs++ars ss from bM];exact h.wi.xX g3 h.c1.1 s.wi
 ·rw[iD];exact h.di.xX g.di s.di
 ·rw[s.span,s.ba,Ga,Ai,h.ba,g4]
noncomputable def aq7:Sp:=fun vs H Q _=>∃i:Int,vs=[.int i]/\Q (.bl true) H
theorem Gb(T:Tx K mg A):FnK P w base T.K4 CX0 1 aq7:=by
 k_dat (T.K4,T.K4.ok,af0) "f"
 ·obtain⟨i,rfl,q⟩:=h;show#[_,by k_dat ([atA],[bZ call_isinstance (by rfl) T.wD ad8 ?_],[O7 (v:=.ty "int") rfl T.n_int arY rfl,O7 (v:=.ty "bool") rfl T.auw arW rfl]) "p",?_];show#[_,rfl,am1 T.aiL #[_,rfl,Rr #[_,rfl,am1 T.afY #[_,rfl,q]]]]
noncomputable abbrev Rp:=Addr × R3
noncomputable abbrev rw3(ts:List Rp):List R3:=ts.map (·.2)
structure Rwt(H:Hp)(R:Addr)(ts:List Rp):Prop where
 o:H R=some (.lst (ts.map fun p=>V.ref p.1))
 t:∀p∈ts,H p.1=some (r3V p.2)
theorem Rwt.same(h:Rwt H R ts)(s:Same H H'):Rwt H' R ts:=#[s _ _ h.o,fun p m=>s _ _ (h.t p m)]
theorem ao9{ts:List Rp}{i:Nat}{y:V}(h:(ts.map fun p=>V.ref p.1)[i]? = some y):∃p,ts[i]? = some p/\y=V.ref p.1:=by
 rw[dG]at h;cases e:ts[i]? with
 |none=>rw[e]at h;cases h
 |some z=>rw[e]at h;show#[z,rfl,(cA h).symm]
theorem Ja{ts:List Rp}{i:Nat}{p:Rp}(h:ts[i]? = some p):rw3 (ts.take (i+1))=rw3 (ts.take i)++[p.2]:=by
 unfold rw3;rw[jE,h,bM];rfl
theorem iK(d:Tab):(aV [] d).length<=d.length:=by have:=uc d [];rw[ajG]at this;lia
noncomputable def spWts:Sp:=fun vs H Q _=>Ex3 fun R ts k=>oJ (vs=[.ref R,.int k]) (Rwt H R ts) (ts.length<=63) (∀d H',H' d=some (.dK (emb (aV [] (prw k (rw3 ts)))))->Same H H'->Q (.ref d) H')
theorem oK(T:Tx K mg A):FnK P w base T.zV CX0 1 spWts:=by
 k_dat (T.zV,T.zV.ok,HX) "f"
 ·obtain⟨R,ts,k,rfl,hR,few,q⟩:=h;show#[_,by k_dat ([zy,fK],[HX.nd,p8 tb_g% ?_ ?_ ?_ ⟨rfl,rfl,rfl,rfl⟩],[]) "p",?_]
  k_dat lq "c"
  intro d hd;show#[_,rfl,R,rfl,#[_,.inl (.inl ((Same.new hd) _ _ hR.o))],dR (K:=K) (a:=R) (xs:=ts.map fun p=>V.ref p.1) (fun i σ G=>∃(y:Option V),ou (σ=[some (.ref R),some (.int k),some (.ref d),y]) (G d=some (.dK (emb (aV [] (prw k (rw3 (ts.take i))))))) (Same H G)) #[none,rfl,aj,Same.new hd] (fun i σ G _ ⟨_,_,_,z⟩=>.inl (.inl (z _ _ hR.o))) ?_ ?_]
  ·rintro i v σ G hi ⟨y,rfl,f,sG⟩;obtain⟨p,hp,rfl⟩:=ao9 hi;have ht:=sG _ _ (hR.t p (mv hp));have ht:G p.1=some (.tup [.int p.2.kd,.int p.2.th,.int p.2.w]):=ht;have e:=iD k (rw3 (ts.take i)) [p.2];rw[<-Ja hp,ahx]at e;show#[_,rfl,bY (.inl (.inl ht)) (v:=.int p.2.kd) rfl #[_,rfl,rfl,_,rfl,cW (fun h=>?_) (fun h=>?_)]]
   ·rw[mB (V.int.inj (mP h))]at e;show#[_,rfl,d,rfl,.inl #[_,.inl f],_,rfl,bY (.inl (.inl ht)) (v:=.int p.2.th) rfl #[_,zH (.inl f),?_]];rw[vN];have hz:(emb (aV [] (prw k (rw3 (ts.take i))))).length<sizeLine:=by
     rw[jW];have:=iK (prw k (rw3 (ts.take i)));have:=ahz k (rw3 (ts.take i));rw[aC,dN]at this;exact aM tb_g%
    show#[_,rfl,bY (.inl (.inl ht)) (v:=.int p.2.w) rfl #[_,_,rfl,rfl,_,rfl,_,rfl,bY (.inl (.inl ht)) (v:=.int p.2.th) rfl (Kl f hz ?_)]];rw[zF,<-Aw [] (prw k (rw3 (ts.take i))) (p.2.th,p.2.w),<-e];show#[_,rfl,aj,fun b u z=>by rw[ao (ak z hd)];exact sG b u z]
   ·rw[mw (fun z=>h (mN (mM V.int z))),gk]at e;show#[_,rfl,by rwa[e],sG]
  ·rintro σ G ⟨y,rfl,f,sG⟩;rw[aC,gZ]at f;show#[_,rfl,q d G f sG]
noncomputable def au6:Sp:=fun vs H Q _=>Ex3 fun a d y=>oJ (vs=[.ref a,.int y]) (H a=some (.dK (emb (aV [] d)))) (d.length<=63) (∀H',Same H H'->Q (.int (RG.tw y d)) H')
theorem gJ(c:Tab):(keys c).length=c.length:=aC _
theorem apa{srt:List Int}(p:srt.Perm (keys (aV [] d)))(y:Int):((srt.filter fun k=>decide (k<=y)).map (MG.low (aV [] d))).sum=RG.tw y d:=by
 have nd:=p.nodup_iff.mpr (Ax d qY);rw[<-ao8 nd fun q m=>p.mem_iff.mpr ((ud d [] q.1).mpr (.inr (yh m)))];clear p nd
 induction srt with
 |nil=>rfl
 |cons t L ih =>
  show _=(if t<=y then _ else 0)+_;rw[<-ih];by_cases h:t<=y
  ·simp[h]
  ·simp[h]
theorem aaX(h:k∈keys c):sW (emb c) (Sum.inl k:Key)=some (.int (MG.low c k)):=by
 cases e:look c k with
 |none=>exact mI h ((je c k).mp e)
 |some v=>rw[am0 e];unfold MG.low;rw[e];rfl
theorem U3(T:Tx K mg A):FnK P w base T.K5 CX0 1 au6:=by
 k_dat (T.K5,T.K5.ok,af2) "f"
 ·obtain⟨a,d,y,rfl,ha,few,q⟩:=h;show#[_,by k_dat ([fK],[Ho T.fM ?_ ⟨rfl,rfl⟩ rfl,bZ (Kw rfl) (by rfl) T.acu aea ?_],[uh [("_law_weights_here",~~~s+1),("_law_thing",~~~s+1+1)] ["_law_one","_law_weights_here","_law_thing"] [0,1] (te:=(tOp (zA K) _ _)) ?_ (fun _ _ _ _=>(lU (gw agB (pv 0) (pv 2) (jU _)))) (fun _ _ _ _=>(gW (ixG tb_g%) (pv 1) (pv 0) (fun _ _=>rfl)))]) "p",?_];have hl:=iK d;show#[_,rfl,a,_,keys (aV [] d),rfl,.inl ha,uf _,(by rw[gJ];lia),fun z srt hz hperm RT=>?_];have ls:=hperm.length_eq;rw[gJ]at ls
  k_dat (nwA hz,H1,s1,f1) "n"
  show#[z,rfl,#[_,.inl (.inl f1)],fun D hD=>?_];refine iw (K:=K) (a:=z) (xs:=srt.map V.int) (fun i ys H2=>ys=(((srt.take i).filter fun k=>decide (k<=y)).map (MG.low (aV [] d))).map V.int/\H2=upd H1 D (.lst ys)) #[rfl,rfl] ?_ ?_ ?_ ?_ ?_
  ·rintro i ys H2 hi ⟨rfl,rfl⟩;show#[.inl (.inl ((Same.new hD) _ _ f1)),aj,aM ?_];have:((srt.take i).filter fun k=>decide (k<=y)).length<=(srt.take i).length:=iV _ _;rw[dN]at this;rw[aC,aC];lia
  ·rintro i ys H2 v hx ⟨rfl,rfl⟩;obtain⟨t,ht,rfl⟩:=int_at hx;have e:=aaS srt y i ht;show#[_,rfl,_,rfl,_,_,rfl,rfl,_,rfl,cW (fun hc=>?_) (fun hc=>?_)]
   ·have hc:t<=y:=mP hc;rw[mB hc]at e;show#[_,rfl,_,rfl,aby (.inl ((Same.new hD) _ _ (s1 _ _ ha))) (aaX (hperm.mem_iff.mp (mv ht))) #[aj,?_,by rw[cB]]];rw[e,bM,bM];rfl
   ·have hc:¬ t<=y:=fun z=>hc (mN z);rw[mw hc,gk]at e;show#[aj,by rw[e],rfl]
  ·rintro ys H2 ⟨rfl,rfl⟩;rw[aC,gZ];show#[D,_,rfl,.inl (.inl aj),?_];rw[apa hperm];exact q _ (s1.trans (Same.new hD))
  ·exact fun σ H R R' hr h=>dJ (gY (aP 0) (aP 2)) σ H R R' hr h
  ·exact jo (aP 1) (aP 0)
noncomputable def spLst:Sp:=fun vs H Q _=>Ex3 fun R ts m=>uF (vs=[.ref R,.int m]) (Rwt H R ts) (ts.length<=63) ((∀r∈rw3 ts,r.ok)) (Q (.int (WN.Tr (WN.rows (ars (rw3 ts))) (WN.clock (ars (rw3 ts))-m))) H)
theorem au7(a b:List WN.Rw)(e:Int):WN.Tr (a++b) e=WN.Tr a e+WN.Tr b e:=by unfold WN.Tr;rw[iM,WN.W7]
theorem au8{r:R3}(ok:r.ok)(e:Int):WN.Tr (WN.rows (as++[ar r])) e=WN.Tr (WN.rows as) e+if r.kd=0/\e<WN.clock (as++[ar r])then r.w else 0:=by
 rw[WN.jZ,WN.Bg];unfold ar;by_cases k:r.kd=0
 ·rw[mB k,WN.abT as (by have:=ok.w1;lia),au7];congr 1;show WN.wt (List.filter (fun r=>decide (e<r.1)) [(WN.clock as+1,r.w)])=if r.kd=0/\e<WN.clock as+1 then r.w else 0
  by_cases h:e<WN.clock as+1
  ·rw[mB #[k,h]];simp[WN.wt,h]
  ·rw[mw (fun z=>h z.2)];simp[WN.wt,h]
 ·rw[mw k];split
  ·rw[WN.Kv,mw (fun z=>k z.1),jL]
  ·rw[WN.Kv,mw (fun z=>k z.1),jL]
theorem ajb(T:Tx K mg A):FnK P w base T.Uc CX0 1 spLst:=by
 k_dat (T.Uc,T.Uc.ok,Bj) "f"
 ·obtain⟨R,ts,m,rfl,hR,few,ok,q⟩:=h;show#[_,by k_dat ([abh],[Bj.nd,tV rfl T.HJ ?_,amo (i:=2) Bj.nd rfl (Or.inl rfl) ?_ atF,amo (i:=3) Bj.nd rfl (Or.inl rfl) ?_ atG],[]) "p",?_];generalize ee:WN.clock (ars (rw3 ts))-m=e at q;show#[_,rfl,_,rfl,eX (.inl (.inl hR.o)) ?_];rw[aC];show#[_,rfl,by lia,by lia,Am (n:=ts.length) (fun i σ G=>Ex2 fun(y z:Option V)=>σ=[some (.ref R),some (.int m),some (.int (WN.Tr (WN.rows (ars (rw3 ts))) e-WN.Tr (WN.rows (ars (rw3 (ts.take (ts.length-i))))) e)),some (.int (WN.clock (ars (rw3 (ts.take (ts.length-i))))-e)),y,z]/\G=H) #[none,none,?_,rfl] ?_ ?_]
  ·rw[Nat.sub_zero,gZ,Int.sub_self,<-ee,show WN.clock (ars (rw3 ts))-(WN.clock (ars (rw3 ts))-m)=m by lia];rfl
  ·rintro i σ G hi ⟨y,z,rfl,rfl⟩;obtain⟨p,hp⟩:∃p,ts[ts.length-1-i]? = some p:=#[_,eU tb_g%];have ht:G p.1=some (.tup [.int p.2.kd,.int p.2.th,.int p.2.w]):=hR.t p (mv hp);have okp:=ok p.2 (yh (mv hp));have tk:=Ja hp;rw[show ts.length-1-i+1=ts.length-i by lia,show ts.length-1-i=ts.length-(i+1) by lia]at tk;have ea:ars (rw3 (ts.take (ts.length-i)))=ars (rw3 (ts.take (ts.length-(i+1))))++[ar p.2]:=by rw[tk];exact bM
   have tr:=au8 (as:=ars (rw3 (ts.take (ts.length-(i+1))))) okp e;rw[<-ea]at tr;have cl:=WN.jZ (ars (rw3 (ts.take (ts.length-(i+1))))) [ar p.2];rw[<-ea,WN.Bg]at cl;generalize WN.Tr (WN.rows (ars (rw3 (ts.take (ts.length-(i+1)))))) e=t2 at tr ⊢;generalize WN.Tr (WN.rows (ars (rw3 (ts.take (ts.length-i))))) e=t1 at tr ⊢;generalize WN.clock (ars (rw3 (ts.take (ts.length-(i+1)))))=c2 at cl ⊢;generalize WN.clock (ars (rw3 (ts.take (ts.length-i))))=c1 at cl tr ⊢;have ix:atI (ts.map fun p=>V.ref p.1) ((ts.length:Int)-1-(0+(i:Int)))=some (.ref p.1):=by
    rw[show(ts.length:Int)-1-(0+(i:Int))=((ts.length-1-i:Nat):Int) by lia];exact Gp (by rw[dG,hp];rfl)
   have k2:=okp.k2;have k0:=okp.k0;have arE:(ar p.2).1=if p.2.kd=2 then p.2.w else 1:=by
    unfold ar;by_cases a:p.2.kd=0
    ·rw[mB a,mw tb_g%]
    ·by_cases b:p.2.kd=1
     ·rw[mw a,mB b,mw tb_g%]
     ·rw[mw a,mw b,mB tb_g%]
   refine sq fun R1 hR1=>?_;show#[_,rfl,_,rfl,eX (.inl (.inl hR.o)) ?_];rw[aC];show#[_,_,rfl,rfl,_,rfl,_,_,rfl,rfl,dj (.inl (.inl hR.o)) (v:=.ref p.1) ix (hR1 _ _ (sq fun R2 hR2=>?_))]
   k_dat ld "c"
   have fin:∀told:Int,told=WN.Tr (WN.rows (ars (rw3 ts))) e-t2->R2 [some (.ref R),some (.int m),some (.int told),some (.int (c1-e)),some (.int (0+(i:Int))),some (.ref p.1)] G:=fun told et=>by
    refine hR2 _ _ ?_;show#[_,rfl,_,rfl,bY (.inl (.inl ht)) (v:=.int p.2.kd) rfl #[rfl,_,rfl,cW (fun h=>?_) (fun h=>?_)]]
    ·rw[mB (V.int.inj (mP h))]at arE;show#[_,rfl,bY (.inl (.inl ht)) (v:=.int p.2.w) rfl #[_,_,rfl,rfl,some (.int (0+(i:Int))),some (.ref p.1),?_,rfl]];rw[show c2-e=c1-e-p.2.w by lia,<-et];rfl
    ·rw[mw (fun z=>h (mN (mM V.int z)))]at arE;show#[_,_,rfl,rfl,some (.int (0+(i:Int))),some (.ref p.1),?_,rfl];rw[show c2-e=c1-e-1 by lia,<-et];rfl
   show#[_,rfl,_,_,rfl,rfl,_,rfl,cW (fun h=>?_) (fun h=>?_)]
   ·have h:0<c1-e:=mP h;show#[_,rfl,bY (.inl (.inl ht)) (v:=.int p.2.kd) rfl #[rfl,_,rfl,cW (fun g=>?_) (fun g=>?_)]]
    ·rw[mB #[V.int.inj (mP g),by lia]]at tr;show#[_,rfl,_,rfl,bY (.inl (.inl ht)) (v:=.int p.2.w) rfl #[_,_,rfl,rfl,fin _ (by show WN.Tr (WN.rows (ars (rw3 ts))) e-t1+p.2.w=_;lia)]]
    ·rw[mw (fun z=>g (mN (mM V.int z.1)))]at tr;exact fin _ tb_g%
   ·have h:¬ 0<c1-e:=fun z=>h (mN z);rw[mw (fun z=>h (by have:=z.2;lia))]at tr;exact fW (fin _ tb_g%)
  ·rintro σ G ⟨y,z,rfl,rfl⟩;show#[_,rfl,?_];rw[Qz,XF];rwa[show WN.Tr (WN.rows (ars (rw3 []))) e=0 from rfl,ala]
noncomputable def spBet:Sp:=fun vs H Q _=>Ex4 fun t a b v=>uF (vs=[.ref t,.int v]) (H t=some (.tup [.int a,.int b])) (a<=v) (v<=b) (Q (.bl true) H)
theorem wI(T:Tx K mg A):FnK P w base T.zW CX0 2 spBet:=by
 k_dat (T.zW,T.zW.ok,aaI) "f"
 ·obtain⟨t,a,b,v,rfl,ht,h1,h2,q⟩:=h;show#[_,by k_dat ([abl],[bZ call_isinstance (by rfl) T.wD ad8 ?_,aD (Gb T) ?_],[O7 (v:=.ty "tuple") rfl T.aqw arV rfl]) "p",?_]
  k_dat lq "c"
  show#[_,rfl,#[_,_,_,_,true,rfl,rfl,fun _ h=>h,.tup ht,zJ _ _ tb_g%,_,rfl,fW ?_]];show#[_,rfl,aup (.inl (.inl ht)) #[rfl,_,rfl,BW rfl ?_]];show#[_,rfl,bY (.inl (.inl ht)) (v:=.int a) rfl #[a,rfl,_,rfl,fW ?_]];show#[_,rfl,bY (.inl (.inl ht)) (v:=.int b) rfl #[b,rfl,_,rfl,fW ?_]];show#[_,rfl,bY (.inl (.inl ht)) (v:=.int a) rfl #[_,rfl,_,_,rfl,rfl,_,rfl,?_]];rw[mN h1];refine Rr #[_,rfl,bY (.inl (.inl ht)) (v:=.int b) rfl #[_,_,rfl,rfl,?_]]
  try dsimp only
  rwa[mN h2]
noncomputable def mo(d:Tab):Tab:=(aV [] d).map fun p=>(p.1,p.2-1)
theorem PB(d:Tab):keys (mo d)=keys (aV [] d):=by unfold keys mo;rw[g8];rfl
theorem aaY(k:Int):∀c:Tab,look (c.map fun p=>(p.1,p.2-1)) k=(look c k).map (· - 1)
 |[]=>rfl
 |p::c=>by
  rw[cX,fX,fX,aaY k c];split <;> rfl
theorem au9(d:Tab)(k:Int):(sW (emb (mo d)) (Sum.inl k:Key)).getD (.int (-1))=.int (MG.low (aV [] d) k-1):=by
 rw[zE];unfold mo MG.low;rw[aaY];cases look (aV [] d) k <;> rfl
theorem ava(h:k∈keys (aV [] d)):sW (emb (mo d)) (Sum.inl k:Key)=some (.int (MG.low (aV [] d) k-1)):=by
 rw[zE];unfold mo MG.low;rw[aaY];cases e:look (aV [] d) k with
 |none=>exact mI h ((je _ k).mp e)
 |some v=>rfl
theorem avb(d:Tab)(k w:Int):MG.put (mo d) k (MG.low (aV [] d) k-1+w)=mo (d++[(k,w)]):=by
 have e:=PB d;unfold mo at e ⊢;rw[Aw];show _=(MG.put (aV [] d) k (MG.low (aV [] d) k+w)).map _;by_cases h:k∈keys (aV [] d)
 ·rw[Gv (by rwa[e]),Gv h,g8,g8];refine Cy fun p _=>?_;show(if p.1=k then(p.1,MG.low (aV [] d) k-1+w)else(p.1,p.2-1))=(fun p:Int × Int=>(p.1,p.2-1)) (if p.1=k then(p.1,MG.low (aV [] d) k+w)else p);split
  ·show _=(p.1,MG.low (aV [] d) k+w-1);congr 1;lia
  ·rfl
 ·rw[Av (by rwa[e]),Av h,bM];show _++[(k,MG.low (aV [] d) k-1+w)]=_++[(k,MG.low (aV [] d) k+w-1)];rw[show MG.low (aV [] d) k-1+w=MG.low (aV [] d) k+w-1 by lia]
noncomputable def ff(d:Tab)(t:Int):Int:=MG.low (aV [] d) t-1
noncomputable def offA(d:Tab)(l:List Int):List (Int × Int):=(l.filter fun t=>decide (ff d t≠0)).map fun t=>(t,ff d t)
noncomputable def offB(d:Tab)(l:List Int):List (Int × Int):=(l.filter fun t=>decide (t∉keys (aV [] d))).map fun t=>(t,-1)
theorem Jb(n:Nat):(cL n).Nodup:=by
 unfold cL;exact uQ.mpr (List.nodup_range.imp fun h z=>h (ato z))
theorem Nf(f:Int->Int):∀L:List Int,cQ ((L.filter fun t=>decide (f t≠0)).map fun t=>(t,f t))=cQ (L.map fun t=>(t,f t))
 |[]=>rfl
 |t::L=>by
  rw[cX,cU,<-Nf f L];by_cases h:f t=0
  ·rw[h,pw_zero,iJ,gj,qX (by simp[h])]
  ·rw[wJ (by simp[h]),cX,cU]
theorem apb{d:Tab}{n:Nat}{srt:List Int}{L:List (Int × Int)}(hD:∀p∈d,0<=p.1/\p.1<n)(hp:srt.Perm (keys (aV [] d)))(hL:L.Perm (offA d srt++offB d (cL n)))(up:L.Pairwise fun p q=>p.1<=q.1)(few:((offA d srt).length:Int)+n-(aV [] d).length<=2):
  Nice L/\(∀p∈L,0<=p.1/\p.1<n)/\cQ L=subQ (cQ d) (Lq n):=by
 have ndk:(keys (aV [] d)).Nodup:=Ax d qY;have sub:∀t∈keys (aV [] d),t∈cL n:=fun t m=>by
  rcases(ud d [] t).mp m with z|z
  ·cases z
  ·obtain⟨p,mp,rfl⟩:=dU.mp z;exact U0.mpr (hD p mp)
 have fo:∀t,t∉keys (aV [] d)->ff d t = -1:=fun t m=>by unfold ff;rw[fY m];rfl
 have eB:offB d (cL n)=((cL n).filter fun t=>decide (t∉keys (aV [] d))).map fun t=>(t,ff d t):=Cy fun t m=>by rw[fo t (by simpa using(jA.mp m).2)]
 have ndA:(srt.filter fun t=>decide (ff d t≠0)).Nodup:=(hp.nodup_iff.mpr ndk).filter _;have ndB:((cL n).filter fun t=>decide (t∉keys (aV [] d))).Nodup:=(Jb n).filter _;have pB:(((cL n).filter fun t=>decide (t∉keys (aV [] d)))++keys (aV [] d)).Perm (cL n):=by
  refine(Xu (CG.mpr #[ndB,ndk,fun a ma b mb e=>?_]) (Jb n)).mpr fun t=>?_
  ·subst e;exact mI mb (by simpa using(jA.mp ma).2)
  ·by_cases m:t∈keys (aV [] d)
   ·simp[m,sub t m]
   ·simp[m]
 have pE:((srt.filter fun t=>decide (ff d t≠0))++(cL n).filter fun t=>decide (t∉keys (aV [] d))).Perm ((cL n).filter fun t=>decide (ff d t≠0)):=by
  refine(Xu (CG.mpr #[ndA,ndB,fun a ma b mb e=>?_]) ((Jb n).filter _)).mpr fun t=>?_
  ·subst e;exact mI (hp.mem_iff.mp (jA.mp ma).1) (by simpa using(jA.mp mb).2)
  ·rw[bO,jA,jA,jA,hp.mem_iff];by_cases m:t∈keys (aV [] d)
   ·simp[m,sub t m]
   ·simp[m,fo t m]
 have pL:L.Perm (((cL n).filter fun t=>decide (ff d t≠0)).map fun t=>(t,ff d t)):=by
  rw[eB]at hL;unfold offA at hL;rw[<-bM]at hL;exact hL.trans (pE.map _)
 have mem:∀p∈L,p.1∈cL n/\p.2=ff d p.1/\p.2≠0:=fun p m=>by
  obtain⟨t,mt,rfl⟩:=dU.mp (pL.mem_iff.mp m);obtain⟨m1,m2⟩:=jA.mp mt;show#[m1,rfl,by simpa using m2]
 show#[#[?_,fun p m=>(mem p m).2.2,?_],fun p m=>U0.mp (mem p m).1,?_]
 ·have l1:=hL.length_eq;have l2:=pB.length_eq;unfold offB at l1;rw[dw,aC]at l1;rw[dw,gJ,show(cL n).length=n by unfold cL;rw[aC,CJ]]at l2;lia
 ·have nd:(L.map (·.1)).Nodup:=by
   have:=pL.map (·.1);rw[g8]at this;refine this.nodup_iff.mpr ?_;show(List.map id _).Nodup;rw[ado];exact(Jb n).filter _
  exact(up.and (uQ.mp nd)).imp fun⟨a,b⟩=>by lia
 ·rw[aja pL,Nf (ff d)];have e:=UW (ff d) (fun _=>1) (cL n);have e2:(fun t=>(t,ff d t+1))=fun t=>(t,MG.low (aV [] d) t):=by funext t;unfold ff;rw[show MG.low (aV [] d) t-1+1=MG.low (aV [] d) t by lia]
  rw[e2,acS hD,show cQ ((cL n).map fun t=>(t,(1:Int)))=Lq n from M9 n]at e;rw[e,iJ,aq3]
noncomputable def avc:Sp:=fun vs H Q _=>Ex3 fun R ts s=>z7 (vs=[.ref R,.int s]) (Rwt H R ts) (ts.length<=63) ((∀r∈rw3 ts,r.ok)) (1<=s) (s<=1000000000) ((∀H',Same H H'->Q .non H')) (∀l ps H',Nice (po ps)->(∀p∈po ps,0<=p.1/\p.1<s)->cQ (po ps)=subQ (cQ (brw s (rw3 ts))) (Lq s)->Pos H' l ps->Same H H'->Q (.ref l) H')
theorem ajc{d:Tab}{l:List Int}{i:Nat}{t:Int}(h:l[i]? = some t):offA d (l.take (i+1))=offA d (l.take i)++if ff d t≠0 then[(t,ff d t)]else[]:=by
 unfold offA;rw[jE,h,iM,bM];by_cases e:ff d t=0
 ·rw[mw (by simp[e])];simp[e]
 ·rw[mB e];simp[e]
theorem ajd(d:Tab)(n:Nat):offB d (cL (n+1))=offB d (cL n)++if(n:Int)∉keys (aV [] d)then[((n:Int),-1)]else[]:=by
 unfold offB;rw[Nb,iM,bM];by_cases e:(n:Int)∈keys (aV [] d)
 ·rw[mw (by simp[e])];simp[e]
 ·rw[mB e];simp[e]
theorem acT(d:Tab)(l:List Int):(offA d l).length<=l.length:=by unfold offA;rw[aC];exact iV _ _
theorem acU(d:Tab)(n:Nat):(offB d (cL n)).length<=n:=by
 unfold offB;rw[aC];have:=iV (fun t=>decide (t∉keys (aV [] d))) (cL n);rwa[show(cL n).length=n by unfold cL;rw[aC,CJ]]at this
theorem aq8(ts:List Rp)(i:Nat):(rw3 (ts.take i)).length<=ts.length:=by
 rw[aC,dN];lia
theorem apc(T:Tx K mg A):FnK P w base T.aaF CX0 1 avc:=by
 k_dat (T.aaF,T.aaF.ok,HY) "f"
 ·obtain⟨R,ts,sp,rfl,hR,few,ok,s1,s9,qn,q⟩:=h;show#[_,by (k_dat ([hdA,zy],[HY.nd,Zw (i:=2) HY.nd rfl (Or.inr rfl) ?_,p8 tb_g% ?_ ?_ ?_ ⟨rfl,rfl,rfl,rfl⟩,Ho T.fM ?_ ⟨rfl,rfl⟩ rfl,tV rfl T.HJ ?_,bZ (Ew kgP) (by rfl) T.fM Gh ?_,fK ?_],[mG 4 HY.nd [("_law_more",~~~s+1)] ["_law_thing","_law_more"] [2] (tt:=(Ml (tOp _ (tOp (zA K) _ _) _))) (te:=(tTup (Rj _ (Rj (tOp (zA K) _ _) ahS)))) ?_ (fun _ _ _ _=>(lU (gw aro (gW (ixG tb_g%) (pv 1) (pv 0) (fun _ _=>rfl)) cI (jU _)))) (fun _ _ _ _=>(Kf (cg (pv 0) (cg (gW (ixG tb_g%) (pv 1) (pv 0) (fun _ _=>rfl)) gA)))),uh [("_law_more",~~~s+1)] ["_law_thing","_law_more"] [2] (tt:=(Ml (tOp (rInG K true) _ _))) ?_ (fun _ _ _ _=>(lU (gw (ZP tb_g%) (pv 0) (pv 1) (by with_unfolding_all rfl)))) (fun _ _ _ _=>(Kf (cg (pv 0) (cg (arn amt cI) gA))))]) "p"; k_dat dX "h"; k_dat dX "h"; k_dat sV "h"),?_]
  k_dat lq "c"
  intro d hd
  k_dat lqg "c"
  k_dat lqf "c"
  show#[_,rfl,R,rfl,#[_,.inl (.inl ((Same.new hd) _ _ hR.o))],dR (K:=K) (a:=R) (xs:=ts.map fun p=>V.ref p.1) (fun i σ G=>∃(y:Option V),ou (σ=[some (.ref R),some (.int sp),some (.ref d),y,none]) (G d=some (.dK (emb (mo (brw sp (rw3 (ts.take i))))))) (Same H G)) #[none,rfl,aj,Same.new hd] (fun i σ G _ ⟨_,_,_,z⟩=>.inl (.inl (z _ _ hR.o))) ?_ ?_]
  ·rintro i v σ G hi ⟨y,rfl,f,sG⟩;obtain⟨p,hp,rfl⟩:=ao9 hi;have ht:G p.1=some (.tup [.int p.2.kd,.int p.2.th,.int p.2.w]):=sG _ _ (hR.t p (mv hp));have okp:=ok p.2 (yh (mv hp));have w1:=okp.w1;have w2:=okp.w2;have e:=Ga sp (rw3 (ts.take i)) [p.2];rw[<-Ja hp,ahy]at e;show#[_,rfl,bY (.inl (.inl ht)) (v:=.int p.2.kd) rfl #[_,_,rfl,rfl,_,rfl,cW (fun h=>?_) (fun h=>?_)]]
   ·have h:p.2.kd<2:=mP h;show#[_,rfl,bY (.inl (.inl ht)) (v:=.int p.2.th) rfl #[_,rfl,_,_,rfl,rfl,_,rfl,cW (fun g=>?_) (fun g=>?_)]]
    ·rw[mB #[h,mP g]]at e;show#[_,rfl,d,rfl,.inl #[_,.inl f],_,rfl,bY (.inl (.inl ht)) (v:=.int p.2.th) rfl #[_,rfl,_,zH (.inl f),?_]];dsimp only;rw[au9];have hz:(emb (mo (brw sp (rw3 (ts.take i))))).length<sizeLine:=by
      unfold mo;rw[jW,aC];have:=iK (brw sp (rw3 (ts.take i)));have:=aaW sp (rw3 (ts.take i));have:=aq8 ts i;exact aM tb_g%
     have k0:=okp.k0;show#[_,rfl,bY (.inl (.inl ht)) (v:=.int p.2.w) rfl #[_,rfl,bY (.inl (.inl ht)) (v:=.int p.2.kd) rfl #[_,_,rfl,rfl,sX tb_g% tb_g%,_,_,rfl,rfl,_,_,rfl,rfl,sX tb_g% tb_g%,_,_,rfl,rfl,_,rfl,_,rfl,bY (.inl (.inl ht)) (v:=.int p.2.th) rfl (Kl f hz ?_)]]];rw[zF,avb,<-e];show#[_,rfl,aj,fun b u z=>by rw[ao (ak z hd)];exact sG b u z]
    ·rw[mw (fun z=>g (mN z.2)),gk]at e;show#[_,rfl,by rwa[e],sG]
   ·rw[mw (fun z=>h (mN z.1)),gk]at e;exact fW #[_,rfl,by rwa[e],sG]
  ·rintro σ G ⟨y,rfl,f,sG⟩;rw[aC,gZ]at f;generalize eD:brw sp (rw3 ts)=D at f q
   k_dat lqn "c"
   have hD:∀p∈D,0<=p.1/\p.1<sp.toNat:=fun p m=>by
    rw[<-eD]at m;obtain⟨r,mr,rfl⟩:=dU.mp m;obtain⟨m1,m2⟩:=jA.mp mr;have:=(mP m2).2;show#[(ok r m1).t0,by show r.th<_;lia]
   have lD:(aV [] D).length<=63:=by
    have:=iK D;have:=aaW sp (rw3 ts);rw[eD,aC]at this;lia
   show#[_,rfl,d,_,keys (mo D),rfl,.inl f,uf _,(by rw[PB,gJ];lia),fun z srt hz hperm RT=>?_];rw[PB]at hperm;have ls:=hperm.length_eq;rw[gJ]at ls
   k_dat (nwA hz,G1,s1',f1) "n"
   have f':=s1' _ _ f;have sG1:=sG.trans s1';show#[z,rfl,#[_,.inl (.inl f1)],fun l1 hl1=>?_];refine iw (K:=K) (a:=z) (xs:=srt.map V.int) (fun i ys G=>∃(ps:List Pb),oJ (ys=ps.map (fun p=>V.ref p.1)) (Prs G l1 ps) (pr ps=offA D (srt.take i)) (Same G1 G)) #[[],rfl,#[aj,fun p m=>nomatch m],rfl,Same.new hl1] ?_ ?_ ?_ ?_ ?_
   ·rintro i ys G hi ⟨ps,rfl,hps,eps,sG⟩;show#[.inl (.inl (sG _ _ f1)),hps.l,aM ?_];have:=acT D (srt.take i);rw[<-eps,Lj,dN]at this;rw[aC];lia
   ·rintro i ys G x hx ⟨ps,rfl,hps,eps,sG⟩;obtain⟨t,ht,rfl⟩:=int_at hx;have vt:=ava (hperm.mem_iff.mp (mv ht));have e:=ajc (d:=D) ht;show#[_,rfl,_,rfl,aby (.inl (sG _ _ f')) vt #[rfl,_,rfl,?_]];by_cases hz:ff D t=0
    ·rw[show(!decide (V.int (MG.low (aV [] D) t-1)=V.int 0))=false by rw[show MG.low (aV [] D) t-1=0 from hz];simp];rw[mw (by simp[hz]),gk]at e;exact fW #[hps.l,ps,rfl,hps,by rwa[e],sG]
    ·rw[show(!decide (V.int (MG.low (aV [] D) t-1)=V.int 0))=true by simp;exact hz];rw[mB hz]at e;refine Rr #[_,rfl,_,rfl,_,rfl,aby (.inl (sG _ _ f')) vt #[tb_g%,fun t2 ht2=>?_]]
     k_dat (nwA ht2,G2,sT,fT) "n"
     have hps2:=hps.same sT;show#[hps2.l,ps++[(t2,(t,ff D t))],by rw[bM];rfl,hps2.snoc (q:=(t,ff D t)) fT,?_,fun b o z=>?_]
     ·rw[e,<-eps];exact bM
     ·rw[ao (ak z hl1)];exact sT _ _ (sG _ _ z)
   ·rintro ys G2 ⟨ps,rfl,hps,eps,sG2⟩;rw[aC,gZ]at eps;have lp:=mM jF eps;rw[Lj]at lp;obtain⟨n,en⟩:∃n:Nat,sp=n:=#[sp.toNat,by lia];subst en;rw[ak3]at hD
    k_dat lqg "c"
    have fd:=sG2 _ _ f';have lm:(emb (mo D)).length=(aV [] D).length:=by unfold mo;rw[jW,aC]
    show#[_,rfl,eX (.inl (.inl hps.l)) #[_,rfl,_,_,rfl,rfl,_,rfl,ZX (.inl fd) #[_,_,rfl,rfl,_,_,rfl,rfl,_,rfl,cW (fun h=>?_) (fun h=>?_)]]]
    ·exact qn _ (sG1.trans sG2)
    have h:¬ (2:Int)<(ps.map fun p=>V.ref p.1).length+n-(emb (mo D)).length:=fun z=>h (mN z);rw[aC,lm]at h;show#[_,rfl,_,rfl,n,rfl,by lia,by lia,fun l2 hl2=>?_];have fo:∀t,t∉keys (aV [] D)->ff D t = -1:=fun t m=>by unfold ff;rw[fY m];rfl
    refine aah (lo:=0) (n:=n) (fun i ys G=>∃(ms:List Pb),oJ (ys=ms.map (fun p=>V.ref p.1)) (Prs G l2 ms) (pr ms=offB D (cL i)) (Same G2 G)) #[[],rfl,#[aj,fun p m=>nomatch m],rfl,Same.new hl2] ?_ ?_ ?_ ?_ ?_
    ·rintro i ys G hi ⟨ms,rfl,hms,ems,sG⟩;show#[hms.l,aM ?_];have:=acU D i;rw[<-ems,Lj]at this;rw[aC];lia
    ·rintro i ys G hi ⟨ms,rfl,hms,ems,sG⟩;have e:=ajd D i;rw[kY];show#[_,rfl,_,rfl,.inr #[d,_,rfl,zH (.inl (sG _ _ fd)),_,rfl,?_]];rw[mB rfl,RK,PB];by_cases m:(i:Int)∈keys (aV [] D)
     ·rw[mN m];rw[mw (by simp[m]),gk]at e;exact fW #[hms.l,ms,rfl,hms,by rw[e];exact ems,sG]
     ·rw[mS m];rw[mB m]at e;refine Rr #[_,rfl,_,rfl,tb_g%,fun t2 ht2=>?_];dsimp only
      k_dat (nwA ht2,G3,sT,fT) "n"
      have hms2:=hms.same sT;show#[hms2.l,ms++[(t2,((i:Int),-1))],by rw[bM];rfl,hms2.snoc (q:=((i:Int),-1)) fT,?_,fun b o z=>?_]
      ·rw[e,<-ems];exact bM
      ·rw[ao (ak z hl2)];exact sT _ _ (sG _ _ z)
    ·rintro ys G3 ⟨ms,rfl,hms,ems,sG3⟩;have hps3:=hps.same sG3;have lm2:=mM jF ems;rw[Lj]at lm2;have:=acU D n;have:=acT D srt;have mem:∀p∈ps++ms,p.2.2=ff D p.2.1:=fun p m=>by
      rcases bO.mp m with m|m
      ·have:p.2∈offA D srt:=by rw[<-eps];exact yh m
       obtain⟨t,_,e⟩:=dU.mp this;rw[<-e]
      ·have:p.2∈offB D (cL n):=by rw[<-ems];exact yh m
       obtain⟨t,mt,e⟩:=dU.mp this;rw[<-e];exact(fo t (mP (jA.mp mt).2)).symm
     show#[l1,l2,_,_,rfl,rfl,hps3.l,hms.l,eF (aM (by rw[aC,aC];lia)),fun l3 hl3=>?_];rw[<-bM]
     k_dat (nwA hl3,G4,s4,f4) "n"
     have t4:∀p∈ps++ms,G4 p.1=some (.tup [.int p.2.1,.int p.2.2]):=fun p m=>s4 _ _ ((bO.mp m).elim (hps3.t p) (hms.t p));show#[l3,ps++ms,1,(·.1),rfl,f4,fun p m=>#[t4 p m,rfl],fun p m p' m'=>Tm.agO fun e=>by rw[mem p m,mem p' m',e],fun l4 qs hl4 pq uq=>?_];obtain⟨nc,hin,hs⟩:=apb (L:=po qs) hD hperm (by rw[<-eps,<-ems];unfold pr po;rw[<-bM];exact pq.map _) (uQ.mpr uq) tb_g%;exact q l4 qs _ nc hin hs #[aj,fun p m=>(Same.new hl4) _ _ (t4 p (pq.mem_iff.mp m))] (sG1.trans (sG2.trans (sG3.trans (s4.trans (Same.new hl4)))))
    ·exact fun σ H R R' hr h=>dJ (Hh (fun x y H Q Q' hq h=>h.imp (fun⟨p,xs,e,a,b,c,z⟩=>#[p,xs,e,a,b,c,hq _ _ z]) fun⟨p,o,e,a,z⟩=>#[p,o,e,a,hq _ _ z]) (aP 0) (aP 1)) σ H R R' hr h
    ·exact Sv (gK (aP 0) (gK (fun σ H Q Q' hq ⟨i,e,z⟩=>#[i,e,hq _ _ z]) uz))
   ·exact fun σ H R R' hr h=>dJ (aqj (jo (aP 1) (aP 0)) (lM _)) σ H R R' hr h
   ·exact Sv (gK (aP 0) (gK (jo (aP 1) (aP 0)) uz))
structure Hv(A:Ad)(H:Hp)(x:KS)(R:Addr)(ts:List Rp):Prop where
 kp:Kp A H x
 rw:Rwt H R ts
 tr:Tru x (rw3 ts)
theorem Hv.same{A:Ad}(h:Hv A H x R ts)(s:Same H H'):Hv A H' x R ts:=#[h.kp.same s,h.rw.same s,h.tr]
theorem Hv.few{A:Ad}(h:Hv A H x R ts):ts.length<=63:=by have:=h.tr.kh.few;rwa[aC]at this
theorem Bo{ts:List Rp}(h:ts.length<=63)(k:Int):(prw k (rw3 ts)).length<=63:=by have:=ahz k (rw3 ts);rw[aC]at this;lia
theorem Tru.net(h:Tru x rs)(t:Int):MG.low x.cm.c t-(MG.low x.wn.c t+x.wn.l)<=MG.low (aV [] (prw 0 rs)) t-MG.low (aV [] (prw 1 rs)) t/\MG.low (aV [] (prw 0 rs)) t-MG.low (aV [] (prw 1 rs)) t<=MG.low x.cm.c t+x.cm.l-MG.low x.wn.c t:=by
 have:=h.cm.ok.lo t;have:=h.cm.ok.hi t;have:=h.wn.ok.lo t;have:=h.wn.ok.hi t;lia
theorem Tru.ranked(h:Tru x rs)(t:Int):max ((RG.nr t x.up.x.ls:Nat)-x.up.x.ov) 0-min ((RG.nr t x.dn.x.ls:Nat)+x.dn.x.un) x.dn.x.tt<=RG.tw t (prw 0 rs)-RG.tw t (prw 1 rs)/\RG.tw t (prw 0 rs)-RG.tw t (prw 1 rs)<=min ((RG.nr t x.up.x.ls:Nat)+x.up.x.un) x.up.x.tt-max ((RG.nr t x.dn.x.ls:Nat)-x.dn.x.ov) 0:=by
 have:=h.up.rk t;have:=h.dn.rk t;lia
theorem Tru.ls(h:Tru x rs):x.up.x.ls.length<=60/\(∀l∈x.up.x.ls,l.length<=64)/\x.dn.x.ls.length<=60/\∀l∈x.dn.x.ls,l.length<=64:=by
 have r64:=h.kh.r64;show#[(mQ h.kh.up.g h.kh.up.t h.kh.few).1,fun l m=>?_,(mQ h.kh.dn.g h.kh.dn.t h.kh.few).1,fun l m=>?_]
 ·have:=h.kh.up.g.sm l m;have:=h.kh.up.r;lia
 ·have:=h.kh.dn.g.sm l m;have:=h.kh.dn.r;lia
noncomputable def apd(A:Ad):Sp:=fun vs H Q _=>Ex4 fun x R ts c=>ou (vs=[.ref x.k,.ref R,.int c]) (Hv A H x R ts) (∀H',Same H H'->Q (.bl true) H')
theorem Lx(T:Tx K mg A):FnK P w base T.n8 CX0 4 (apd A):=by
 k_dat (T.n8,T.n8.ok,uD) "f"
 ·obtain⟨x,R,ts,c,rfl,hv,q⟩:=h;have few:=hv.few;show#[_,by k_dat ([sV,fK],[uD.nd,aD (oK T) ?_,aD (Cr T) ?_,Ho T.fM ?_ ⟨rfl,rfl⟩ rfl,aU ?_ T.gQ (Ot T) ?_,p8 tb_g% ?_ ?_ ?_ ⟨rfl,rfl,rfl,rfl⟩,aD (wI T) ?_,aU ?_ T.gQ (FW T) ?_,aD (U3 T) ?_],[]) "p",?_]
  k_dat lq "c"
  show#[_,rfl,R,ts,0,rfl,hv.rw,few,fun d1 H1 f1 s1=>?_]
  k_dat lqg "c"
  show#[_,rfl,R,ts,1,rfl,hv.rw.same s1,few,fun d2 H2 f2 s2=>?_];show#[_,rfl,c,rfl,fun v H3 _ _ s3=>#[tb_g%,fun p1 hp1=>?_]];have s4:=Same.new (o:=.lst ([0,1152921504606846975,v].map V.int)) hp1;have g1:(upd H3 p1 (.lst ([0,1152921504606846975,v].map V.int))) p1=some (.lst ([0,1152921504606846975,v].map V.int)):=aj;show an7 _ _ (upd H3 p1 (.lst ([0,1152921504606846975,v].map V.int))) _;generalize upd H3 p1 (.lst ([0,1152921504606846975,v].map V.int))=H4 at s4 g1 ⊢;have s04:=s1.trans (s2.trans (s3.trans s4));have f1:=(s2.trans (s3.trans s4)) _ _ f1;have f2:=(s3.trans s4) _ _ f2;have L0:=iK (prw 0 (rw3 ts));have L1:=iK (prw 1 (rw3 ts));have P0:=Bo few 0;have P1:=Bo few 1;show#[_,rfl,d1,_,keys (aV [] (prw 0 (rw3 ts))),rfl,.inl f1,uf _,(by rw[gJ];have:=iK (prw 0 (rw3 ts));have:=Bo few 0;lia),fun z1 srt hz1 pm _=>?_];have ls1:=pm.length_eq
  k_dat (nwA hz1,H5,t1,k1) "n"
  obtain⟨m1,e1,lm1,_⟩:=Hj srt none (some 8);show#[_,rfl,z1,_,rfl,.inl (.inl k1),fun p2 hp2=>?_];rw[e1];rw[ls1,gJ]at lm1
  k_dat (nwA hp2,H6,u1,g2) "n"
  show#[p1,p2,_,_,rfl,rfl,(t1.trans u1) _ _ g1,g2,eF (aM (by rw[aC,aC];show 3+m1.length<=1000;lia)),fun p3 hp3=>?_];rw[<-bM]
  k_dat (nwA hp3,H7,zH7,g3) "n"
  have s6:=t1.trans (u1.trans zH7);have f2':=s6 _ _ f2;show#[_,rfl,d2,_,keys (aV [] (prw 1 (rw3 ts))),rfl,.inl f2',uf _,(by rw[gJ];have:=iK (prw 1 (rw3 ts));have:=Bo few 1;lia),fun z2 srt hz2 pm _=>?_];have ls2:=pm.length_eq
  k_dat (nwA hz2,H8,t2,k2) "n"
  obtain⟨m2,e1,lm2,_⟩:=Hj srt none (some 4);show#[_,rfl,z2,_,rfl,.inl (.inl k2),fun p4 hp4=>?_];rw[e1];rw[ls2,gJ]at lm2
  k_dat (nwA hp4,H9,u2,g4) "n"
  show#[p3,p4,_,_,rfl,rfl,(t2.trans u2) _ _ g3,g4,eF (aM (by rw[aC,aC,dw];show 3+m1.length+m2.length<=1000;lia)),fun p5 hp5=>?_];rw[<-bM];generalize [0,1152921504606846975,v]++m1++m2=L
  k_dat (nwA hp5,Z,zZ,g5) "n"
  k_dat lqg "c"
  k_dat lqf "c"
  have s9:=s6.trans (t2.trans (u2.trans zZ));have f1:=s9 _ _ f1;have f2:=s9 _ _ f2;have s0Z:=s04.trans s9;have hz:=hv.same s0Z;obtain⟨a1,a2,a3,a4⟩:=hv.tr.ls;show#[_,rfl,p5,rfl,#[_,.inl (.inl g5)],dR (K:=K) (a:=p5) (xs:=L.map V.int) (fun i σ G=>∃y:Option V,σ=[some (.ref x.k),some (.ref R),some (.int c),some (.ref d1),some (.ref d2),some (.ref p5),y]/\Same Z G) #[none,rfl,Same.refl _] (fun i σ G _ ⟨_,_,z⟩=>.inl (.inl (z _ _ g5))) ?_ ?_]
  ·rintro i v σ G hi ⟨y,rfl,sG⟩;obtain⟨t,_,rfl⟩:=int_at hi;have hg:=hz.same sG;have f1:=sG _ _ f1;have f2:=sG _ _ f2;obtain⟨b1,b2⟩:=hv.tr.net t;obtain⟨c1,c2⟩:=hv.tr.ranked t;show#[_,rfl,x.k,x.dk,_,rfl,hg.kp.o,kfN tb_g%,_,rfl,x,t,rfl,hg.kp,fun tp J1 ht j1=>?_];have f1:=j1 _ _ f1;have f2:=j1 _ _ f2;show#[_,rfl,d1,rfl,.inl #[_,.inl f1],_,rfl,_,zH (.inl f1),?_];rw[vN];show#[_,rfl,d2,rfl,.inl #[_,.inl f2],_,rfl,_,zH (.inl f2),?_];rw[vN];show#[_,_,rfl,rfl,tp,_,_,_,rfl,ht,b1,b2,_,rfl,fW ?_];have hg:=hg.same j1;show#[_,rfl,x.k,x.dk,_,rfl,hg.kp.o,kfN tb_g%,_,rfl,x,t,rfl,hg.kp,a1,a2,a3,a4,fun tq J2 hq j2=>?_];show#[_,rfl,_,rfl,d1,prw 0 (rw3 ts),t,rfl,j2 _ _ f1,P0,fun J3 j3=>?_];show#[_,rfl,_,rfl,d2,prw 1 (rw3 ts),t,rfl,(j2.trans j3) _ _ f2,P1,fun J4 j4=>?_];show#[_,_,rfl,rfl,tq,_,_,_,rfl,(j3.trans j4) _ _ hq,c1,c2,_,rfl,fW #[_,rfl,sG.trans (j1.trans (j2.trans (j3.trans j4)))]]
  ·rintro σ G ⟨y,rfl,sG⟩;exact q _ (s0Z.trans sG)
noncomputable def spRkH(A:Ad):Sp:=fun vs H Q _=>Ex4 fun x R ts k=>uF (vs=[.ref x.k,.ref R,.int k]) (Hv A H x R ts) (1<=k) (k<=x.up.x.tt) (∀H',Same H H'->Q (.bl true) H')
theorem aq9(h:∀r∈rs,r.ok)(k:Int):∀p∈prw k rs,1<=p.2:=fun p m=>by
 obtain⟨r,mr,rfl⟩:=dU.mp m;exact(h r (jA.mp mr).1).w1
theorem Ov(T:Tx K mg A):FnK P w base T.qD CX0 4 (spRkH A):=by
 k_dat (T.qD,T.qD.ok,xG) "f"
 ·obtain⟨x,R,ts,k,rfl,hv,k1,kt,q⟩:=h;have few:=hv.few;show#[_,by k_dat ([ZP,abl],[xG.nd,aD (oK T) ?_,aU ?_ T.gQ (Bu T) ?_,aD (Gb T) ?_,aD (U3 T) ?_,bZ (lG rfl) (by rfl) T.Mz DK ?_,bZ (Ao rfl) (by rfl) T.acs YD ?_],[]) "p",?_]
  k_dat lq "c"
  show#[_,rfl,R,ts,0,rfl,hv.rw,few,fun d H1 f s1=>?_]
  k_dat lqg "c"
  have hv:=hv.same s1;have tr:=hv.tr;obtain⟨a1,a2,_,_⟩:=tr.ls;show#[_,rfl,x.k,x.dk,_,rfl,hv.kp.o,kfN tb_g%,_,rfl,x,k,rfl,hv.kp,x.up.p,x.up.x.dx,x.up.x.a,x.up.x.bs,x.up.x.r,x.up.x.tt,x.up.x.ov,x.up.x.un,x.up.x.tn,k,x.up.x.mi,x.up.x.ma,x.up.x.ls,rfl,hv.kp.up,a1,a2,tr.kh.up.g.vl,k1,kt,fun t z S H2 sx hx ht s2=>?_];obtain⟨n1,n2,n3⟩:=RG.aiq sx.p sx.s (fun p m=>aoU a1 p (sx.p.mem_iff.mp m)) k1 hx;obtain⟨g1,g2,g3,g4,g5⟩:=RG.stands tr.up.rk (aq9 tr.ok 0) (fun l m y my=>dU.mp (tr.up.me l m y my)) n1 n2 n3;have o0:=tr.kh.up.g.ov0;have u0:=tr.kh.up.g.un0;generalize hf:max (k-x.up.x.ov) 1=f1 at ht;generalize hl:min (k+x.up.x.un) x.up.x.tt=l1 at ht;have mz:z∈keys (aV [] (prw 0 (rw3 ts))):=by
   obtain⟨l,m,my⟩:=n3;exact(ud _ [] z).mpr (.inr (tr.up.me l m z my))
  have tp:=ahA z (prw 0 (rw3 ts));have f:=s2 _ _ f;show#[t,_,rfl,.inl (.inl ht),rfl,_,_,rfl,_,_,rfl,_,_,rfl,rfl,?_];show#[_,rfl,_,rfl,.inr #[d,_,rfl,zH (.inl f),_,rfl,?_]];rw[mB rfl,RK,mN mz];refine fW #[_,rfl,f1,rfl,_,rfl,fW #[_,rfl,l1,rfl,_,rfl,fW ?_]];show#[_,rfl,_,rfl,d,_,z,rfl,f,Bo few 0,fun H3 s3=>?_];have f:=s3 _ _ f;show#[_,rfl,_,rfl,_,rfl,aby (.inl f) (aaX mz) #[_,_,rfl,rfl,_,_,rfl,rfl,?_]];show#[_,rfl,_,rfl,_,_,rfl,_,rfl,_,rfl,_,_,rfl,_,_,rfl,rfl,_,rfl,?_];rw[mN (by split <;> split <;> lia)];refine Rr #[_,rfl,_,rfl,_,_,rfl,rfl,_,rfl,?_];rw[mN tb_g%];refine Rr #[_,rfl,_,_,rfl,rfl,?_]
  try dsimp only
  rw[mN tb_g%];exact q _ (s1.trans (s2.trans s3))
noncomputable def aaZ(l:List Int):List (Key × V):=l.map fun k=>((Sum.inl k:Key),V.bl true)
theorem avd(h:k∉l):putK (aaZ l) (Sum.inl k:Key) (.bl true)=aaZ (l++[k]):=by
 unfold putK aaZ;rw[mw,bM]
 ·rfl
 ·intro z;rw[List.any_map,ajC]at z;obtain⟨j,m,e⟩:=z;exact h (by have:=Zh (mP e);rwa[<-this])
theorem ave(l:List Int)(k:Int):(sW (aaZ l) (Sum.inl k:Key)).isSome=decide (k∈l):=by
 induction l with
 |nil=>rfl
 |cons j l ih =>
  unfold sW aaZ at ih ⊢;rw[cX,yq];by_cases e:j=k
  ·subst e;simp
  ·rw[show decide ((Sum.inl j:Key)=Sum.inl k)=false from mS fun z=>e (Zh z)];rw[ih];exact decide_eq_decide.mpr #[cV _,fun m=>(aX.mp m).resolve_left fun z=>e z.symm]
theorem Told.nd(h:Told c l t a b ks)(n:(keys c).Nodup):ks.Nodup/\ks.Pairwise (· <= ·)/\ks.length<=c.length:=by
 obtain⟨s,p,o,rfl⟩:=h;show#[(p.nodup_iff.mpr n).filter _,o.filter _,by rw[<-gJ c,<-p.length_eq];exact iV _ _]
theorem Tru.heavy(h:Tru x rs){a b k:Int}{ks:List Int}(td:Told x.cm.c x.cm.l x.cm.t a b ks)(b1:1<=b)(fine:b<=a*((x.room:Int)+1))(hk:x.cm.t*a<MG.low (aV [] (prw 0 rs)) k*b):k∈ks:=by
 obtain⟨s,p,o,rfl⟩:=td;have hi:=h.cm.ok.hi k;have h1:x.cm.t*a<(MG.low x.cm.c k+x.cm.l)*b:=ak2 hk (wM hi tb_g%);refine jA.mpr #[p.mem_iff.mpr (h.cm.ok.heavy ?_),mN h1];have t0:0<=x.cm.t:=by
  have:=h.cm.ok.sum;have:=h.cm.ok.l0;have:0<=(vals x.cm.c).sum:=vM fun v hv=>by
   obtain⟨p,hp,e⟩:=dU.mp hv;have:=h.cm.ok.pos p hp;lia
  have:0<=((x.room:Int)+1)*x.cm.l:=JL tb_g% h.cm.ok.l0;lia
 generalize MG.low (aV [] (prw 0 rs)) k=W at hk;generalize x.cm.t=T at hk t0;have e1:T*b<=T*(a*((x.room:Int)+1)):=QD fine t0;have e2:T*a*((x.room:Int)+1)<W*b*((x.room:Int)+1):=Int.mul_lt_mul_of_pos_right hk tb_g%;have e3:T*b<W*((x.room:Int)+1)*b:=by
  rw[show W*((x.room:Int)+1)*b=W*b*((x.room:Int)+1) by rw[jK,DX ((x.room:Int)+1),<-jK]];rw[<-jK]at e1;lia
 exact Int.lt_of_mul_lt_mul_right e3 tb_g%
noncomputable def avf(A:Ad):Sp:=fun vs H Q _=>Ex5 fun x R ts a b=>z7 (vs=[.ref x.k,.ref R,.int a,.int b]) (Hv A H x R ts) (1<=a) (a<=1000000) (1<=b) (b<=1000000) (b<=a*((x.room:Int)+1)) (∀H',Same H H'->Q (.bl true) H')
theorem U4:∀{l:List α}{m:List β},Paired F l m->l.length=m.length
 |_,_,.nil=>rfl
 |_,_,.cons _ t=>mM Nat.succ (U4 t)
theorem Ly(T:Tx K mg A):FnK P w base T.oh CX0 5 (avf A):=by
 k_dat (T.oh,T.oh.ok,uE) "f"
 ·obtain⟨x,R,ts,a,b,rfl,hv,a1,a2,b1,b2,fine,q⟩:=h;have few:=hv.few;have r64:=hv.tr.kh.r64;show#[_,by (k_dat ([hdE,zy,fK,ZP],[uE.nd,aD (oK T) ?_,ag7 T.acu ?_ ⟨rfl,rfl⟩ rfl,aU ?_ T.gQ (IW T) ?_,aD (Gb T) ?_,p8 tb_g% ?_ ?_ ?_ ⟨rfl,rfl,rfl,rfl⟩,aD (wI T) ?_,Ho T.fM ?_ ⟨rfl,rfl⟩ rfl,bZ call_isinstance (by rfl) T.wD ad8 ?_,bZ (Ew kgP3) (by rfl) T.fM Gh ?_],[O7 (v:=.ty "list") rfl T.aaG ad9 rfl]) "p"; k_dat (an2 hr.units) "h"; k_dat agA "h"),?_];show#[_,rfl,R,ts,0,rfl,hv.rw,few,fun d H1 f s1=>?_];show#[_,rfl,d,_,vals (aV [] (prw 0 (rw3 ts))),rfl,.inl f,RJ _,?_];rw[Ay _ (c:=[]) qY,show(vals []).sum=0 from rfl,kY,<-hv.tr.cm.t]
  k_dat lqg "c"
  have hv:=hv.same s1;have tr:=hv.tr;show#[_,rfl,x.k,x.dk,_,rfl,hv.kp.o,kfN tb_g%,_,rfl,_,rfl,x,a,b,rfl,hv.kp,x.cm.p,x.cm.dx,x.cm.d,x.room,x.cm.t,x.cm.l,a,b,x.cm.c,rfl,hv.kp.cm.o,hv.kp.cm.d,by lia,by lia,by lia,by lia,by lia,fine,(by have:=tr.kh.cm.k;have:=tr.kh.few;lia),fun y us ks H2 hy hus td g tp s2=>?_]
  k_dat lqg "c"
  obtain⟨ndk,upk,ink⟩:=td.nd tr.cm.ok.nd;intro e he
  k_dat (nwA he,H3,s3,fe) "n"
  k_dat lqg "c"
  k_dat lqf "c"
  have fe:H3 e=some (.dK (aaZ [])):=fe;have g2:=g;have g:=s3 _ _ g;have lu:us.length=ks.length:=U4 tp;have lk:ks.length<=63:=by
   have:=tr.kh.cm.k;have:=tr.kh.few;lia
  have tpU:Paired (fun t k=>H2 t=some (.tup [.int k,.int (MG.low x.cm.c k),.int (MG.low x.cm.c k+x.cm.l)])) us ks:=tp;have tp3:∀{i:Nat}{u:Addr}{k:Int},us[i]? = some u->ks[i]? = some k->H3 u=some (.tup [.int k,.int (MG.low x.cm.c k),.int (MG.low x.cm.c k+x.cm.l)])/\u≠e:=fun hu hk=>by
   have:=Xq tpU hu hk;show#[s3 _ _ this,ak this he]
  have nye:y≠e:=ak g2 he;have nde:d≠e:=ak (s2 _ _ f) he;have fd:=s3 _ _ (s2 _ _ f);show#[_,rfl,y,rfl,#[_,.inl (.inl g)],dR (K:=K) (a:=y) (xs:=us.map V.ref) (fun i σ G=>Ex3 fun(v1 v2 v3:Option V)=>ou (σ=[some (.ref x.k),some (.ref R),some (.int a),some (.int b),some (.ref d),some (.int x.cm.t),some (.ref y),some (.ref e),v1,v2,v3]) (G e=some (.dK (aaZ (ks.take i)))) (L2.But e H3 G)) #[none,none,none,rfl,fe,(Same.refl _).but _] (fun i σ G _ ⟨_,_,_,_,_,z⟩=>.inl (.inl (z _ _ g nye))) ?_ ?_]
  ·rintro i v σ G hi ⟨v1,v2,v3,rfl,fG,bG⟩;obtain⟨u,hu,rfl⟩:∃u,us[i]? = some u/\v=V.ref u:=by
    rw[dG]at hi;cases e:us[i]? with
    |none=>rw[e]at hi;cases hi
    |some z=>rw[e]at hi;show#[z,rfl,(cA hi).symm]
   have li:=(dh.mp hu).1;obtain⟨k,hk⟩:∃k,ks[i]? = some k:=#[_,eU tb_g%];obtain⟨tu,ne⟩:=tp3 hu hk;have tk:ks.take (i+1)=ks.take i++[k]:=by rw[jE,hk];rfl
   have nk:k∉ks.take i:=fun m=>by
    have:=(Xx (i+1) ks).nodup ndk;rw[tk,CG]at this;exact this.2.2 k m k cJ rfl
   show#[u,_,rfl,.inl (.inl (bG _ _ tu ne)),rfl,_,_,rfl,_,_,rfl,_,_,rfl,rfl,?_];show#[_,rfl,_,rfl,Kl fG (aM (by unfold aaZ;rw[aC,dN];lia)) ?_];rw[avd nk,<-tk]
   k_dat (nbA,G1,zG1,fG1) "n"
   have bG1:L2.But e H3 G1:=bG.trans zG1;show#[_,rfl,k,rfl,_,rfl,fW ?_];show#[_,rfl,_,rfl,tb_g%,fun t2 ht2=>?_]
   k_dat (nwA ht2,G2,sT,fT) "n"
   have fd2:=sT _ _ (bG1 _ _ fd nde);show#[_,rfl,d,rfl,.inl #[_,.inl fd2],_,rfl,_,zH (.inl fd2),?_];rw[vN];show#[t2,_,_,_,rfl,fT,tr.cm.ok.lo k,tr.cm.ok.hi k,_,rfl,fW #[_,_,_,rfl,sT _ _ fG1,bG1.trans (sT.but _)]]
  ·rintro σ G ⟨v1,v2,v3,rfl,fG,bG⟩;rw[aC,lu,gZ]at fG
   k_dat lqn "c"
   k_dat lqf "c"
   have fd:=bG _ _ fd nde;have l0:=iK (prw 0 (rw3 ts));have lp:=Bo few 0;show#[_,rfl,d,_,keys (aV [] (prw 0 (rw3 ts))),rfl,.inl fd,uf _,(by rw[gJ];lia),fun z srt hz hperm _=>?_]
   k_dat (nwA hz,G1,s4,fz) "n"
   have fd:=s4 _ _ fd;have fe1:=s4 _ _ fG;show#[z,rfl,#[_,.inl (.inl fz)],dR (K:=K) (a:=z) (xs:=srt.map V.int) (fun i σ G=>Ex3 fun(v1 v2 v3:Option V)=>σ=[some (.ref x.k),some (.ref R),some (.int a),some (.int b),some (.ref d),some (.int x.cm.t),some (.ref y),some (.ref e),v1,v2,v3]/\G=G1) #[v1,v2,v3,rfl,rfl] (fun i σ G _ ⟨_,_,_,_,z⟩=>by rw[z];exact .inl (.inl fz)) ?_ ?_]
   ·rintro i v σ G hi ⟨v1,v2,v3,rfl,rfl⟩;obtain⟨t,ht,rfl⟩:=int_at hi;show#[_,rfl,_,rfl,aby (.inl fd) (aaX (hperm.mem_iff.mp (mv ht))) #[_,rfl,_,_,rfl,rfl,dB tb_g% tb_g%,_,rfl,_,rfl,_,_,rfl,rfl,dB tb_g% tb_g%,_,_,rfl,rfl,_,rfl,cW (fun h=>?_) (fun _=>fW #[_,_,_,rfl,rfl])]];show#[_,rfl,_,rfl,.inr #[e,_,rfl,zH (.inl fe1),_,rfl,?_]];rw[mB rfl,ave,mN (tr.heavy td b1 fine (mP h))];exact fW #[_,_,_,rfl,rfl]
   ·rintro σ G2 ⟨v1,v2,v3,rfl,rfl⟩;have gy:=s4 _ _ (bG _ _ g nye);show#[_,rfl,#[_,_,_,_,true,rfl,rfl,fun _ h=>h,.lst gy,zJ _ _ tb_g%,_,rfl,Rr ?_]];have tri:∀{i:Nat}{u:Addr}{k:Int},us[i]? = some u->ks[i]? = some k->G2 u=some (.tup [.int k,.int (MG.low x.cm.c k),.int (MG.low x.cm.c k+x.cm.l)]):=fun hu hk=>s4 _ _ (bG _ _ (tp3 hu hk).1 (tp3 hu hk).2);obtain⟨ps,e1,e2,e3⟩:∃ps:List (Addr × (Int × Int × Int)),us=ps.map (·.1)/\ks=ps.map (·.2.1)/\∀p∈ps,p.2=(p.2.1,MG.low x.cm.c p.2.1,MG.low x.cm.c p.2.1+x.cm.l):=by
     show#[(us.zip ks).map fun p=>(p.1,(p.2,MG.low x.cm.c p.2,MG.low x.cm.c p.2+x.cm.l)),?_,?_,fun p m=>?_]
     ·rw[g8];exact(List.map_fst_zip tb_g%).symm
     ·rw[g8];exact(ajE tb_g%).symm
     ·obtain⟨q,_,rfl⟩:=dU.mp m;rfl
    have hp:∀p∈ps,G2 p.1=some (.tup ((gP3 p.2).map V.int)):=fun p m=>by
     obtain⟨i,hi⟩:=List.getElem?_of_mem m;have:=tri (i:=i) (u:=p.1) (k:=p.2.1) (by rw[e1,dG,hi];rfl) (by rw[e2,dG,hi];rfl);rw[this,e3 p m];rfl
    show#[_,rfl,_,rfl,y,ps,2,(·.1),rfl,by rw[gy,e1,g8];rfl,fun p m=>#[hp p m,rfl],fun p m p' m'=>Tm.agO fun z=>?_,fun l ps' hl pm up=>?_]
    ·have h1:=e3 p m;have h2:=e3 p' m';rw[z]at h1;have:=h1.trans h2.symm;rw[this]
    k_dat (nwA hl,G3,sl,fl) "n"
    have ek:ps'.map (·.2.1)=ks:=lK (by rw[e2];exact pm.map _) (uQ.mpr up) upk;have al:Alike K G3 2 (.ref y) (.ref l):=by
     refine .lst (.inl (.inl (sl _ _ gy))) (.inl (.inl fl)) (by rw[aC,aC,pm.length_eq,e1,aC]) fun i p q hp1 hq1=>?_;rw[dG]at hp1 hq1;obtain⟨u,hu,rfl⟩:=BR.mp hp1;obtain⟨p',hp',rfl⟩:=BR.mp hq1;have hk:ks[i]? = some p'.2.1:=by rw[<-ek,dG,hp'];rfl
     have m':=pm.mem_iff.mp (mv hp');have h2:=hp p' m';rw[e3 p' m']at h2;refine .tup (.inl (.inl (sl _ _ (tri hu hk)))) (.inl (.inl (sl _ _ h2))) rfl fun j v w hv1 hw1=>?_;obtain rfl:=cA (hv1.symm.trans hw1);have:=mv hv1;simp only[aX,fH,or_false]at this;rcases this with rfl|rfl|rfl <;> exact .flat rfl
    show#[2,y,l,rfl,rfl,tb_g%,al,_,rfl,Rr ?_];show#[_,rfl,ZX (.inl (sl _ _ fe1)) #[_,rfl,eX (.inl (.inl (sl _ _ gy))) #[rfl,?_]]];rw[aC,lu,show(aaZ ks).length=ks.length from aC _,mN rfl];exact q _ fun b o z=>sl _ _ (s4 _ _ (bG _ _ (s3 _ _ (s2 _ _ (s1 _ _ z))) (ak (s2 _ _ (s1 _ _ z)) he)))
theorem avh(h1:1<=s)(h2:s<=1000000000):∀z∈L4 (Lq s),z.natAbs<=2 ^ 130:=by
 have e:s.natAbs<=1000000000:=by lia
 have e1:(s-1).natAbs<=1000000000:=by lia
 have e2:(2*s-1).natAbs<=2000000000:=by lia
 have key:∀{a b:Int}{c d:Nat},a.natAbs<=c->b.natAbs<=d->(a*b).natAbs<=c*d:=fun h1 h2=>by rw[aem];exact ad1 h1 h2
 have a1:=key e e1;have a2:=key a1 e2;have d1:=cH (QG (s*(s-1)) 2) a1;have d2:=cH (QG (s*(s-1)*(2*s-1)) 6) a2;have d3:=key d1 d1;intro z m;have m:z=s\/z=s*(s-1) / 2\/z=s*(s-1)*(2*s-1) / 6\/z=s*(s-1) / 2*(s*(s-1) / 2):=by
  have:z∈[s,s*(s-1) / 2,s*(s-1)*(2*s-1) / 6,s*(s-1) / 2*(s*(s-1) / 2)]:=m;simpa using this
 rcases m with rfl|rfl|rfl|rfl
 ·exact cH e tb_g%
 ·exact cH d1 tb_g%
 ·exact cH d2 tb_g%
 ·exact cH d3 tb_g%
theorem ara{w:Nat}(h:1<=w):(1152921504606846976:Int) / 2 ^ w<=576460752303423488:=by
 obtain⟨u,rfl⟩:∃u,w=u+1:=#[w-1,by lia];have p:(0:Int)<2 ^ u:=QH tb_g%;rw[mj,DX,<-Int.ediv_ediv_of_nonneg tb_g%];exact Int.ediv_le_self _ tb_g%
theorem Tru.dist(h:Tru x rs):ao1 x.room x.di.v (srt (My.up x.di.v x.di.C))<=((aV [] (prw 0 rs)).length:Int)/\((aV [] (prw 0 rs)).length:Int)<=acN x.di.n x.di.v (srt (My.up x.di.v x.di.C)):=by
 have eL:(aV [] (prw 0 rs)).length=x.di.C.length:=by
  rw[<-gJ];exact((Xu (Ax _ (c:=[]) qY) h.di.nd).mpr fun z=>by rw[h.di.m z,ud];show#[fun m=>m.resolve_left fun y=>(nomatch y),.inr]).length_eq
 have u0:My.up 0 x.di.C=x.di.C:=aoG fun z _=>mk_0 z;obtain⟨v0,_,hl⟩:=h.kh.dl;have dn:=h.di.n;have dc:=h.kh.dc;have few:=h.kh.few;unfold ao1 acN;rw[eL,fj];by_cases z:x.di.v=0
 ·rw[mB z,mB z,z,u0];show#[bR _,bR _]
 ·rw[mw z,mw z];have p:=hl 0 (bR _) tb_g%;rw[u0]at p;have hf:=ara (w:=x.di.v.toNat) tb_g%;show#[by lia,?_];split <;> lia
theorem Tru.last(h:Tru x rs){m:Int}(m1:1<=m)(m2:m<=x.reach):WN.low (x.wi.c-m) (bx x.wi.ps)<=WN.Tr (WN.rows (ars rs)) (WN.clock (ars rs)-m)/\WN.Tr (WN.rows (ars rs)) (WN.clock (ars rs)-m)<=WN.low (x.wi.c-m) (bx x.wi.ps)+WN.cut (x.wi.c-m) (bx x.wi.ps):=by
 rw[<-h.wi.c];exact h.wi.i.holds m1 m2
theorem Tru.sm(h:Tru x rs):Sm (subQ x.ba.q (Lq x.span)):=by
 have s9:=h.s1.2;obtain⟨a,b,c,d⟩:=UJ (c:=brw x.span rs) fun p m=>by
  obtain⟨r,mr,rfl⟩:=dU.mp m;obtain⟨m1,m2⟩:=jA.mp mr;have:=mP m2;have ok:=h.ok r m1;show#[?_,ok.t0,by show r.th<_;lia];show(r.w*(1-2*r.kd)).natAbs<=_;have k0:=ok.k0;have w2:=ok.w2;have w1:=ok.w1;rcases(show r.kd=0\/r.kd=1 by lia)with e|e <;> rw[e] <;> lia
 have dd:=avh h.s1.1 s9;have len:(brw x.span rs).length<=63:=cH (aaW _ _) h.kh.few;have key:∀{u v:Int}{B:Nat},u.natAbs<=(brw x.span rs).length*B->B<=2 ^ 153->v.natAbs<=2 ^ 130->(u-v).natAbs<2 ^ 200:=fun {u v B} h1 h2 h3=>by
  have:=ad1 len h2;exact BK (cH (ak4 u v) (YC (cH h1 this) h3)) tb_g%
 rw[h.ba];show#[key a tb_g% (dd _ (by simp[L4])),key b tb_g% (dd _ (by simp[L4])),key c tb_g% (dd _ (by simp[L4])),key d tb_g% (dd _ (by simp[L4]))]
theorem aje{K:aH}(ha:Pos H a ps)(hb:Pos H b qs)(e:po ps=po qs):Alike K H 2 (.ref a) (.ref b):=by
 have l:=mM jF e;unfold po at e l;rw[aC,aC]at l;refine .lst (.inl (.inl ha.l)) (.inl (.inl hb.l)) (by rw[aC,aC,l]) fun i p q hp hq=>?_;rw[dG]at hp hq;obtain⟨u,hu,rfl⟩:=BR.mp hp;obtain⟨w,hw,rfl⟩:=BR.mp hq;have e2:u.2=w.2:=by
  have:=mM (fun l=>l[i]?) e;simp only[dG,hu,hw,aes]at this;exact cA this
 have h2:=hb.t w (mv hw);rw[<-e2]at h2;refine .tup (.inl (.inl (ha.t u (mv hu)))) (.inl (.inl h2)) rfl fun j v w hv1 hw1=>?_;obtain rfl:=cA (hv1.symm.trans hw1);have:=mv hv1;simp only[aX,fH,or_false]at this;rcases this with rfl|rfl <;> exact .flat rfl
theorem Ow(T:Tx K mg A):FnK P w base T.qF CX0 6 (apd A):=by
 k_dat (T.qF,T.qF.ok,xH) "f"
 ·obtain⟨x,R,ts,c,rfl,hv,q⟩:=h;have few:=hv.few;have tr:=hv.tr;show#[_,by k_dat ([fK,aeY,an2,pe_or],[xH.nd,aD (oK T) ?_,zu ?_ T.gQ T.dZ.m (Ah T).2 tb_g% T.dZ.b .nil Gu,aD (wI T) ?_,aU ?_ T.gQ (Lr T) ?_,aD (ajb T) ?_,ag7 T.acu ?_ ⟨rfl,rfl⟩ rfl,bZ (lG rfl) (by rfl) T.Mz DK ?_,aD (Ov T) ?_,aD (apc T) ?_,zu ?_ T.gQ T.iz.m (Ou T).2 tb_g% T.iz.b .nil Gu],[]) "p",?_]
  k_dat lq "c"
  show#[_,rfl,R,ts,0,rfl,hv.rw,few,fun d H1 f s1=>?_]
  k_dat lqg "c"
  have h1:=hv.same s1;obtain⟨b1,b2⟩:=tr.dist;show#[_,rfl,x.k,x.dk,_,rfl,h1.kp.o,kfN tb_g%,x,rfl,h1.kp,x.di.p,x.di.dx,x.di.l,x.room,x.di.n,x.di.v,_,rfl,h1.kp.di,tr.kh.dl.1,fun t2 H2 ht2 s2=>?_];show#[_,rfl,ZX (.inl (s2 _ _ f)) ?_];rw[jW];show#[t2,_,_,_,rfl,ht2,b1,b2,_,rfl,fW ?_];have s12:=s1.trans s2;have h2:=hv.same s12;show#[_,rfl,_,_,rfl,rfl,(by show(0:Int)<12;decide),_,_,rfl,rfl,_,rfl,_,_,rfl,rfl,(by show(0:Int)<1000;decide),_,_,rfl,rfl,_,rfl,rdG h2.kp.o (Ag T) #[tb_g%,fun p1 hp1=>?_]];have s3:=Same.new (o:=.lst ([1,1+c % 12,1+c % 1000,x.reach].map V.int)) hp1;have g1:(upd H2 p1 (.lst ([1,1+c % 12,1+c % 1000,x.reach].map V.int))) p1=some (.lst ([1,1+c % 12,1+c % 1000,x.reach].map V.int)):=aj;rw[show HO.lst [V.int 1,V.int (1+c % 12),V.int (1+c % 1000),V.int x.reach]=.lst ([1,1+c % 12,1+c % 1000,x.reach].map V.int)from rfl];generalize upd H2 p1 (.lst ([1,1+c % 12,1+c % 1000,x.reach].map V.int))=H3 at s3 g1 ⊢;have hL:∀m∈[1,1+c % 12,1+c % 1000,x.reach],1<=m:=fun m h=>by
   have:=tr.c1.1;simp only[aX,fH,or_false]at h;lia
  generalize [1,1+c % 12,1+c % 1000,x.reach]=L at g1 hL;have f:=(s2.trans s3) _ _ f;have s13:=s12.trans s3;have h3:=hv.same s13;show#[p1,rfl,#[_,.inl (.inl g1)],dR (K:=K) (a:=p1) (xs:=L.map V.int) (fun i σ G=>∃y:Option V,σ=[some (.ref x.k),some (.ref R),some (.int c),some (.ref d),y,none,none,none]/\Same H3 G) #[none,rfl,Same.refl _] (fun i σ G _ ⟨_,_,z⟩=>.inl (.inl (z _ _ g1))) ?_ ?_]
  ·rintro i v σ G hi ⟨y,rfl,sG⟩;obtain⟨m,hm,rfl⟩:=int_at hi;have m1:=hL m (mv hm);have hg:=h3.same sG;show#[_,rfl,_,rfl,rdG hg.kp.o (Ag T) #[_,_,rfl,rfl,_,rfl,cW (fun h=>?_) (fun _=>fW #[_,rfl,sG])]];have m2:m<=x.reach:=mP h;obtain⟨c1,c2⟩:=tr.last m1 m2;show#[_,rfl,x.k,x.dk,_,rfl,hg.kp.o,kfN tb_g%,_,rfl,x,m,rfl,hg.kp,x.wi.p,x.wi.dx,x.wi.l,x.room,x.reach,x.wi.c,m,x.wi.ps,rfl,hg.kp.wi,(by have:=tr.kh.wl;have:=tr.kh.few;lia),m1,m2,fun t J _ ht sJ=>?_];show#[_,rfl,_,rfl,R,ts,m,rfl,hg.rw.same sJ,few,tr.ok,t,_,_,_,rfl,ht,c1,c2,_,rfl,fW #[_,rfl,sG.trans sJ]]
  ·rintro σ G ⟨y,rfl,sG⟩;have f:=sG _ _ f;have sG:=s13.trans sG;show#[_,rfl,d,_,vals (aV [] (prw 0 (rw3 ts))),rfl,.inl f,RJ _,?_];rw[Ay _ (c:=[]) qY,show(vals []).sum=0 from rfl,kY,<-tr.up.t]
   k_dat lqg "c"
   k_dat lqf "c"
   show#[_,rfl,_,rfl,_,rfl,_,_,rfl,_,_,rfl,rfl,(by show(0:Int)<if x.up.x.tt>1 then x.up.x.tt else 1;split <;> lia),_,_,rfl,rfl,tb_g%,fun p2 hp2=>?_];obtain⟨w,ew⟩:∃w,1+c % (if x.up.x.tt>1 then x.up.x.tt else 1)=w:=#[_,rfl];have s4:=Same.new (o:=.lst ([1,x.up.x.tt,w].map V.int)) hp2;have g2:(upd G p2 (.lst ([1,x.up.x.tt,w].map V.int))) p2=some (.lst ([1,x.up.x.tt,w].map V.int)):=aj
   dsimp -proj only
   rw[ew,show HO.lst [V.int 1,V.int x.up.x.tt,V.int w]=.lst ([1,x.up.x.tt,w].map V.int)from rfl];generalize upd G p2 (.lst ([1,x.up.x.tt,w].map V.int))=G1 at s4 g2 ⊢;have hM:∀k∈[1,x.up.x.tt,w],0<x.up.x.tt->1<=k/\k<=x.up.x.tt:=fun k m t0=>by
    have e1:=rW c (show(if x.up.x.tt>1 then x.up.x.tt else 1)≠0 by split <;> lia);have e2:=BP c (show 0<(if x.up.x.tt>1 then x.up.x.tt else 1) by split <;> lia);have e3:(if x.up.x.tt>1 then x.up.x.tt else 1)<=x.up.x.tt:=by split <;> lia
    simp only[aX,fH,or_false]at m;lia
   generalize [1,x.up.x.tt,w]=M at g2 hM;have sG1:=sG.trans s4;have h4:=hv.same sG1;show#[p2,rfl,#[_,.inl (.inl g2)],dR (K:=K) (a:=p2) (xs:=M.map V.int) (fun i σ J=>∃z:Option V,σ=[some (.ref x.k),some (.ref R),some (.int c),some (.ref d),y,some (.int x.up.x.tt),z,none]/\Same G1 J) #[none,rfl,Same.refl _] (fun i σ J _ ⟨_,_,z⟩=>.inl (.inl (z _ _ g2))) ?_ ?_]
   ·rintro i v σ J hi ⟨z,rfl,sJ⟩;obtain⟨k,hk,rfl⟩:=int_at hi;show#[_,rfl,_,_,rfl,rfl,_,rfl,cW (fun h=>?_) (fun _=>fW #[_,rfl,sJ])];obtain⟨k1,k2⟩:=hM k (mv hk) (mP h);show#[_,rfl,_,rfl,_,rfl,x,R,ts,k,rfl,h4.same sJ,k1,k2,fun J2 j2=>#[_,rfl,fW #[_,rfl,sJ.trans j2]]]
   ·rintro σ J ⟨z,rfl,sJ⟩
    k_dat lqn "c"
    have h5:=h4.same sJ;show#[_,rfl,_,rfl,rdG h5.kp.o (Bk T) #[R,ts,x.span,rfl,h5.rw,few,tr.ok,tr.s1.1,tr.s1.2,fun J2 j2=>?_,fun l ps J2 nc hin hs hp j2=>?_]]
    ·show#[_,rfl,rfl,_,rfl,cW (fun _=>q _ (sG1.trans (sJ.trans j2))) fun h=>mI (mN rfl) h]
    ·show#[_,rfl,rfl,_,rfl,cW (fun h=>mI (mP h) (by intro z;cases z)) fun _=>?_];have h6:=h5.same j2;rw[<-tr.ba]at hs;show#[_,rfl,x.k,x.dk,_,rfl,h6.kp.o,kfN tb_g%,x,rfl,h6.kp,x.ba.p,x.ba.dx,x.ba.l,x.span,x.ba.q,po ps,rfl,h6.kp.ba,tr.s1.1,tr.s1.2,tr.sm,fun r hr'=>?_,hin,hs,fun y qs J3 eq hq j3 _=>?_]
     ·rw[<-hs]at hr';exact ai8 nc hr'
     ·show#[_,rfl,2,y,l,rfl,rfl,tb_g%,aje hq (hp.same j3) eq,q _ (sG1.trans (sJ.trans (j2.trans j3)))]
theorem arb{w r:Int}(w1:1<=w)(r1:0<=r):w <= -(-w / (r+1))*(r+1)/\1 <= -(-w / (r+1)) /\ -(-w / (r+1))<=w:=by
 have h1:-w / (r+1)*(r+1) <= -w:=ak7 (-w) tb_g%;have h2:-w <= -w / (r+1):=by
  rw[Int.le_ediv_iff_mul_le tb_g%];have:=JL (show 0<=w by lia) r1;rw[iT,alf];lia
 generalize -w / (r+1)=z at h1 h2;have e:-z*(r+1) = -(z*(r+1)):=alf ..;show#[by lia,?_,by lia];refine alQ fun n=>?_;have:=JL (show 0<=z by lia) (show 0<=r+1 by lia);lia
theorem V8(T:Tx K mg A):FnK P w base T.wC CX0 7 (apd A):=by
 k_dat (T.wC,T.wC.ok,Cp) "f"
 ·obtain⟨x,R,ts,c,rfl,hv,q⟩:=h;show#[_,by k_dat ([],[Cp.nd,bZ (lG rfl) (by rfl) T.Mz DK ?_,aD (Lx T) ?_,aD (Ly T) ?_,aD (Ow T) ?_],[]) "p",?_];refine sq fun R1 hR1=>?_;show#[_,rfl,_,_,rfl,rfl,(by show(0:Int)<1000000;decide),_,_,rfl,rfl,hR1 _ _ (sq fun R2 hR2=>?_)];obtain⟨w,ew⟩:∃w,1+c % 1000000=w:=#[_,rfl];rw[ew]
  k_dat ld "c"
  have w1:1<=w:=by lia
  have w2:w<=1000000:=by lia
  have r64:=hv.tr.kh.r64;obtain⟨p1,p2,p3⟩:=arb w1 (show 0<=(x.room:Int) by lia);show#[_,rfl,_,rfl,_,rfl,rdG hv.kp.o (Pu T) #[_,_,rfl,rfl,_,_,rfl,rfl,#[by show(0:Int)<(x.room:Int)+1;lia,by show(x.room:Int)+1<_;lia],_,rfl,hR2 _ _ (sq fun R3 hR3=>?_)]];dsimp only;generalize -(-w / ((x.room:Int)+1))=pt at p1 p2 p3 ⊢;have fin:∀z:Int,1<=z->z<=1000000->w<=z*((x.room:Int)+1)->R3 [some (.ref x.k),some (.ref R),some (.int c),some (.int w),some (.int z)] H:=fun z z1 z2 z3=>by
   refine hR3 _ _ ?_
   k_dat lq "c"
   show#[_,rfl,_,rfl,_,rfl,x,R,ts,c,rfl,hv,fun H1 s1=>#[_,rfl,fW ?_]];have h1:=hv.same s1;show#[_,rfl,_,rfl,_,rfl,_,rfl,x,R,ts,z,w,rfl,h1,z1,z2,w1,w2,z3,fun H2 s2=>#[_,rfl,fW ?_]];show#[_,rfl,_,rfl,_,rfl,x,R,ts,c,rfl,h1.same s2,fun H3 s3=>q _ (s1.trans (s2.trans s3))]
  show#[_,rfl,_,_,rfl,rfl,(by show(0:Int)<3;decide),rfl,_,rfl,cW (fun _=>?_) (fun _=>fin _ p2 tb_g% p1)];have e1:=rW (c / 3) (show w≠0 by lia);have e2:=BP (c / 3) (show 0<w by lia);show#[_,rfl,_,rfl,_,_,rfl,rfl,#[tb_g%,tb_g%],_,rfl,_,_,rfl,rfl,(by show 0<w;lia),_,_,rfl,rfl,_,_,rfl,fin _ ?_ ?_ ?_]
  ·split <;> lia
  ·split <;> lia
  ·split
   ·exact gn p1 (wM tb_g% tb_g%)
   ·exact p1
noncomputable abbrev Lp:=Addr × List Rp
noncomputable def tot(xs:List Lp):Nat:=(xs.map fun x=>x.2.length).sum
theorem qW(a b:List Lp):tot (a++b)=tot a+tot b:=by unfold tot;rw[bM,rK]
theorem PJ(x:Lp):tot [x]=x.2.length:=by unfold tot;simp
structure Lz(H0 H:Hp)(pl:Addr)(pcs:List Lp)(n:Nat):Prop where
 scr:Same H0 H
 l:H pl=some (.lst (pcs.map fun x=>V.ref x.1))
 a:∀x∈pcs,Rwt H x.1 x.2/\H0 x.1=none/\x.1≠pl/\∀r∈rw3 x.2,r.ok
 d:pcs.Pairwise fun a b=>a.1≠b.1
 t:tot pcs<=n
 m:pcs.length<=12
 z:H0 pl=none
theorem Lz.same(h:Lz H0 H pl pcs n)(s:Same H H'):Lz H0 H' pl pcs n:=#[h.scr.trans s,s _ _ h.l,fun x m=>by obtain⟨a,b⟩:=h.a x m;show#[a.same s,b],h.d,h.t,h.m,h.z]
theorem Lz.more(h:Lz H0 H pl pcs n)(hq:H q=none)(hm:pcs.length<12):Lz H0 (upd (upd H q (.lst [])) pl (.lst ((pcs.map fun x=>V.ref x.1)++[.ref q]))) pl (pcs++[(q,[])]) n:=by
 have npq:pl≠q:=ak h.l hq;have keep:∀b o,H b=some o->b≠pl->∀L,(upd (upd H q (.lst [])) pl L) b=some o:=fun b o e n L=>by rwa[ao n,ao (ak e hq)]
 show#[fun b o e=>keep b o (h.scr b o e) (ak e h.z) _,by rw[aj,bM];rfl,fun x m=>?_,?_,by rw[qW,PJ];exact h.t,by rw[dw];show pcs.length+1<=12;lia,h.z]
 ·rcases bO.mp m with m|m
  ·obtain⟨a1,a2,a3,a4⟩:=h.a x m;show#[#[keep _ _ a1.o a3 _,fun p mp=>keep _ _ (a1.t p mp) (fU (a1.t p mp) h.l (by intro z;cases z)) _],a2,a3,a4]
  ·rw[cC.mp m];show#[#[by rw[ao (aG npq),aj];rfl,(fun p mp=>nomatch mp)],h.scr.free hq,aG npq,(fun p mp=>nomatch mp)]
 ·rw[lW];show#[h.d,PN _ _,fun a ha b hb=>?_];rw[cC.mp hb];exact ak (h.a a ha).1.o hq
theorem Lz.grow{H0 H:Hp}{pl t:Addr}{pcs:List Lp}{x:Lp}{r:R3}{n:Nat}(h:Lz H0 H pl (pcs++[x]) n)(ht:H t=some (r3V r))(ok:r.ok):Lz H0 (upd H x.1 (.lst ((x.2.map fun p=>V.ref p.1)++[.ref t]))) pl (pcs++[(x.1,x.2++[(t,r)])]) (n+1):=by
 obtain⟨a1,a2,a3,a4⟩:=h.a x (by simp);have dd:=lW.mp h.d;have keep:∀b o,H b=some o->b≠x.1->∀L,(upd H x.1 L) b=some o:=fun b o e n L=>by rwa[ao n]
 have kT:∀p∈x.2++[(t,r)],H p.1=some (r3V p.2):=fun p m=>(bO.mp m).elim (a1.t p) fun m=>by rwa[cC.mp m]
 show#[fun b o e=>keep b o (h.scr b o e) (ak e a2) _,?_,fun y m=>?_,?_,?_,?_,h.z]
 ·have:=h.l;rw[bM]at this ⊢;exact keep _ _ this (aG a3) _
 ·rcases bO.mp m with m|m
  ·obtain⟨b1,b2,b3,b4⟩:=h.a y (by simp[m]);have nyx:y.1≠x.1:=dd.2.2 y m x (by simp);show#[#[keep _ _ b1.o nyx _,fun p mp=>keep _ _ (b1.t p mp) (fU (b1.t p mp) a1.o (by intro z;cases z)) _],b2,b3,b4]
  ·rw[cC.mp m];show#[#[by show(upd _ x.1 _) x.1=_;rw[aj,bM];rfl,fun p mp=>keep _ _ (kT p mp) (fU (kT p mp) a1.o (by intro z;cases z)) _],a2,a3,fun z mz=>?_];rw[show rw3 (x.2++[(t,r)])=rw3 x.2++[r]from bM]at mz;exact(bO.mp mz).elim (a4 z) fun m=>by rw[cC.mp m];exact ok
 ·rw[lW];show#[dd.1,PN _ _,fun u hu v hv=>?_];rw[cC.mp hv];exact dd.2.2 u hu x (by simp)
 ·have:=h.t;rw[qW,PJ]at this ⊢;rw[dw];show tot pcs+(x.2.length+1)<=n+1;lia
 ·have:=h.m;rw[dw]at this ⊢;exact this
noncomputable def ape(K:aH):Sp:=fun vs H Q _=>Ex2 fun(a:Addr) (ns:List Int)=>oJ (vs=[.ref a]) (SqL K H a (ns.map V.int)) (ns.length<=63) (∀(pl:Addr)(pcs:List Lp)(H':Hp),Lz H H' pl pcs 63->0<pcs.length->Q (.ref pl) H')
theorem acV(T:Tx K mg A):FnK P w base T.Fx CX0 4 (ape K):=by
 k_dat (T.Fx,T.Fx.ok,M5) "f"
 ·obtain⟨a,ns,rfl,hS,hlen,q⟩:=h;show#[_,by k_dat ([fK],[M5.nd,aD (acK T) ?_],[]) "p",?_]
  k_dat lq "c"
  show#[tb_g%,fun e0 he0=>#[tb_g%,fun pl hpl=>?_]];have ne0:e0≠pl:=fun z=>by rw[<-z,aj]at hpl;cases hpl
  have ps0:Lz H (upd (upd H e0 (.lst [])) pl (.lst [.ref e0])) pl ([]++[(e0,[])]) 0:=by
   show#[(Same.new he0).trans (Same.new hpl),aj,fun x m=>?_,PN _ _,bC _,tb_g%,(Same.new he0).free hpl];rw[cC.mp m];show#[#[by show(upd _ pl _) e0=_;rw[ao ne0,aj];rfl,(fun p mp=>nomatch mp)],he0,ne0,(fun p mp=>nomatch mp)]
  generalize upd (upd H e0 (.lst [])) pl (.lst [.ref e0])=H1 at ps0 ⊢;show#[_,rfl,a,rfl,#[_,ps0.scr.seq hS],dR (K:=K) (a:=a) (xs:=ns.map V.int) (fun i σ G=>Ex3 fun(pcs:List Lp) (x:Lp) (x2:Option V)=>σ=[some (.ref a),some (.ref pl),x2]/\Lz H G pl (pcs++[x]) i) #[[],(e0,[]),none,rfl,ps0] (fun i σ G _ ⟨_,_,_,_,h⟩=>h.scr.seq hS) ?_ ?_]
  ·rintro i y σ G hi ⟨pcs,x,x2,rfl,ok⟩;obtain⟨cell,_,rfl⟩:=int_at hi;have hi63:i<63:=by
    have:=(dh.mp hi).1;rw[aC]at this;lia
   refine sq fun R hR=>?_
   k_dat ld "c"
   have fin:∀(pcs:List Lp)(x:Lp)(G:Hp),Lz H G pl (pcs++[x]) i->R [some (.ref a),some (.ref pl),some (.int cell)] G:=fun pcs x G ok=>by
    refine hR _ _ ?_;have a1:=(ok.a x (by simp)).1;have hl:G pl=some (.lst ((pcs.map fun x=>V.ref x.1)++[V.ref x.1])):=by have:=ok.l;rwa[bM]at this
    have tx:=ok.t;rw[qW,PJ]at tx
    k_dat ld "c"
    show#[_,rfl,_,rfl,dj (.inl (.inl hl)) (v:=.ref x.1) (amG _ _) #[.inl #[rfl,_,.inl (.inl a1.o)],_,rfl,_,_,rfl,rfl,#[tb_g%,tb_g%],_,rfl,fun t r G1 okr _ ht s1=>?_]];show#[x.1,_,_,rfl,rfl,(a1.same s1).o,aM (by rw[aC];lia),pcs,(x.1,x.2++[(t,r)]),_,rfl,(ok.same s1).grow ht okr]
   show#[_,rfl,_,_,rfl,rfl,#[tb_g%,tb_g%],_,_,rfl,rfl,(by show(0:Int)<6;decide),rfl,_,rfl,cW (fun h7=>?_) (fun h7=>fW (fin pcs x G ok))];show#[_,rfl,eX (.inl (.inl ok.l)) #[_,_,rfl,rfl,_,rfl,cW (fun h10=>?_) (fun h10=>fin pcs x G ok)]];have h10:(((pcs++[x]).map fun x=>V.ref x.1).length:Int)<12:=mP h10;rw[aC]at h10;show#[_,rfl,.inl #[rfl,_,.inl (.inl ok.l)],tb_g%,fun e1 he1=>?_];show#[pl,_,_,rfl,rfl,by rw[ao (ak ok.l he1)];exact ok.l,aM (by rw[aC];lia),fin _ (e1,[]) _ (ok.more he1 tb_g%)]
  ·rintro σ G ⟨pcs,x,x2,rfl,ok⟩;rw[aC]at ok;show#[_,rfl,q pl _ G #[ok.scr,ok.l,ok.a,ok.d,by have:=ok.t;lia,ok.m,ok.z] (by simp)]
theorem Kp.live{A:Ad}(h:Kp A H x):∀b∈x.all,∃C e fs,H b=some (.ins C e fs):=by
 intro b m;unfold KS.all at m;simp only[aX,fH,or_false]at m;rcases m with rfl|rfl|rfl|rfl|rfl|rfl|rfl|rfl
 ·show#[_,_,_,h.o]
 ·show#[_,_,_,h.cm.o]
 ·show#[_,_,_,h.wn.o]
 ·show#[_,_,_,h.up.o]
 ·show#[_,_,_,h.dn.o]
 ·show#[_,_,_,h.wi.o]
 ·show#[_,_,_,h.di.o]
 ·show#[_,_,_,h.ba.o]
theorem Kp.off{A:Ad}{x z:KS}(h:Kp A H x)(fz:∀b∈z.all,H b=none):∀b∈x.all,b∉z.all:=fun b m m2=>by
 obtain⟨_,_,_,e⟩:=h.live b m;have:=fz b m2;rw[e]at this;cases this
theorem Kp.chg{A:Ad}(h:Kp A H x){L:Addr}{as:List Addr}{o:HO}(hL:H L=some (.lst (as.map V.ref)))(n:L∉x.ems):Kp A (L2.upd H L o) x:=by
 unfold KS.ems at n;simp only[aX,bO,not_or]at n;obtain⟨n1,n2,n3,n4,n5,n6⟩:=n;have kI:∀{b C e:Addr} {fs:List (Str × V)},H b=some (.ins C e fs)->(L2.upd H L o) b=some (.ins C e fs):=fun e=>by rwa[ao (fU e hL (by intro z;cases z))]
 have kD:∀{b:Addr} {kv:List (Key × V)},H b=some (.dK kv)->(L2.upd H L o) b=some (.dK kv):=fun e=>by rwa[ao (fU e hL (by intro z;cases z))]
 have kT:∀{b:Addr}{vs:List V},H b=some (.tup vs)->(L2.upd H L o) b=some (.tup vs):=fun e=>by rwa[ao (fU e hL (by intro z;cases z))]
 have kL:∀{b:Addr}{vs:List V},L≠b->H b=some (.lst vs)->(L2.upd H L o) b=some (.lst vs):=fun m e=>by rwa[ao (aG m)]
 have rl:∀{p:Addr}{y:Rs},L≠y.a->L∉y.bs->RnX A H p y->RnX A (L2.upd H L o) p y:=fun {p y} m1 m2 R=>#[kI R.o,kL m1 R.l.o,R.l.n,fun i b l e1 e2=>kL (fun z=>m2 (by rw[z];exact mv e1)) (R.l.e i b l e1 e2),R.l.x];show#[kI h.o,#[kI h.cm.o,kD h.cm.d],#[kI h.wn.o,kD h.wn.d],rl n1 n5 h.up,rl n2 n6 h.dn,#[kI h.wi.o,kL n3 h.wi.b.l,fun z m=>kT (h.wi.b.t z m)],#[kI h.di.o,kL n4 h.di.l],#[kI h.ba.o,kL (fun z=>?_) h.ba.l],h.nd];have e:=h.ba.l;rw[<-z,hL]at e;cases as with
 |nil=>cases e
 |cons a r=>cases e
structure En where
 (t:Addr) (x:KS) (R:Addr) (ts:List Rp)
structure Ea(A:Ad)(H:Hp)(room:Nat)(reach span:Int)(l:Addr)(e:En):Prop where
 t:H e.t=some (.tup [.ref e.x.k,.ref e.R])
 v:Hv A H e.x e.R e.ts
 s:e.x.room=room/\e.x.reach=reach/\e.x.span=span
 n:l∉e.x.ems/\l≠e.R
theorem Ea.same{A:Ad}(h:Ea A H room reach span l e)(s:Same H H'):Ea A H' room reach span l e:=#[s _ _ h.t,h.v.same s,h.s,h.n]
theorem Ea.chg{A:Ad}{as:List Addr}(h:Ea A H room reach span l e)(hl:H l=some (.lst (as.map V.ref))):Ea A (upd H l o) room reach span l e:=by
 have kT:∀{b:Addr}{vs:List V},H b=some (.tup vs)->(upd H l o) b=some (.tup vs):=fun e=>by rwa[ao (fU e hl (by intro z;cases z))]
 show#[kT h.t,#[h.v.kp.chg hl h.n.1,#[by rw[ao (aG h.n.2)];exact h.v.rw.o,fun p m=>kT (h.v.rw.t p m)],h.v.tr],h.s,h.n]
noncomputable def Gd(es:List En):Nat:=(es.map fun e=>e.ts.length).sum
theorem Aj(a b:List En):Gd (a++b)=Gd a+Gd b:=by unfold Gd;rw[bM,rK]
theorem LC(x:En)(b:List En):Gd (x::b)=x.ts.length+Gd b:=by unfold Gd;rw[cX,qZ]
structure Lf(A:Ad)(H:Hp)(room:Nat)(reach span:Int)(l:Addr)(es:List En):Prop where
 o:H l=some (.lst ((es.map (·.t)).map V.ref))
 e:∀e∈es,Ea A H room reach span l e
theorem Lf.same{A:Ad}(h:Lf A H room reach span l es)(s:Same H H'):Lf A H' room reach span l es:=#[s _ _ h.o,fun e m=>(h.e e m).same s]
theorem Lf.set{A:Ad}(h:Lf A H room reach span l es)(g:∀e∈es',Ea A H room reach span l e):Lf A (upd H l (.lst ((es'.map (·.t)).map V.ref))) room reach span l es':=#[aj,fun e m=>(g e m).chg h.o]
theorem apf{α:Type}:∀{ls:List α}{n:Nat},n+1<ls.length->∃pre x y post,ls=pre++x::y::post/\pre.length=n
 |x::y::post,0,_=>#[[],x,y,post,rfl,rfl]
 |[x],0,h=>by simp at h
 |x::ls,n+1,h=>by
  obtain⟨pre,a,b,post,e,l⟩:=apf (ls:=ls) (n:=n) (by simpa using h);show#[x::pre,a,b,post,by rw[e];rfl,by rw[fu,l]]
theorem apg{α:Type}(x y:α)(post:List α):∀pre:List α,(pre++x::y::post).eraseIdx (pre.length+1)=pre++x::post
 |[]=>rfl
 |a::pre=>by
  show a::(pre++x::y::post).eraseIdx (pre.length+1)=_;rw[apg x y post pre];rfl
theorem set2{α:Type}(x z:α)(post:List α):∀pre:List α,(pre++x::post).set pre.length z=pre++z::post
 |[]=>rfl
 |a::pre=>by
  show a::(pre++x::post).set pre.length z=_;rw[set2 x z post pre];rfl
theorem at2{α:Type}{pre post:List α}{x:α}{i:Int}(h:i=(pre.length:Int)):atI (pre++x::post) i=some x:=by
 subst h;exact Gp (by rw[xZ (bC _),Qz];rfl)
noncomputable def lenO:Option HO->Nat
 |some (.lst xs)=>xs.length
 |_=>0
noncomputable def lenOf(σ:St)(H:Hp):Nat:=match σ with
 |_::_::_::some (.ref l)::_=>lenO (H l)
 |_=>0
theorem avi(T:Tx K mg A):FnK P w base T.aor CX0 9 (aoy K):=by
 k_dat (T.aor,T.aor.ok,aox) "f"
 ·obtain⟨a,ns,rfl,hS,hlen,q⟩:=h;show#[_,by (k_dat ([hdA,fK],[aox.nd,bZ (Kw rfl) (by rfl) T.acu aea ?_,aD (V4 T) ?_,aD (acJ T) ?_,aD (acV T) ?_,gF T.aeR T.T6 (uM T) ?_,aD (aiZ T) ?_,arv alI PySem.F.slot_list_pop PySem.F.type_list_pop amJ ?_ ?_,aD (ai2 T) ?_,aD (V8 T) ?_],[]) "p"; k_dat dX "h"; k_dat dX "h"; k_dat sV "h"),?_];obtain⟨cs,ecs,lcs,_⟩:=Hj ns none (some 1);refine sq fun X1 h1=>?_;show#[_,rfl,_,rfl,a,_,rfl,hS,fun z hz=>?_];rw[ecs];show#[z,_,rfl,.inl (.inl aj),?_]
  k_dat (nwA hz,H0,s0,fH0) "n"
  show#[_,rfl,fun t room reach span H1 r2 r64 ev rr hre hsp ht s1=>?_];have s01:=s0.trans s1;refine h1 _ _ (sq fun X2 h2=>?_);obtain⟨c2,ec2,_,_⟩:=Hj ns (some (-1)) none;show#[_,rfl,_,rfl,_,rfl,a,_,rfl,s01.seq hS,fun z2 hz2=>?_];rw[ec2];show#[z2,_,rfl,.inl (.inl aj),?_]
  k_dat (nwA hz2,H2,s2,fH2) "n"
  have s02:=s01.trans s2;have ht2:=s2 _ _ ht;show#[c2.sum,40692,2147483579,rfl,tb_g%,tb_g%,tb_g%,fun cell _ _=>h2 _ _ (sq fun X3 h3=>?_)]
  k_dat ld "c"
  show#[tb_g%,fun l hl=>h3 _ _ (sq fun X4 h4=>?_)]
  k_dat (nwA hl,H3,zH3,f3) "n"
  have s3:=s02.trans zH3;have ht3:=zH3 _ _ ht2;refine⟨_,rfl,a,ns,rfl,s3.seq hS,hlen,fun pl pcs H4 po p0=>?_⟩;have npl:pl≠l:=aG (ak f3 po.z);have nR:∀p∈pcs,p.1≠l:=fun p m=>aG (ak f3 (po.a p m).2.1);have nT:∀{b:Addr}{vs:List V},H4 b=some (.tup vs)->b≠l:=fun e=>fU e (po.scr _ _ f3) (by intro z;cases z);have ht4:=po.scr _ _ ht3;refine⟨pl,rfl,⟨_,.inl (.inl po.l)⟩,dR (K:=K) (a:=pl) (xs:=pcs.map fun x=>V.ref x.1) (fun i σ G=>Ex4 fun(es:List En) (y4 y5 y6:Option V)=>uF (σ=[some (.ref a),some (.ref t),some (.int cell),some (.ref l),y4,y5,y6,none,none,none]) (Lf A G room reach span l es) (es.length=i) (Gd es=tot (pcs.take i)) (L2.But l H4 G)) ⟨[],none,none,none,rfl,⟨po.scr _ _ f3,fun _ m=>nomatch m⟩,rfl,rfl,(Same.refl _).but _⟩ (fun i σ G _ ⟨_,_,_,_,_,_,_,_,z⟩=>.inl (.inl (z _ _ po.l npl))) ?_ ?_⟩
  ·rintro i v σ G hi ⟨es,y4,y5,y6,rfl,lf,li,lt,bG⟩;obtain⟨p,hp,rfl⟩:∃p,pcs[i]? = some p/\v=V.ref p.1:=by
    rw[dG]at hi;obtain⟨p,hp,e⟩:=BR.mp hi;show#[p,hp,e.symm]
   have mp:=mv hp;obtain⟨rw4,_,_,okp⟩:=po.a p mp;have rwG:Rwt G p.1 p.2:=#[bG _ _ rw4.o (nR p mp),fun z m=>bG _ _ (rw4.t z m) (nT (rw4.t z m))];have htG:=bG _ _ ht4 (nT ht4);have lp:tot (pcs.take (i+1))=tot (pcs.take i)+p.2.length:=by rw[jE,hp,qW];exact mM _ (PJ p)
   have l63:tot (pcs.take (i+1))<=63:=by
    have:=po.t;rw[<-Cv (i+1) pcs,qW]at this;lia
   refine sq fun Y1 g1=>?_
   k_dat ld "c"
   show#[_,rfl,bY (.inl (.inl htG)) (v:=.int room) rfl #[_,rfl,bY (.inl (.inl htG)) (v:=.int reach) rfl #[_,rfl,bY (.inl (.inl htG)) (v:=.int span) rfl ?_]]];refine fun k dk n1 n2 n3=>#[k,dk,room,reach,span,rfl,aj,r2,r64,ev,fun x G1 kx ex1 ek hpts hems bt=>#[rfl,?_]];have up2:Same G (upd (upd G dk (.own k)) k (.ins A.C'5 dk [])):=fun b o e=>by rwa[ao (ak e n1),ao (ak e n2)]
   have s4:Same G G1:=fun b o e=>bt b o (up2 b o e) (ak e n1);have fx:∀b∈x.pts,G b=none:=fun b m=>up2.free (hpts b m);have nfx:l∉x.ems:=fun m=>by have:=up2.free (hems l m);rw[lf.o]at this;cases this
   rw[<-ek];refine g1 _ _ (sq fun Y2 g2=>?_)
   k_dat ld "c"
   show#[_,rfl,p.1,rfl,#[_,.inl (.inl (s4 _ _ rwG.o))],dR (K:=K) (a:=p.1) (xs:=p.2.map fun x=>V.ref x.1) (fun j σ J=>Ex2 fun(x':KS) (z6:Option V)=>Oh (σ=[some (.ref a),some (.ref t),some (.int cell),some (.ref l),some (.ref p.1),some (.ref x'.k),z6,none,none,none]) (Kp A J x') (Tru x' (rw3 (p.2.take j))) (x'.pts=x.pts) ((x'.room=room/\x'.reach=reach/\x'.span=span)) (l∉x'.ems) (Same G J)) #[x,_,rfl,kx,Tru.new ex1 r2 r64 ev rr hre hsp,rfl,#[ex1.room,ex1.reach,ex1.span],nfx,s4] (fun j σ J _ ⟨_,_,_,_,_,_,_,_,z⟩=>.inl (.inl (z _ _ rwG.o))) ?_ ?_]
   ·rintro j v σ J hj ⟨x',z6,rfl,kp,tr,ep,es3,nl,sJ⟩;obtain⟨u,hu,rfl⟩:=ao9 hj;have mu:=mv hu;have oku:=okp u.2 (yh mu);have tk:=Ja hu;have ln:(rw3 (p.2.take j)).length<63:=by
     have:=(dh.mp hu).1;rw[aC,dN];lia
    show#[_,rfl,_,rfl,x',_,u.1,u.2,rfl,kp,tr.kh,ln,sJ _ _ (rwG.t u mu),oku,fun x2 J2 kp2 sr far em=>?_];have sb:=sr.sb;show#[x2,_,by rw[sb.k];rfl,kp2,by rw[tk];exact tr.row ln oku sr,by rwa[sb.pts],#[by rw[sb.room];exact es3.1,by rw[sb.reach];exact es3.2.1,by rw[sb.span];exact es3.2.2],fun m=>?_,fun b o e=>far.pb b o (sJ b o e) fun m=>?_]
    ·rcases em l m with z|z
     ·exact nl z
     ·rw[sJ _ _ lf.o]at z;cases z
    ·rw[ep]at m;rw[fx b m]at e;cases e
   ·rintro σ J ⟨x',z6,rfl,kp,tr,_,es3,nl,sJ⟩;rw[aC,gZ]at tr;have lJ:=lf.same sJ;refine g2 _ _ ?_
    k_dat ld "c"
    show#[_,rfl,.inl #[rfl,_,.inl (.inl lJ.o)],_,rfl,_,rfl,tb_g%,fun t5 ht5=>?_]
    k_dat (nwA ht5,J1,s5,f5) "n"
    have l5:=lJ.same s5;have lf6:=l5.set (es':=es++[#[t5,x',p.1,p.2]]) fun e m=>(bO.mp m).elim (l5.e e) fun m=>by
     rw[cC.mp m];show#[f5,#[kp.same s5,(rwG.same sJ).same s5,tr],es3,nl,aG (nR p mp)]
    rw[bM,bM]at lf6;show#[l,_,_,rfl,rfl,l5.o,aM (by rw[aC,aC];have:=(dh.mp hp).1;have:=po.m;lia),?_];show#[_,_,_,_,rfl,lf6,by rw[dw,li];rfl,?_,fun b o e n=>?_]
    ·rw[Aj,lt,lp];rfl
    ·rw[ao n];exact s5 _ _ (sJ _ _ (bG b o e n))
  ·rintro σ G ⟨es,y4,y5,y6,rfl,lf,li,lt,bG⟩;rw[aC]at li lt;rw[gZ]at lt;have l63:=po.t;have l12:=po.m;refine h4 _ _ ?_
   k_dat lq "c"
   k_dat lqw "c"
   refine tW (fun σ G=>Ex8 fun(es:List En) (cell:Int) (y4 y5 y6 y7 y8 y9:Option V)=>uF (σ=[some (.ref a),some (.ref t),some (.int cell),some (.ref l),y4,y5,y6,y7,y8,y9]) (Lf A G room reach span l es) (0<es.length) (es.length<=12) (Gd es<=63)) lenOf #[es,cell,_,_,_,_,_,_,rfl,lf,by lia,by lia,by lia] ?_ ?_
   ·rintro σ G ⟨es,cell,y4,y5,y6,y7,y8,y9,rfl,lf,l0,l12,t63⟩;have el:(((es.map (·.t)).map V.ref).length:Int)=es.length:=by rw[aC,aC]
    show#[_,rfl,eX (.inl (.inl lf.o)) #[_,_,rfl,rfl,_,rfl,cW (fun hgt=>?_) (fun hgt=>?_)]]
    ·k_dat lq "c"
     have hgt:(1:Int)<(((es.map (·.t)).map V.ref).length:Int):=mP hgt;rw[el]at hgt;show#[_,rfl,_,rfl,eX (.inl (.inl lf.o)) #[_,_,rfl,rfl,_,48271,2147483647,rfl,tb_g%,tb_g%,tb_g%,fun acW _ _=>?_]];show#[_,rfl,_,rfl,eX (.inl (.inl lf.o)) #[_,_,rfl,rfl,_,_,rfl,rfl,(by rw[el];show(0:Int)<(es.length:Int)-1;lia),?_]];obtain⟨n,hn⟩:=Int.eq_ofNat_of_zero_le (rW acW (show(es.length:Int)-1≠0 by lia));have a1:=BP acW (show 0<(es.length:Int)-1 by lia);rw[hn]at a1;rw[el,hn]
     k_dat lqg "c"
     obtain⟨pre,x,y,post,els,epre⟩:=apf (ls:=es) (n:=n) tb_g%;have xt:=lf.e x (by rw[els];simp);have yt:=lf.e y (by rw[els];simp);have lo:=lf.o;rw[els,bM,bM]at lo;have hl1:G l=some (.lst ((pre.map (·.t)).map V.ref++V.ref x.t::V.ref y.t::(post.map (·.t)).map V.ref)):=lo;have lq:((pre.map (·.t)).map V.ref).length=n:=by rw[aC,aC,epre]
     have tsum:Gd es=Gd pre+(x.ts.length+(y.ts.length+Gd post)):=by rw[els,Aj,LC,LC]
     have ix:∀{w:V}{qs:List V},atI ((pre.map (·.t)).map V.ref++w::qs) (n:Int)=some w:=at2 (by rw[lq]);show#[_,rfl,_,rfl,dj (.inl (.inl hl1)) (v:=.ref x.t) ix ?_];show#[_,rfl,.inl #[rfl,_,.inl (.inl hl1)],_,rfl,_,_,rfl,rfl,?_];show#[l,_,_,n+1,.ref y.t,rfl,rfl,hl1,by lia,by lia,?_,?_,?_]
     ·rw[show(n:Int)+1=((n+1:Nat):Int) by lia];exact(ZC (rH (by rw[dw,lq];simp))).1
     ·rw[xZ tb_g%,lq,show n+1-n=1 by lia];rfl
     have er:=apg (V.ref x.t) (V.ref y.t) ((post.map (·.t)).map V.ref) ((pre.map (·.t)).map V.ref);rw[lq]at er;rw[er,show(pre.map (·.t)).map V.ref++V.ref x.t::(post.map (·.t)).map V.ref=((pre++x::post).map (·.t)).map V.ref by rw[bM,bM];rfl];have lf2:=lf.set (es':=pre++x::post) fun e m=>lf.e e (by rw[els];simp at m ⊢; rcases m with m|m|m <;> simp[m]);have yt:=yt.chg (o:=.lst (((pre++x::post).map (·.t)).map V.ref)) lf.o;generalize upd G l (.lst (((pre++x::post).map (·.t)).map V.ref))=G2 at lf2 yt ⊢
     k_dat lqg "c"
     have xt2:=lf2.e x (by simp);have esh:y.x.room=x.x.room/\y.x.reach=x.x.reach/\y.x.span=x.x.span:=#[by rw[yt.s.1,xt.s.1],by rw[yt.s.2.1,xt.s.2.1],by rw[yt.s.2.2,xt.s.2.2]];have few:(rw3 x.ts).length+(rw3 y.ts).length<=63:=by rw[aC,aC];lia
     show#[_,rfl,bY (.inl (.inl xt2.t)) (v:=.ref x.x.k) rfl #[_,rfl,bY (.inl (.inl yt.t)) (v:=.ref y.x.k) rfl ?_]];show#[x.x,y.x,_,_,rfl,xt2.v.kp,yt.v.kp,xt2.v.tr.alk yt.v.tr esh few,fun z G3 kz pz _ ez s3=>?_];have lf3:=lf2.same s3;have xt3:=xt2.same s3;have yt3:=yt.same s3;have nz:l∉z.ems:=fun m=>by have:=ez l m;rw[lf2.o]at this;cases this
     show#[_,rfl,bY (.inl (.inl xt3.t)) (v:=.ref x.R) rfl #[_,rfl,bY (.inl (.inl yt3.t)) (v:=.ref y.R) rfl ?_]];show#[x.R,y.R,_,_,rfl,rfl,xt3.v.rw.o,yt3.v.rw.o,eF (aM (by rw[aC,aC];lia)),fun R4 hR4=>?_];rw[<-bM]
     k_dat (nwA hR4,G4,s4,f4) "n"
     show#[tb_g%,fun t5 ht5=>?_]
     k_dat (nwA ht5,G5,s5,f5) "n"
     have s45:=s4.trans s5;have lf5:=lf3.same s45;have ea:Ea A G5 room reach span l #[t5,z,R4,x.ts++y.ts]:=by
      show#[f5,#[kz.same s45,#[s5 _ _ f4,fun p m=>s45 _ _ ((bO.mp m).elim (xt3.v.rw.t p) (yt3.v.rw.t p))],?_],#[by rw[pz.room];exact xt.s.1,by rw[pz.reach];exact xt.s.2.1,by rw[pz.span];exact xt.s.2.2],nz,ak lf3.o hR4];show Tru z (rw3 (x.ts++y.ts));rw[show rw3 (x.ts++y.ts)=rw3 x.ts++rw3 y.ts from bM];exact xt2.v.tr.xX yt.v.tr esh few pz
     have lo5:=lf5.o;rw[bM,bM]at lo5;have hl5:G5 l=some (.lst ((pre.map (·.t)).map V.ref++V.ref x.t::(post.map (·.t)).map V.ref)):=lo5;show#[_,rfl,_,rfl,.inl #[l,_,_,n,rfl,rfl,hl5,rH (by rw[dw,lq];simp),?_]];have st:=set2 (V.ref x.t) (V.ref t5) ((post.map (·.t)).map V.ref) ((pre.map (·.t)).map V.ref);rw[lq]at st;rw[st,show(pre.map (·.t)).map V.ref++V.ref t5::(post.map (·.t)).map V.ref=((pre++(#[t5,z,R4,x.ts++y.ts]:En)::post).map (·.t)).map V.ref by rw[bM,bM];rfl];have lf6:=lf5.set (es':=pre++(#[t5,z,R4,x.ts++y.ts]:En)::post) fun e m=>by
      rcases bO.mp m with m|m
      ·exact lf5.e e (by simp[m])
      ·rcases aX.mp m with m|m
       ·rwa[m]
       ·exact lf5.e e (by simp[m])
     generalize upd G5 l (.lst (((pre++(#[t5,z,R4,x.ts++y.ts]:En)::post).map (·.t)).map V.ref))=G6 at lf6 ⊢;have hlen2:es.length=pre.length+2+post.length:=by rw[els];simp;lia
     have len7:(pre++(#[t5,z,R4,x.ts++y.ts]:En)::post).length=es.length-1:=by rw[hlen2];simp;lia
     have zt:=lf6.e #[t5,z,R4,x.ts++y.ts] (by simp);have lo6:=lf6.o;rw[bM,bM]at lo6;have hl6:G6 l=some (.lst ((pre.map (·.t)).map V.ref++V.ref t5::(post.map (·.t)).map V.ref)):=lo6;have t7:Gd (pre++(#[t5,z,R4,x.ts++y.ts]:En)::post)<=63:=by
      rw[Aj,LC];show Gd pre+((x.ts++y.ts).length+Gd post)<=63;rw[dw];lia
     generalize pre++(#[t5,z,R4,x.ts++y.ts]:En)::post=es7 at lf6 len7 t7;have meas:∀J:Hp,Same G6 J->lenO (J l)<lenO (G l):=fun J sJ=>by
      rw[sJ _ _ lf6.o,lf.o];show((es7.map (·.t)).map V.ref).length<((es.map (·.t)).map V.ref).length;rw[aC,aC,aC,aC];lia
     show#[_,rfl,eX (.inl (.inl hl6)) #[_,_,rfl,rfl,(by show(0:Int)<4;decide),rfl,_,rfl,cW (fun _=>?_) (fun _=>fW #[#[es7,acW,_,_,_,_,_,_,rfl,lf6,by lia,by lia,t7],meas _ (Same.refl _)])]];show#[_,rfl,_,rfl,dj (.inl (.inl hl6)) (v:=.ref t5) ix (bY (.inl (.inl zt.t)) (v:=.ref z.k) rfl ?_)];show#[_,rfl,_,rfl,dj (.inl (.inl hl6)) (v:=.ref t5) ix (bY (.inl (.inl zt.t)) (v:=.ref R4) rfl ?_)];show#[_,rfl,z,R4,x.ts++y.ts,acW,rfl,zt.v,fun J sJ=>#[_,rfl,fW #[#[es7,acW,_,_,_,_,_,_,rfl,lf6.same sJ,by lia,by lia,t7],meas J sJ]]]
    ·have hgt:¬ (1:Int)<(((es.map (·.t)).map V.ref).length:Int):=fun z=>hgt (mN z);rw[el]at hgt;obtain⟨x,els⟩:∃x,es=[x]:=by
      rcases es with _|⟨x,_|⟨y,r⟩⟩
      ·cases l0
      ·show#[x,rfl]
      ·rw[fu,fu]at hgt;lia
     subst els;have xt:=lf.e x cJ;show#[_,rfl,dj (.inl (.inl lf.o)) (v:=.ref x.t) rfl (bY (.inl (.inl xt.t)) (v:=.ref x.x.k) rfl ?_)];show#[_,rfl,dj (.inl (.inl lf.o)) (v:=.ref x.t) rfl (bY (.inl (.inl xt.t)) (v:=.ref x.R) rfl ?_)];show#[_,rfl,x.x,x.R,x.ts,cell,rfl,xt.v,fun _ _=>q _]
   ·exact fun σ H Q Q' hq h=>dJ (gY (Sy (gK (aP 3) uz)) (lM _)) σ H Q Q' hq h
theorem V9{us:List Value}(h:us.length=n+1):∃u r,us=u::r/\r.length=n:=by
 cases us with
 |nil=>cases h
 |cons u r=>show#[u,r,rfl,al7 h]
theorem bOf0{K:aH}(F:Fun K x q st f fd)(h:∀kV dc pm an cd ct,Dg (kZ x q (jN st) (jj st) (aq st) .none kV dc pm an cd ct) #[[],[]]=pure []):Binds K fd [] []:=
 F.binds fun _ _ _ _ _ _ us hl=>by
  obtain rfl:=PL hl;exact h _ _ _ _ _ _
theorem bOf1{K:aH}(F:Fun K x q st f fd)(h:∀kV dc pm an cd ct u0,Dg (kZ x q (jN st) (jj st) (aq st) .none kV dc pm an cd ct) #[[u0],[]]=pure [(p0,u0)]):Binds K fd [p0] []:=
 F.binds fun _ _ _ _ _ _ us hl=>by
  obtain⟨u0,r0,rfl,e0⟩:=V9 hl;obtain rfl:=PL e0;exact h _ _ _ _ _ _ u0
theorem bOf2{K:aH}{p0 p1:Str}(F:Fun K x q st f fd)(h:∀kV dc pm an cd ct u0 u1,Dg (kZ x q (jN st) (jj st) (aq st) .none kV dc pm an cd ct) #[[u0,u1],[]]=pure [(p0,u0),(p1,u1)]):Binds K fd [p0,p1] []:=
 F.binds fun _ _ _ _ _ _ us hl=>by
  obtain⟨u0,r0,rfl,e0⟩:=V9 hl;obtain⟨u1,r1,rfl,e1⟩:=V9 e0;obtain rfl:=PL e1;exact h _ _ _ _ _ _ u0 u1
theorem bOf3{K:aH}{p0 p1 p2:Str}(F:Fun K x q st f fd)(h:∀kV dc pm an cd ct u0 u1 u2,Dg (kZ x q (jN st) (jj st) (aq st) .none kV dc pm an cd ct) #[[u0,u1,u2],[]]=pure [(p0,u0),(p1,u1),(p2,u2)]):Binds K fd [p0,p1,p2] []:=
 F.binds fun _ _ _ _ _ _ us hl=>by
  obtain⟨u0,r0,rfl,e0⟩:=V9 hl;obtain⟨u1,r1,rfl,e1⟩:=V9 e0;obtain⟨u2,r2,rfl,e2⟩:=V9 e1;obtain rfl:=PL e2;exact h _ _ _ _ _ _ u0 u1 u2
theorem bOf4{K:aH}{p0 p1 p2 p3:Str}(F:Fun K x q st f fd)(h:∀kV dc pm an cd ct u0 u1 u2 u3,Dg (kZ x q (jN st) (jj st) (aq st) .none kV dc pm an cd ct) #[[u0,u1,u2,u3],[]]=pure [(p0,u0),(p1,u1),(p2,u2),(p3,u3)]):Binds K fd [p0,p1,p2,p3] []:=
 F.binds fun _ _ _ _ _ _ us hl=>by
  obtain⟨u0,r0,rfl,e0⟩:=V9 hl;obtain⟨u1,r1,rfl,e1⟩:=V9 e0;obtain⟨u2,r2,rfl,e2⟩:=V9 e1;obtain⟨u3,r3,rfl,e3⟩:=V9 e2;obtain rfl:=PL e3;exact h _ _ _ _ _ _ u0 u1 u2 u3
theorem LK.fn{K:aH}(h:LK K n q s f):∃fd,Fun K n q s f fd:=by
 obtain⟨oc,od,an,sl,kV,dc,pm,cd,ct,l,c,k⟩:=h;show#[_,at3 l c k]
noncomputable def fdOf{K:aH}{n q:Str}{s:Stmt}{f:Addr}(h:LK K n q s f):FuncData:=alX h.fn
theorem ajf{K:aH}(h:LK K n q s f):Fun K n q s f (fdOf h):=alW h.fn
theorem CK.cl{K:aH}(h:CK K C):Cls K C:=#[h.1,h.2.1,h.2.2.1,h.2.2.2.1]
theorem CK.mk{K:aH}{C f:Addr}{q:Str}{s:Stmt}(h:CK K C)(m:MeK K C "__init__" q s f):Mk K C f:=#[h.2.2.2.2.1,m.1,m.2.1,h.2.2.2.2.2]
theorem MeK.mt{K:aH}(m:MeK K C n q s f)(F:Fun K n q s f fd):Meth K C n f:=#[m.1,m.2.1,F.kp]
theorem gOf{K:aH}(X:K.In h)(G:h.Ns eE mg)(a:GK K x st f)(b:Fun K x x st f (fdOf a.2)->Binds K (fdOf a.2) ps []:=by first|exact fun F=>bOf0 F (by intros;rfl)|exact fun F=>bOf1 F (by intros;rfl)|exact fun F=>bOf2 F (by intros;rfl)|exact fun F=>bOf3 F (by intros;rfl)|exact fun F=>bOf4 F (by intros;rfl)):Fg K mg x st f (fdOf a.2) ps:=#[ajf a.2,b (ajf a.2),oW X G a.1]
theorem mOf{K:aH}(a:MeK K C x q st f)(b:Fun K x q st f (fdOf a.2.2)->Binds K (fdOf a.2.2) ps []:=by first|exact fun F=>bOf1 F (by intros;rfl)|exact fun F=>bOf2 F (by intros;rfl)|exact fun F=>bOf3 F (by intros;rfl)|exact fun F=>bOf4 F (by intros;rfl)):Mg K C x q st f (fdOf a.2.2) ps:=#[ajf a.2.2,b (ajf a.2.2),a.mt (ajf a.2.2)]
noncomputable def RR(w:World)(K:aH)(mg:Str->Option Value)(fa:Addr):Prop:=∃fd:FuncData,(∀s v,JB s fd #[[v],[]] [("_law_script",v)])/\∀base:Heap,K.In base->base.Ns eE mg->tX Mj.prog w K mg base CX0 9 fa fd ["_law_script"] (aoy K)
theorem all_mk:amh RR:=by
 intro w K h mg fa C'0 C'1 C'2 C'3 C'4 C'5 X G hfa aC'0 zf Gj aC'1 tR Al aC'2 mq rB aC'3 mC rC aC'4 pZ vG aC'5 mD rD gk0 gk1 aeM aeN aeO aeP aeQ aeR zk ags Zo tU jk Wo Gk;obtain⟨⟨_,aa0⟩,⟨_,Wa⟩,⟨_,ard⟩,⟨_,ajg⟩,⟨_,aph⟩,⟨_,apj⟩,⟨_,apk⟩,⟨_,avj⟩,⟨_,agf⟩,⟨_,apl⟩,⟨_,ajh⟩,⟨_,agg⟩,⟨_,arf⟩,⟨_,aa1⟩,⟨_,aa2⟩,⟨_,Wb⟩,⟨_,agh⟩,⟨_,aa3⟩,⟨_,apm⟩,⟨_,Jc⟩,⟨_,aji⟩,⟨_,U5⟩,⟨_,agi⟩,⟨_,LQ⟩,⟨_,Jd⟩,⟨_,aa4⟩,⟨_,apn⟩,⟨_,agj⟩,⟨_,agk⟩,⟨_,avk⟩,_⟩:=gk0;obtain⟨⟨_,agl⟩,⟨_,acX⟩,⟨_,acY⟩,⟨_,avl⟩,⟨_,ajj⟩,⟨_,acZ⟩,⟨_,ajk⟩,⟨_,apo⟩,⟨_,ac0⟩,⟨_,arh⟩,⟨_,Ox⟩,⟨_,U6⟩,⟨_,Oz⟩,⟨_,U7⟩,⟨_,aa5⟩,⟨_,agm⟩,⟨arK,ahC⟩,_⟩:=gk1;obtain⟨⟨_,aa6⟩,⟨_,U8⟩,⟨_,Je⟩,⟨_,ac1⟩,⟨_,aa7⟩,⟨_,aa8⟩,⟨_,OD⟩,_⟩:=aeM;obtain⟨⟨_,Cu⟩,⟨_,OJ⟩,⟨_,aa9⟩,⟨_,Wc⟩,⟨_,Wd⟩,_⟩:=aeN;obtain⟨⟨_,xR⟩,⟨_,Jf⟩,⟨_,U9⟩,⟨_,LR⟩,⟨_,Jg⟩,_⟩:=aeO;obtain⟨⟨_,xT⟩,⟨_,Va⟩,⟨_,Vb⟩,⟨_,Vc⟩,⟨_,O1⟩,⟨_,Ma⟩,_⟩:=aeP;obtain⟨⟨_,Ak⟩,⟨_,Wf⟩,⟨_,Vd⟩,⟨_,Wg⟩,_⟩:=aeQ;obtain⟨⟨_,Ve⟩,⟨_,O2⟩,⟨_,O3⟩,⟨_,xU⟩,⟨_,Vf⟩,⟨_,Jh⟩,⟨_,Mf⟩,⟨_,Ge⟩,⟨_,O4⟩,⟨_,Bv⟩,⟨_,Vg⟩,_⟩:=aeR;have e:=hfa.symm.trans (oW X G ahC.1);cases e;obtain⟨na'6,aiI,aiJ,aiK,TX,Xb,Xc,acd,_⟩:=Gj;obtain⟨aha,ahb,TY,acf,_⟩:=Al;obtain⟨ahc,Xd,Xe,acg,_⟩:=rB;obtain⟨ahd,Xf,Xg,ach,_⟩:=rC;obtain⟨ahe,T5,_⟩:=vG;obtain⟨ahf,ahg,ahh,aci,acj,acn,aco,acp,acq,acr,_⟩:=rD;obtain⟨avm,avn,z_int,abb,z_len,avo,z_max,z_min,ari,agn,z_set,apq,z_sum,arj,z_zip,_⟩:=zk;have T:Tx K mg #[C'0,C'1,C'2,C'3,C'4,C'5,_,_,_,_,_,_,_,_,_,_,_,_,_,_,_,_,_,_,_,_,_,_,_,_,_,_,_,_,_,_,_,_,_,_,_,_,_,_,_,_,_,_,_,_,_,_,_,_,_,_,_,_,_,_,_,_,_,_,_,_,_,_,_,_,_,_,_,_,_,_,_,_,_,_,_,_,_,_,_,_,_,_,_,_,_,_,_,_,_,_,_,_,_,_,_,_,_,_,_,_,_,_,_,_,_,_,_,_,_,_,_,_,_,_,_,_,_,_,_,_,_,_,_,_,_,_,_,_,_,_,_,_,_,_,_,_,_,_,_,_,_,_,_,_,_,_,_,_,_,_,_,_,_,_,_,_,_,_,_,_,_,_,_,_,_,_,_,_,_,_]:=#[zf.cl,oW X G aC'0,zf.mk Je,na'6,aiI,aiJ,aiK,TX,Xb,Xc,acd,tR.cl,oW X G aC'1,tR.mk Cu,aha,ahb,TY,acf,mq.cl,oW X G aC'2,mq.mk xR,ahc,Xd,Xe,acg,mC.cl,oW X G aC'3,mC.mk xT,ahd,Xf,Xg,ach,pZ.cl,oW X G aC'4,pZ.mk Ak,ahe,T5,mD.cl,oW X G aC'5,mD.mk xU,ahf,ahg,ahh,aci,acj,acn,aco,acp,acq,acr,gOf X G aa0,gOf X G Wa,gOf X G ard,mOf aa6,mOf U8,gOf X G ajg,gOf X G aph,mOf Je,mOf ac1,gOf X G apj,mOf Cu,mOf OJ,mOf aa9,mOf Wc,gOf X G apk,gOf X G avj,mOf xR,gOf X G agf,mOf Jf,mOf U9,mOf xT,gOf X G apl,gOf X G ajh,mOf Va,mOf Vb,gOf X G agg,mOf Ak,mOf Wf,mOf Vd,mOf Ve,mOf O2,mOf O3,mOf xU,gOf X G arf,gOf X G aa1,gOf X G aa2,gOf X G Wb,gOf X G agh,gOf X G aa3,gOf X G apm,gOf X G Jc,gOf X G aji,gOf X G U5,gOf X G agi,gOf X G LQ,gOf X G Jd,gOf X G aa4,gOf X G apn,mOf aa7,mOf aa8,gOf X G agj,mOf OD,mOf Wd,mOf LR,mOf Jg,mOf Vc,mOf O1,mOf Ma,gOf X G agk,gOf X G avk,gOf X G agl,gOf X G acX,gOf X G acY,gOf X G avl,mOf Wg,mOf Vf,mOf Jh,mOf Mf,mOf Ge,mOf O4,mOf Bv,mOf Vg,gOf X G ajj,gOf X G acZ,gOf X G ajk,gOf X G apo,gOf X G ac0,gOf X G arh,gOf X G Ox,gOf X G U6,gOf X G Oz,gOf X G U7,gOf X G aa5,gOf X G agm,gOf X G ahC,oO X G avm,oO X G avn,oO X G z_int,oO X G abb,oO X G z_len,oO X G avo,oO X G z_max,oO X G z_min,oO X G ari,oO X G agn,oO X G z_set,oO X G apq,oO X G z_sum,oO X G arj,oO X G z_zip,#[_,oW X G Zo,_,rfl],#[_,oW X G jk,_,rfl],#[_,oW X G Gk,_,rfl],zJ _ _ tb_g%,at7 tb_g% tb_g% tb_g%,zJ _ _ tb_g%,zJ _ _ tb_g%];show#[fdOf ahC.2,fun s v=>?_,fun base _ _=>(avi T).2];obtain⟨_,_,_,_,_,_,_,_,_,e,_⟩:=(ajf ahC.2).ex;rw[e];exact .of_eq rfl
theorem walk{YP:World->Heap->Prop}{d:Yu}{K:JC->aH}(hn:Mj.most=some 63)(hdf:d.params.defaults=[])(hY:∀w h,YP w h->(K w.params).In h)(F:∀w mg fa h,(K w.params).In h->h.Ns eE mg->mg d.name=some (.ref fa)->RR w (K w.params) mg fa):adx q loose XP YP Mj.row.toRowW d [] (fun f vs=>Yl f vs):=
 L2.apM (n:=63) (k:=9) (x := "_law_script") (CX:=fun _=>CX0) (sp:=fun w=>aoy (K w.params)) hn tb_g% hdf #[rfl,tb_g%,tb_g%] hY F (fun _ _ a ns hl _ hS=>#[a,ns,rfl,hS,hl,fun _=>rfl]) fun _ _ _ _ _ z=>z
end My
theorem PySem.Challenge.cw_sketchbounds_k42_whole_bounds_through_po_holds : PySem.Challenge.rw_sketchbounds_k42_whole_bounds_through_po.Holds := by
  exact My.head My.RR My.all_mk My.walk

